import PyProof.Rows.All
import Wide.All
import OpenK.AllK
import Wide.FinOn
import Lean
import PyProof.EqAt
import PyProof.EqKinds
import PyProof.TupleCall
import PyProof.NeData
import PyProof.DictRoadsH
import Wide.Seal
import PyProof.CompMap
import PyProof.DictIter
import PyProof.DictWalks
import PyProof.P3In
import PySem.Challenge.RW_askring_k08_whole_each_deed_by_its_looks
set_option Elab.async false
set_option linter.all false
set_option maxRecDepth 100000
/-! THE HAND LAYER, for ints, bools, texts, own classes, LISTS and tuples (index, slices, in, append, pop ..), calls, loops. Paste it whole ahead of your own text; what your proof does not reach may be deleted. -/
namespace L2
open PySem PySem.Spec PyProof.Rows

abbrev Key := Sum Int Str
def keyIs : Key -> Value -> Bool
  | .inl k, v => Value.isInt k v
  | .inr x, v => Value.isStrOf x v
def keyH (w : World) : Key -> Int
  | .inl k => hashInt k
  | .inr x => hashStr w x
theorem keyIs_shape : ∀ {k : Key} {v : Value}, keyIs k v = true -> (∃ i t, k = Sum.inl i /\ v = Value.int i t) \/ (∃ x t, k = Sum.inr x /\ v = Value.str x t)
  | .inl i, v, h => by
    obtain ⟨t, e⟩ := Value.isInt_shape (k := i) (v := v) h
    exact .inl ⟨i, t, rfl, e⟩
  | .inr x, v, h => by
    obtain ⟨t, e⟩ := Value.isStrOf_shape (x := x) (v := v) h
    exact .inr ⟨x, t, rfl, e⟩
theorem keyIs_int (i : Int) (t : Tok) : keyIs (.inl i) (.int i t) = true := by simp [keyIs, Value.isInt]
theorem keyIs_str (x : Str) (t : Tok) : keyIs (.inr x) (.str x t) = true := by simp [keyIs, Value.isStrOf]
theorem key_ll (a b : Int) : decide ((Sum.inl a : Key) = Sum.inl b) = (a == b) := by
  by_cases e : a = b
  · subst e; simp
  · have h : ¬ (Sum.inl a : Key) = Sum.inl b := fun q => e (Sum.inl.inj q)
    rw [decide_eq_false h]
    exact (beq_eq_false_iff_ne.mpr e).symm
theorem key_rr (a b : Str) : decide ((Sum.inr a : Key) = Sum.inr b) = decide (a = b) := by
  by_cases e : a = b
  · subst e; simp
  · have h : ¬ (Sum.inr a : Key) = Sum.inr b := fun q => e (Sum.inr.inj q)
    rw [decide_eq_false h, decide_eq_false e]
theorem key_lr (a : Int) (b : Str) : decide ((Sum.inl a : Key) = Sum.inr b) = false := decide_eq_false (fun q => nomatch q)
theorem key_rl (a : Str) (b : Int) : decide ((Sum.inr a : Key) = Sum.inl b) = false := decide_eq_false (fun q => nomatch q)

def mixKind (prog : Program) (w : World) : PySem.KeyKind prog w Key where
  is := keyIs
  hash := keyH w
  inj := fun v a b ha hb => by
    rcases keyIs_shape ha with ⟨i, t, rfl, rfl⟩ | ⟨x, t, rfl, rfl⟩
    · rcases keyIs_shape hb with ⟨j, u, rfl, e⟩ | ⟨y, u, rfl, e⟩
      · injection e with e1 _; rw [e1]
      · exact nomatch e
    · rcases keyIs_shape hb with ⟨j, u, rfl, e⟩ | ⟨y, u, rfl, e⟩
      · exact nomatch e
      · injection e with e1 _; rw [e1]
  byValue := fun k v h => by
    rcases keyIs_shape h with ⟨i, t, rfl, rfl⟩ | ⟨x, t, rfl, rfl⟩ <;> rfl
  pyHash := fun hv h => by
    rcases keyIs_shape hv with ⟨i, t, rfl, rfl⟩ | ⟨x, t, rfl, rfl⟩
    · exact wpAny_pyHash_int h
    · exact wpAny_pyHash_str h
  eqBool := fun hu hv h => by
    rcases keyIs_shape hu with ⟨i, t, rfl, rfl⟩ | ⟨x, t, rfl, rfl⟩
    · rcases keyIs_shape hv with ⟨j, u, rfl, rfl⟩ | ⟨y, u, rfl, rfl⟩
      · rw [key_ll] at h; exact wpAny_eqBool_int h
      · rw [key_lr] at h; exact SeqAt.EqAt.int_str i t y u _ _ _ _ h
    · rcases keyIs_shape hv with ⟨j, u, rfl, rfl⟩ | ⟨y, u, rfl, rfl⟩
      · rw [key_rl] at h; exact SeqAt.EqAt.str_int x t j u _ _ _ _ h
      · rw [key_rr] at h; exact wpAny_eqBool_str h
  «strs» := fun k x t v h => by
    rcases keyIs_shape h with ⟨i, u, rfl, e⟩ | ⟨y, u, rfl, e⟩
    · exact nomatch e
    · injection e with e1 _
      subst e1
      cases v <;> rfl

theorem mixKind_int (prog : Program) (w : World) (i : Int) (t : Tok) : (mixKind prog w).is (.inl i) (.int i t) = true := keyIs_int i t
theorem mixKind_str (prog : Program) (w : World) (x : Str) (t : Tok) : (mixKind prog w).is (.inr x) (.str x t) = true := keyIs_str x t
end L2

namespace L2
open PySem PySem.Spec PyProof.Rows

inductive V where
  | non | bl (b : Bool) | int (i : Int) | str (x : Str) | byt (b : Array UInt8) | flt (b : UInt64) | ref (a : Addr) | ty (n : String)
  deriving DecidableEq

def RelV : V -> Value -> Prop
  | .non, u => u = Value.none
  | .bl b, u => u = Value.bool b
  | .int i, u => ∃ t, u = Value.int i t
  | .str x, u => ∃ t, u = Value.str x t
  | .byt b, u => ∃ t, u = Value.bytes b t
  | .flt b, u => ∃ t, u = Value.float b t
  | .ref a, u => u = Value.ref a
  | .ty n, u => u = Value.type n

abbrev Vals : List V -> List Value -> Prop := Paired RelV
theorem Vals.length {xs : List V} {us : List Value} (r : Vals xs us) : xs.length = us.length := Paired.length r
theorem Vals.get : ∀ {xs : List V} {us : List Value} {i : Nat} {x : V}, Vals xs us -> xs[i]? = some x -> ∃ u, us[i]? = some u /\ RelV x u
  | _, _, _, _, .nil, e => by simp at e
  | _, _, 0, _, .cons r _, e => by simp at e; subst e; exact ⟨_, rfl, r⟩
  | _, _, i + 1, x, .cons _ t, e => by
    obtain ⟨u, h1, h2⟩ := Vals.get (i := i) (x := x) t (by simpa using e)
    exact ⟨u, by simpa using h1, h2⟩
theorem Vals.set {x : V} {u : Value} (r : RelV x u) : ∀ {xs : List V} {us : List Value} (i : Nat), Vals xs us -> Vals (xs.set i x) (us.set i u)
  | _, _, _, .nil => .nil
  | _, _, 0, .cons _ t => .cons r t
  | _, _, i + 1, .cons q t => .cons q (Vals.set r i t)
theorem Vals.append : ∀ {xs ys : List V} {us ws : List Value}, Vals xs us -> Vals ys ws -> Vals (xs ++ ys) (us ++ ws)
  | _, _, _, _, .nil, s => s
  | _, _, _, _, .cons r t, s => .cons r (Vals.append t s)
theorem Vals.take : ∀ {xs : List V} {us : List Value} (n : Nat), Vals xs us -> Vals (xs.take n) (us.take n)
  | _, _, 0, _ => .nil
  | _, _, _ + 1, .nil => .nil
  | _, _, n + 1, .cons r t => .cons r (Vals.take n t)
theorem Vals.drop : ∀ {xs : List V} {us : List Value} (n : Nat), Vals xs us -> Vals (xs.drop n) (us.drop n)
  | _, _, 0, r => r
  | _, _, _ + 1, .nil => .nil
  | _, _, n + 1, .cons _ t => Vals.drop n t
theorem Vals.none_of : ∀ {xs : List V} {us : List Value} {i : Nat}, Vals xs us -> xs[i]? = none -> us[i]? = none := fun {xs us i} r e => by
  have h1 := r.length
  have h2 : xs.length <= i := List.getElem?_eq_none_iff.mp e
  exact List.getElem?_eq_none_iff.mpr (by omega)

def RelO : Option V -> Option Value -> Prop
  | some v, some u => RelV v u
  | none, none => True
  | _, _ => False
def KV {κ : Type} : List (κ × V) -> List (κ × Value) -> Prop := Paired fun (p : κ × V) (q : κ × Value) => p.1 = q.1 /\ RelV p.2 q.2

def kV : Key -> V
  | .inl i => .int i
  | .inr x => .str x

inductive HO where
  /-- a list -/
  | lst (xs : List V)
  /-- a tuple (never changes) -/
  | tup (xs : List V)
  /-- a dict whose keys are ints and texts; one whose keys are tuples of ints and texts (the empty one is both) -/
  | dK (kvs : List (Key × V)) | dT (kvs : List (List Key × V))
  /-- a set of ints: its members, its size -/
  | set (S : Int -> Bool) (n : Nat)
  /-- an instance of the class at C, its dict at dx, its attributes -/
  | ins (C dx : Addr) (fs : List (Str × V))
  /-- the dict of the instance at x -/
  | own (x : Addr)
  /-- the dict of an exception -/
  | xd (fs : List (Str × V))
  /-- a bound method, f of x -/
  | met (f x : Addr)
  /-- a range object lo, lo + 1, .. below hi -/
  | rng (lo hi : Int)
  /-- a thing that is known to the object (the script; a dict while a loop walks it): read, never written while it is so -/
  | frz (o : Obj) (u : HO)
  /-- a code object's table -/
  | tbl (ps : Array Value)
  /-- any other thing, by what is true of its one object (a def of one's own: SetO a S n := HO.ext fun h => ..) -/
  | ext (φ : Heap -> Prop)

abbrev Hp := Addr -> Option HO
def upd (H : Hp) (a : Addr) (o : HO) : Hp := fun b => if b = a then some o else H b
theorem upd_same {H : Hp} {a : Addr} {o : HO} : upd H a o a = some o := by unfold upd; rw [if_pos rfl]
theorem upd_ne {H : Hp} {a b : Addr} {o : HO} (h : b ≠ a) : upd H a o b = H b := by unfold upd; rw [if_neg h]
theorem upd_upd {H : Hp} {a : Addr} {o u : HO} : upd (upd H a o) a u = upd H a u := by
  funext b; unfold upd; split <;> rfl
theorem ne_of {H : Hp} {a b : Addr} {o u : HO} (h : H a = some o) (h' : H b = some u) (d : o ≠ u) : a ≠ b := by
  intro e; subst e; rw [h] at h'; exact d (Option.some.inj h')
theorem ne_of_none {H : Hp} {a b : Addr} {o : HO} (h : H a = some o) (h' : H b = none) : a ≠ b := by
  intro e; subst e; rw [h] at h'; cases h'

section
variable (P : Program) (w : World)
def ObjOk (H : Hp) (h : Heap) (a : Addr) : HO -> Prop
  | .lst xs => xs.length <= sizeLine /\ ∃ (its : List Value) (n : Nat), Vals xs its /\ h.get? a = some { cls := .type "list", data := .seq its.toArray n }
  | .tup xs => xs.length <= sizeLine /\ ∃ its : List Value, Vals xs its /\ IsTup h a its.toArray
  | .dK kvs => kvs.length <= sizeLine /\ (a == sysModules) = false /\ ∃ vs, KV kvs vs /\ h.DictOf (mixKind P w) a vs
  | .dT kvs => kvs.length <= sizeLine /\ (a == sysModules) = false /\ ∃ xs : List (List Key × Addr × Value),
      Paired (fun (p : List Key × V) (q : List Key × Addr × Value) => p.1 = q.1 /\ H q.2.1 = some (.tup (p.1.map kV)) /\ RelV p.2 q.2.2) kvs xs /\
      ∃ o es ep, h.get? a = some o /\ o.ExactDict /\ o.data = .dict es ep /\ es.toList = xs.map (entryOfKey (tupleKind (mixKind P w))) /\ (xs.map (·.1)).Nodup
  | .set S n => h.SetOf (intKind P w) a S n
  | .ins C dx fs => H dx = some (.own a) /\ fs.length <= 1000 /\ dx ≠ a /\ h.get? a = some (PySem.W.instObj C dx) /\
      ∃ mA, h.Ns1 dx mA /\ (∀ f, RelO (fs.lookup f) (mA f)) /\ PySem.Within mA (fs.map (·.1))
  | .own _ => ∃ o, h.get? a = some o
  | .xd fs => ∃ mA, h.Ns1 a mA /\ ∀ f, RelO (fs.lookup f) (mA f)
  | .rng lo hi => ∃ t u v, h.get? a = some { cls := .type "range", data := .fields #[.int lo t, .int hi u, .int 1 v] }
  | .frz o u => h.get? a = some o /\ ObjOk H h a u
  | .tbl ps => h.get? a = some { cls := .none, data := .fields ps }
  | .met f x => h.get? a = some (PySem.W.methodObj (.ref f) (.ref x))
  | .ext φ => φ h /\ (∃ o, h.get? a = some o) /\ ∀ h1 h2 : Heap, φ h1 -> (∀ o, h1.get? a = some o -> h2.get? a = some o) -> φ h2
def HOk (H : Hp) (h : Heap) : Prop := ∀ a o, H a = some o -> ObjOk P w H h a o
end

section
variable {P : Program} {w : World} {H H' : Hp} {h h' : Heap} {a : Addr} {o : HO}
theorem ObjOk.lt (x : ObjOk P w H h a o) : a < h.objs.size := by
  cases o with
  | lst xs => obtain ⟨_, _, _, _, e⟩ := x; exact Heap.lt_size e
  | tup xs => obtain ⟨_, _, _, p⟩ := x; exact p.lt
  | dK kvs => obtain ⟨_, _, _, _, o, _, _, e, _⟩ := x; exact Heap.lt_size e
  | dT kvs => obtain ⟨_, _, _, _, o, _, _, e, _⟩ := x; exact Heap.lt_size e
  | set S n => obtain ⟨o, _, _, _, e, _⟩ := x; exact Heap.lt_size e
  | ins C dx fs => obtain ⟨_, _, _, e, _⟩ := x; exact Heap.lt_size e
  | own y => obtain ⟨_, e⟩ := x; exact Heap.lt_size e
  | xd fs => obtain ⟨_, ⟨_, _, _, e, _⟩, _⟩ := x; exact Heap.lt_size e
  | rng lo hi => obtain ⟨_, _, _, e⟩ := x; exact Heap.lt_size e
  | frz ob u => obtain ⟨e, _⟩ := x; exact Heap.lt_size e
  | tbl ps => exact Heap.lt_size (show h.get? a = some _ from x)
  | met f y => exact Heap.lt_size (show h.get? a = some _ from x)
  | ext φ => obtain ⟨_, ⟨_, e⟩, _⟩ := x; exact Heap.lt_size e
theorem Paired.mapP {α β : Type} {F G : α -> β -> Prop} : ∀ {l₁ : List α} {l₂ : List β}, Paired F l₁ l₂ -> (∀ a b, F a b -> G a b) -> Paired G l₁ l₂
  | _, _, .nil, _ => .nil
  | _, _, .cons r t, f => .cons (f _ _ r) (Paired.mapP t f)
theorem ObjOk.stay (x : ObjOk P w H h a o) (k : ∀ b u, (b = a \/ H b = some (.own a)) -> h.get? b = some u -> h'.get? b = some u)
    (ho : ∀ b, H b = some (.own a) -> H' b = some (.own a)) (ht : ∀ b xs, H b = some (.tup xs) -> H' b = some (.tup xs)) : ObjOk P w H' h' a o := by
  induction o with
  | lst xs => obtain ⟨z, its, n, r, e⟩ := x; exact ⟨z, its, n, r, k _ _ (.inl rfl) e⟩
  | tup xs => obtain ⟨z, its, r, ob, e, c⟩ := x; exact ⟨z, its, r, ob, k _ _ (.inl rfl) e, c⟩
  | dK kvs => obtain ⟨z, y, vs, r, ob, es, ep, e, c⟩ := x; exact ⟨z, y, vs, r, ob, es, ep, k _ _ (.inl rfl) e, c⟩
  | dT kvs =>
    obtain ⟨z, y, xs, r, ob, es, ep, e, c⟩ := x
    exact ⟨z, y, xs, Paired.mapP r fun p q z => ⟨z.1, ht _ _ z.2.1, z.2.2⟩, ob, es, ep, k _ _ (.inl rfl) e, c⟩
  | set S n => obtain ⟨ob, es, ep, t, e, c⟩ := x; exact ⟨ob, es, ep, t, k _ _ (.inl rfl) e, c⟩
  | ins C dx fs =>
    obtain ⟨d, z, ne, e, mA, ⟨od, es, ep, e2, c⟩, r⟩ := x
    exact ⟨ho _ d, z, ne, k _ _ (.inl rfl) e, mA, ⟨od, es, ep, k _ _ (.inr d) e2, c⟩, r⟩
  | own y => obtain ⟨ob, e⟩ := x; exact ⟨ob, k _ _ (.inl rfl) e⟩
  | xd fs => obtain ⟨mA, ⟨od, es, ep, e, c⟩, r⟩ := x; exact ⟨mA, ⟨od, es, ep, k _ _ (.inl rfl) e, c⟩, r⟩
  | rng lo hi => obtain ⟨t, u, v, e⟩ := x; exact ⟨t, u, v, k _ _ (.inl rfl) e⟩
  | frz ob u ih => obtain ⟨e, q⟩ := x; exact ⟨k _ _ (.inl rfl) e, ih q⟩
  | tbl ps =>
    have e : h.get? a = some { cls := .none, data := .fields ps } := x
    show h'.get? a = some { cls := .none, data := .fields ps }
    exact k a _ (.inl rfl) e
  | met f y =>
    have e : h.get? a = some (PySem.W.methodObj (.ref f) (.ref y)) := x
    show h'.get? a = some (PySem.W.methodObj (.ref f) (.ref y))
    exact k a _ (.inl rfl) e
  | ext φ => obtain ⟨p, ⟨o, e⟩, st⟩ := x; exact ⟨st _ _ p fun o q => k _ _ (.inl rfl) q, ⟨o, k _ _ (.inl rfl) e⟩, st⟩
theorem HOk.lt (x : HOk P w H h) (e : H a = some o) : a < h.objs.size := (x a o e).lt
theorem HOk.fresh (x : HOk P w H h) (e : h.objs.size <= a) : H a = none := by
  cases q : H a with
  | none => rfl
  | some u => exact absurd (Nat.lt_of_lt_of_le (x.lt q) e) (Nat.lt_irrefl _)
theorem HOk.kept (x : HOk P w H h) (k : ∀ b u, h.get? b = some u -> h'.get? b = some u) : HOk P w H h' := fun a o e =>
  (x a o e).stay (fun b u _ q => k b u q) (fun _ q => q) fun _ _ q => q
theorem HOk.laid (x : HOk P w H h) (k : ∀ b u, h.get? b = some u -> h'.get? b = some u) (hp : h.objs.size <= a) (new : ObjOk P w (upd H a o) h' a o) : HOk P w (upd H a o) h' := fun b u e => by
  have hn := x.fresh hp
  by_cases hb : b = a
  · subst hb; rw [upd_same] at e; cases e; exact new
  · rw [upd_ne hb] at e
    exact (x b u e).stay (fun c v _ q => k c v q) (fun c q => by rw [upd_ne (ne_of_none q hn)]; exact q) fun c xs q => by rw [upd_ne (ne_of_none q hn)]; exact q
end

def Rd (H : Hp) (a : Addr) (u : HO) : Prop := H a = some u \/ ∃ o, H a = some (.frz o u)
theorem Rd.of {H : Hp} {a : Addr} {u : HO} (h : H a = some u) : Rd H a u := .inl h
theorem Rd.ok {P : Program} {w : World} {H : Hp} {h : Heap} {a : Addr} {u : HO} (r : Rd H a u) (x : HOk P w H h) : ObjOk P w H h a u := by
  rcases r with r | ⟨o, r⟩
  · exact x a u r
  · obtain ⟨_, q⟩ := x a _ r
    exact q
def Mut : Option HO -> Prop
  | some (.lst _) => True
  | some (.dK _) => True
  | some (.dT _) => True
  | some (.set _ _) => True
  | some (.ins _ _ _) => True
  | some (.ext _) => True
  | _ => False
section
variable {P : Program} {w : World} {H : Hp} {h h' : Heap} {x e : Addr} {o' : HO}
theorem HOk.write (ok : HOk P w H h) (mu : Mut (H x)) (he : e = x \/ H e = some (.own x)) (k : ∀ b u, b ≠ e -> h.get? b = some u -> h'.get? b = some u) (heo : ∃ u, h'.get? e = some u)
    (new : ObjOk P w (upd H x o') h' x o') : HOk P w (upd H x o') h' := fun b u q => by
  have nown : ∀ c y, H c = some (.own y) -> c ≠ x := fun c y r z => by subst z; rw [r] at mu; exact mu
  have ntup : ∀ c xs, H c = some (.tup xs) -> c ≠ x := fun c xs r z => by subst z; rw [r] at mu; exact mu
  by_cases hb : b = x
  · subst hb; rw [upd_same] at q; cases q; exact new
  · rw [upd_ne hb] at q
    by_cases hbe : b = e
    · have q' : H b = some (.own x) := by
        rcases he with z | z
        · exact absurd (hbe.trans z) hb
        · rw [hbe]; exact z
      rw [q] at q'; cases q'
      obtain ⟨v, hv⟩ := heo
      exact ⟨v, by rw [hbe]; exact hv⟩
    · refine (ok b u q).stay (fun c v hc r => k c v ?_ r) (fun c r => by rw [upd_ne (nown c b r)]; exact r) fun c xs r => by rw [upd_ne (ntup c xs r)]; exact r
      rcases hc with rfl | hc
      · exact hbe
      · rintro rfl
        rcases he with z | z
        · exact nown c b hc z
        · rw [hc] at z; cases z; exact hb rfl
end

/-! ### kept unless tracked; of the frames at fs (the callers') the slots may change (an exception that passes writes there); of the records at ex (iterators) nothing is said -/
structure Un (fs ex : List Addr) (H H' : Hp) (h h' : Heap) : Prop where
  keep : ∀ b o, h.get? b = some o -> H b = none -> b ∉ fs -> b ∉ ex -> h'.get? b = some o
  slot : ∀ b o, h.get? b = some o -> H b = none -> b ∈ fs -> b ∉ ex -> ∃ sl, h'.get? b = some { o with slots := sl }
  free : ∀ b o, h.get? b = some o -> H b = none -> b ∉ ex -> H' b = none
  there : ∀ b o, h.get? b = some o -> b ∉ ex -> ∃ o', h'.get? b = some o'
  tups : ∀ b xs, H b = some (.tup xs) -> H' b = some (.tup xs)
  frzs : ∀ b o u, H b = some (.frz o u) -> H' b = some (.frz o u)
  tbls : ∀ b ps, H b = some (.tbl ps) -> ∃ more, H' b = some (.tbl (ps ++ more))
section
variable {fs fs' ex ex' : List Addr} {H H1 H2 : Hp} {h h1 h2 h' : Heap} {a x e : Addr} {o : HO}
theorem Un.any (u : Un fs ex H H1 h h1) {b : Addr} {ob : Obj} (q : h.get? b = some ob) (n : H b = none) (hx : b ∉ ex) : ∃ sl, h1.get? b = some { ob with slots := sl } := by
  by_cases hb : b ∈ fs
  · exact u.slot b ob q n hb hx
  · exact ⟨ob.slots, u.keep b ob q n hb hx⟩
theorem Un.trans (a : Un fs ex H H1 h h1) (b : Un fs ex H1 H2 h1 h2) : Un fs ex H H2 h h2 where
  keep := fun c ob q n hc hx => b.keep c ob (a.keep c ob q n hc hx) (a.free c ob q n hx) hc hx
  slot := fun c ob q n hc hx => by
    obtain ⟨sl, e1⟩ := a.slot c ob q n hc hx
    obtain ⟨sl', e2⟩ := b.slot c _ e1 (a.free c ob q n hx) hc hx
    exact ⟨sl', e2⟩
  free := fun c ob q n hx => by
    obtain ⟨o', e1⟩ := a.there c ob q hx
    exact b.free c o' e1 (a.free c ob q n hx) hx
  there := fun c ob q hx => by
    obtain ⟨o', e1⟩ := a.there c ob q hx
    exact b.there c o' e1 hx
  tups := fun c xs q => b.tups c xs (a.tups c xs q)
  frzs := fun c ob xs q => b.frzs c ob xs (a.frzs c ob xs q)
  tbls := fun c ps q => by
    obtain ⟨m1, e1⟩ := a.tbls c ps q
    obtain ⟨m2, e2⟩ := b.tbls c _ e1
    exact ⟨m1 ++ m2, by rw [e2, Array.append_assoc]⟩
theorem Un.kept (k : ∀ b u, h.get? b = some u -> h'.get? b = some u) : Un fs ex H H h h' :=
  ⟨fun b ob q _ _ _ => k b ob q, fun b ob q _ _ _ => ⟨ob.slots, k b ob q⟩, fun _ _ _ n _ => n, fun b ob q _ => ⟨ob, k b ob q⟩, fun _ _ q => q, fun _ _ _ q => q, fun _ ps q => ⟨#[], by rw [q]; simp⟩⟩
theorem Un.refl : Un fs ex H H h h := Un.kept fun _ _ q => q
theorem Un.laid (k : ∀ b u, h.get? b = some u -> h'.get? b = some u) (hp : h.objs.size <= a) (hn : H a = none) : Un fs ex H (upd H a o) h h' where
  keep := fun b u q _ _ _ => k b u q
  slot := fun b u q _ _ _ => ⟨u.slots, k b u q⟩
  free := fun b u q n _ => by rw [upd_ne (Nat.ne_of_lt (Nat.lt_of_lt_of_le (Heap.lt_size q) hp))]; exact n
  there := fun b u q _ => ⟨u, k b u q⟩
  tups := fun b xs q => by rw [upd_ne (ne_of_none q hn)]; exact q
  frzs := fun b u xs q => by rw [upd_ne (ne_of_none q hn)]; exact q
  tbls := fun b ps q => ⟨#[], by rw [upd_ne (ne_of_none q hn), q]; simp⟩
theorem Un.write (mu : Mut (H x)) (he : e = x \/ H e = some (.own x)) (k : ∀ b u, b ≠ e -> h.get? b = some u -> h'.get? b = some u) (heo : ∃ u, h'.get? e = some u) : Un fs ex H (upd H x o) h h' := by
  have hx : ∀ b, H b = none -> b ≠ x := fun b n z => by subst z; rw [n] at mu; exact mu
  have hb : ∀ b, H b = none -> b ≠ e := fun b n z => by
    subst z
    rcases he with r | r
    · exact hx b n r
    · rw [n] at r; cases r
  have hm : ∀ b u, H b = some u -> ¬ Mut (some u) -> b ≠ x := fun b u q nm z => by subst z; rw [q] at mu; exact nm mu
  refine ⟨fun b u q n _ _ => k b u (hb b n) q, fun b u q n _ _ => ⟨u.slots, k b u (hb b n) q⟩, fun b u q n _ => by rw [upd_ne (hx b n)]; exact n, fun b u q _ => ?_,
    fun b xs q => by rw [upd_ne (hm b _ q fun z => z)]; exact q, fun b u xs q => by rw [upd_ne (hm b _ q fun z => z)]; exact q, fun b ps q => ⟨#[], by rw [upd_ne (hm b _ q fun z => z), q]; simp⟩⟩
  by_cases hbe : b = e
  · subst hbe; exact heo
  · exact ⟨u, k b u hbe q⟩
theorem Un.mono (u : Un fs ex H H1 h h1) (hs : ∀ b ∈ fs, b ∈ fs') (hx : ∀ b ∈ ex, b ∈ ex') : Un fs' ex' H H1 h h1 :=
  ⟨fun b ob q n hb he => u.keep b ob q n (fun z => hb (hs b z)) fun z => he (hx b z), fun _ _ q n _ he => u.any q n fun z => he (hx _ z), fun b ob q n he => u.free b ob q n fun z => he (hx b z), fun b ob q he => u.there b ob q fun z => he (hx b z), u.tups, u.frzs, u.tbls⟩
end

/-! ### the heap without what is tracked -/
def trk (h : Heap) (H : Hp) : List Addr := (List.range h.objs.size).filter fun a => (H a).isSome
def hidT (h : Heap) (H : Hp) : Heap := PySem.W.hideAll h (trk h H)
theorem hidT_size (h : Heap) (H : Hp) : (hidT h H).objs.size = h.objs.size := PySem.W.hideAll_size _ _
theorem hidT_get {h : Heap} {H : Hp} {b : Addr} {o : Obj} (e : h.get? b = some o) (n : H b = none) : (hidT h H).get? b = some o :=
  PySem.W.hideAll_get _ e fun hm => by
    have q : (H b).isSome = true := (List.mem_filter.mp hm).2
    rw [n] at q; simp at q
theorem of_hidT {h : Heap} {H : Hp} {b : Addr} {o : Obj} (e : (hidT h H).get? b = some o) : h.get? b = some o /\ H b = none := by
  have e' : h.get? b = some o := PySem.W.of_hideAll (trk h H) e
  refine ⟨e', ?_⟩
  cases q : H b with
  | none => rfl
  | some x =>
    have hm : b ∈ trk h H := List.mem_filter.mpr ⟨List.mem_range.mpr (Heap.lt_size e'), by simp [q]⟩
    have z : (hidT h H).get? b = none := PySem.W.hideAll_none (trk h H) hm
    rw [z] at e; cases e

/-! ### OpenK's ledger, filled with every new object but one -/
def allNews (g h : Heap) (L : Addr) : List (Addr × Obj) := (List.range h.objs.size).filterMap fun a => if a = L \/ (g.get? a).isSome = true then none else (h.get? a).map fun o => (a, o)
def rest (g h : Heap) (L d : Addr) : List (Addr × Obj) := (allNews g h L).filter fun p => decide (p.1 ≠ d)
end L2

namespace L2
open PySem PySem.Spec PyProof.Rows

structure Mod (K : PySem.W.Frag) (mg : Str -> Option Value) (base : Heap) : Prop where
  kin : K.In base
  glob : base.Ns mainGlobals mg
  blt : ∃ mb, base.Ns builtinsNs mb /\ ∀ x : Str, x ≠ "__name__" -> mb x = bootBuiltins x
  nolimit : base.NoLimit

structure Cx where
  prog : Program
  w : World
  K : PySem.W.Frag
  mg : Str -> Option Value
  base : Heap
  A : Around
  N : List Str
  s₀ : Shared
  H₀ : Hp
  env : Env
  outer : List Env
  stack : List Env
  ex : List Addr
  fn : Str -> Bool
  calm : Bool
  pn : List (Addr × Obj)
  xe : Value -> Shared -> Prop
def frs (l : List Env) : List Addr := l.filterMap (·.frame)
abbrev Cx.fs (X : Cx) : List Addr := frs X.outer

def Vis (sc : Scope) (x : Str) : Prop := sc.names.lookup x = some .local \/ sc.names.lookup x = some .cell \/ sc.names.lookup x = some .free
def Loc (sc : Scope) (x : Str) : Prop := sc.names.lookup x = some .local \/ sc.names.lookup x = some .cell
def Look (env : Env) (h : Heap) (m : Str -> Option Value) (x : Str) (u : Value) : Prop :=
  (env.kindOf x = some .local /\ m x = some u) \/ ((env.kindOf x = some .cell \/ env.kindOf x = some .free) /\ ∃ c, env.cells.lookup x = some c /\ h.IsCell c (some u))

structure Cx.Ok (X : Cx) : Prop where
  mod : Mod X.K X.mg X.base
  kind : X.env.scope.kind = .function
  glob : X.env.globals = mainGlobals
  blt : X.env.builtins = builtinsNs
  above : X.s₀.heap.objs.size <= X.env.locals
  inj : ∀ x y c, X.env.cells.lookup x = some c -> X.env.cells.lookup y = some c -> x = y
  has : ∀ x, (X.env.kindOf x = some .cell \/ X.env.kindOf x = some .free) -> ∃ c, X.env.cells.lookup x = some c
  cab : ∀ x c, X.fn x = true -> X.env.cells.lookup x = some c -> X.s₀.heap.objs.size <= c
  hd : X.calm = true -> X.A.handled = none
  frames : X.A.frames = some X.stack
  stk : X.stack = X.outer \/ (X.stack = X.env :: X.outer /\ X.env.frame = some X.env.locals)
  exf : ∀ b ∈ X.ex, b ≠ X.env.locals /\ ∀ x c, X.env.cells.lookup x = some c -> c ≠ b
  bs : ∀ b o, X.base.get? b = some o -> X.s₀.heap.get? b = some o /\ X.H₀ b = none
  bsz : X.base.objs.size <= X.s₀.heap.objs.size
  noex : ∀ b o, X.base.get? b = some o -> b ∉ X.ex
  exfs : ∀ b ∈ X.ex, b ∉ X.fs
  funs : X.s₀.heap.FunFrames X.base X.outer
  frf : ∀ b ∈ X.fs, X.H₀ b = none

structure Inv (X : Cx) (pins : List (Addr × Obj)) (σ : List (Option V)) (H : Hp) (s : Shared) : Prop where
  ok : X.Ok
  os : s.os = X.s₀.os
  bare : AllBare s.gens
  base : Un X.fs X.ex X.H₀ H X.s₀.heap s.heap
  loc : ∃ m, s.heap.Ns X.env.locals m /\ ∀ (i : Nat) (x : Str) (v : V), X.N[i]? = some x -> σ[i]? = some (some v) -> Vis X.env.scope x -> ∃ u, RelV v u /\ Look X.env s.heap m x u
  cell : ∀ x c, X.env.cells.lookup x = some c -> ∃ v, s.heap.IsCell c v
  free : H X.env.locals = none
  freeC : ∀ x c, X.env.cells.lookup x = some c -> H c = none
  pin : ∀ p ∈ X.pn ++ pins, s.heap.get? p.1 = some p.2 /\ H p.1 = none /\ p.1 ≠ X.env.locals /\ p.1 ∉ X.fs /\ ∀ v, p.2.data ≠ .cell v
  hok : HOk X.prog X.w H s.heap
  len : σ.length = X.N.length

section
variable {X : Cx} {pins : List (Addr × Obj)} {σ : List (Option V)} {H H' : Hp} {s : Shared} {h' : Heap}

theorem Cx.Ok.nofr (ok : X.Ok) {b : Addr} {o : Obj} (e : X.base.get? b = some o) : b ∉ X.fs := fun hb => by
  have := (ok.funs.mem hb).1
  rw [e] at this; cases this
theorem Inv.bs (I : Inv X pins σ H s) : ∀ b o, X.base.get? b = some o -> s.heap.get? b = some o /\ H b = none := fun b o e =>
  ⟨I.base.keep b o (I.ok.bs b o e).1 (I.ok.bs b o e).2 (I.ok.nofr e) (I.ok.noex b o e), I.base.free b o (I.ok.bs b o e).1 (I.ok.bs b o e).2 (I.ok.noex b o e)⟩
theorem Inv.bk (I : Inv X pins σ H s) : ∀ b o, X.base.get? b = some o -> s.heap.get? b = some o := fun b o e => (I.bs b o e).1
theorem Inv.mod (I : Inv X pins σ H s) : Mod X.K X.mg X.base := I.ok.mod
theorem Inv.kIn (I : Inv X pins σ H s) : X.K.In s.heap := I.ok.mod.kin.keeps I.bk
theorem Inv.nolimit (I : Inv X pins σ H s) : s.heap.NoLimit := I.ok.mod.nolimit.keeps I.bk
theorem Inv.fr (I : Inv X pins σ H s) : ∃ m, Fr X.base X.env.locals s.heap m :=
  let ⟨m, hn, _⟩ := I.loc
  ⟨m, hn, I.bk, Nat.le_trans I.ok.bsz I.ok.above⟩
theorem Inv.lt (I : Inv X pins σ H s) : X.env.locals < s.heap.objs.size := let ⟨_, hn, _⟩ := I.loc; hn.lt
theorem Inv.sz (I : Inv X pins σ H s) : X.s₀.heap.objs.size <= s.heap.objs.size := Nat.le_trans I.ok.above (Nat.le_of_lt I.lt)
theorem Inv.nofs (I : Inv X pins σ H s) {a : Addr} (h : s.heap.objs.size <= a) : a ∉ X.fs := fun hb => by
  obtain ⟨_, o, ho, _⟩ := I.ok.funs.mem hb
  exact absurd (Nat.lt_of_lt_of_le (Heap.lt_size ho) (Nat.le_trans I.sz h)) (Nat.lt_irrefl _)
theorem Inv.cne (I : Inv X pins σ H s) : ∀ x c, X.env.cells.lookup x = some c -> c ≠ X.env.locals := fun x c e z => by
  obtain ⟨v, o, ho, hd⟩ := I.cell x c e
  obtain ⟨m, ⟨o', es, ep, ho', hd', _⟩, _⟩ := I.loc
  rw [z, ho'] at ho; cases ho; rw [hd'] at hd; cases hd
theorem Inv.funs (I : Inv X pins σ H s) : s.heap.FunFrames X.base X.outer := by
  have all : ∀ (l : List Env), (∀ b ∈ frs l, b ∈ X.fs) -> X.s₀.heap.FunFrames X.base l -> s.heap.FunFrames X.base l := by
    intro l
    induction l with
    | nil => intro _ _; trivial
    | cons env r ih =>
      intro hs hl
      obtain ⟨hk, ⟨L, o, hf, hn, ho, hd⟩, hr⟩ := hl
      have hL : L ∈ X.fs := hs L (by unfold frs; rw [List.filterMap_cons, hf]; exact List.mem_cons_self)
      obtain ⟨sl, e⟩ := I.base.slot L o ho (I.ok.frf L hL) hL fun z => I.ok.exfs L z hL
      exact ⟨hk, ⟨L, _, hf, hn, e, hd⟩, ih (fun b hb => hs b (by unfold frs; rw [List.filterMap_cons, hf]; exact List.mem_cons_of_mem _ hb)) hr⟩
  exact all X.outer (fun _ hb => hb) I.ok.funs

theorem Inv.stack (I : Inv X pins σ H s) : s.heap.FunFrames X.base X.stack := by
  rcases I.ok.stk with e | ⟨e, hf⟩
  · rw [e]; exact I.funs
  · rw [e]
    obtain ⟨m, hn, _⟩ := I.loc
    refine .cons (by rw [I.ok.kind]; decide) hf hn ?_ I.funs
    exact Heap.get?_none_of_le (Nat.le_trans I.ok.bsz I.ok.above)
theorem Inv.stkSub (I : Inv X pins σ H s) : ∀ b ∈ frs X.stack, b ∈ X.env.locals :: X.fs := fun b hb => by
  rcases I.ok.stk with e | ⟨e, hf⟩
  · rw [e] at hb; exact List.mem_cons_of_mem _ hb
  · rw [e] at hb
    unfold frs at hb
    rw [List.filterMap_cons, hf] at hb
    exact hb
theorem Inv.stkFree (I : Inv X pins σ H s) : ∀ b ∈ frs X.stack, H b = none := fun b hb => by
  rcases List.mem_cons.mp (I.stkSub b hb) with e | hb
  · rw [e]; exact I.free
  · obtain ⟨_, o, ho, _⟩ := I.ok.funs.mem hb
    exact I.base.free b o ho (I.ok.frf b hb) fun z => I.ok.exfs b z hb

theorem Inv.step {g' : Array GenState} {t' : Nat} {d' : Drawn} {ch : List Addr} (I : Inv X pins σ H s)
    (hch : ∀ b ∈ ch, (b ∈ X.ex \/ X.s₀.heap.objs.size <= b) /\ b ≠ X.env.locals /\ (∀ x c, X.env.cells.lookup x = some c -> c ≠ b) /\ ∀ p ∈ X.pn ++ pins, p.1 ≠ b)
    (keep : ∀ b o, b ≠ X.env.locals -> b ∉ X.fs -> b ∉ ch -> s.heap.get? b = some o -> H b = none -> h'.get? b = some o)
    (slot : ∀ b o, b ≠ X.env.locals -> b ∈ X.fs -> b ∉ ch -> s.heap.get? b = some o -> H b = none -> ∃ sl, h'.get? b = some { o with slots := sl }) (free : ∀ b o, b ∉ ch -> s.heap.get? b = some o -> H b = none -> H' b = none)
    (there : ∀ b o, b ∉ ch -> s.heap.get? b = some o -> ∃ o', h'.get? b = some o')
    (tups : ∀ b xs, H b = some (.tup xs) -> H' b = some (.tup xs)) (frzs : ∀ b o u, H b = some (.frz o u) -> H' b = some (.frz o u)) (tbls : ∀ b ps, H b = some (.tbl ps) -> ∃ more, H' b = some (.tbl (ps ++ more)))
    (ns : ∀ m, s.heap.Ns X.env.locals m -> h'.Ns X.env.locals m) (hok : HOk X.prog X.w H' h') (hg : AllBare g') :
    Inv X pins σ H' { s with heap := h', gens := g', drawn := d', toks := t' } := by
  have neL : ∀ b o, X.s₀.heap.get? b = some o -> b ≠ X.env.locals := fun b o e => Nat.ne_of_lt (Nat.lt_of_lt_of_le (Heap.lt_size e) I.ok.above)
  have neC : ∀ b o, X.s₀.heap.get? b = some o -> b ∉ X.ex -> b ∉ ch := fun b o e hx hb => by
    rcases (hch b hb).1 with z | z
    · exact hx z
    · exact absurd (Nat.lt_of_lt_of_le (Heap.lt_size e) z) (Nat.lt_irrefl _)
  have cellK : ∀ x c, X.env.cells.lookup x = some c -> ∀ v, s.heap.IsCell c v -> h'.IsCell c v := fun x c e v ⟨o, ho, hd⟩ => by
    have nch : c ∉ ch := fun z => (hch c z).2.2.1 x c e rfl
    by_cases hc : c ∈ X.fs
    · obtain ⟨sl, q⟩ := slot c o (I.cne x c e) hc nch ho (I.freeC x c e)
      exact ⟨_, q, hd⟩
    · exact ⟨o, keep c o (I.cne x c e) hc nch ho (I.freeC x c e), hd⟩
  refine ⟨I.ok, I.os, hg, ⟨fun b o e n hb hx => ?_, fun b o e n hb hx => ?_, fun b o e n hx => ?_, fun b o e hx => ?_, fun b xs e => tups b xs (I.base.tups b xs e), fun b o xs e => frzs b o xs (I.base.frzs b o xs e), fun b ps e => ?_⟩, ?_, fun x c e => ?_, ?_, fun x c e => ?_, fun p hp => ?_, hok, I.len⟩
  · exact keep b o (neL b o e) hb (neC b o e hx) (I.base.keep b o e n hb hx) (I.base.free b o e n hx)
  · obtain ⟨sl, e1⟩ := I.base.slot b o e n hb hx
    obtain ⟨sl', e2⟩ := slot b _ (neL b o e) hb (neC b o e hx) e1 (I.base.free b o e n hx)
    exact ⟨sl', e2⟩
  · obtain ⟨o', e1⟩ := I.base.there b o e hx
    exact free b o' (neC b o e hx) e1 (I.base.free b o e n hx)
  · obtain ⟨o', e1⟩ := I.base.there b o e hx
    exact there b o' (neC b o e hx) e1
  · obtain ⟨m1, e1⟩ := I.base.tbls b ps e
    obtain ⟨m2, e2⟩ := tbls b _ e1
    exact ⟨m1 ++ m2, by rw [e2, Array.append_assoc]⟩
  · obtain ⟨m, hn, hl⟩ := I.loc
    refine ⟨m, ns m hn, fun i x v e1 e2 e3 => ?_⟩
    obtain ⟨u, r, l⟩ := hl i x v e1 e2 e3
    refine ⟨u, r, ?_⟩
    rcases l with l | ⟨k, c, e, z⟩
    · exact .inl l
    · exact .inr ⟨k, c, e, cellK x c e _ z⟩
  · obtain ⟨v, z⟩ := I.cell x c e
    exact ⟨v, cellK x c e v z⟩
  · obtain ⟨m, ⟨o, _, _, ho, _⟩, _⟩ := I.loc
    exact free _ o (fun z => (hch _ z).2.1 rfl) ho I.free
  · obtain ⟨v, o, ho, hd⟩ := I.cell x c e
    exact free c o (fun z => (hch c z).2.2.1 x c e rfl) ho (I.freeC x c e)
  · obtain ⟨e, n, ne, nf, d⟩ := I.pin p hp
    have nch : p.1 ∉ ch := fun z => (hch p.1 z).2.2.2 p hp rfl
    exact ⟨keep p.1 p.2 ne nf nch e n, free p.1 p.2 nch e n, ne, nf, d⟩
theorem Inv.un {t' : Nat} (I : Inv X pins σ H s) (u : Un X.fs [] H H' s.heap h') (hok : HOk X.prog X.w H' h') : Inv X pins σ H' { s with heap := h', toks := t' } := by
  obtain ⟨m, ⟨o, es, ep, ho, r⟩, _⟩ := id I.loc
  obtain ⟨sl, hL⟩ := u.any ho I.free (by simp)
  exact I.step (g' := s.gens) (d' := s.drawn) (ch := []) (fun _ z => nomatch z) (fun b o _ hb _ e n => u.keep b o e n hb (by simp)) (fun b o _ hb _ e n => u.slot b o e n hb (by simp)) (fun b o _ e n => u.free b o e n (by simp)) (fun b o _ e => u.there b o e (by simp)) u.tups u.frzs u.tbls (fun m' hm => by
    obtain ⟨o', es', ep', ho', r'⟩ := hm
    rw [ho] at ho'; cases ho'
    exact ⟨_, es', ep', hL, r'⟩) hok I.bare
theorem Inv.call {g' : Array GenState} {t' : Nat} {d' : Drawn} {ch : List Addr} (I : Inv X pins σ H s) (u : Un (frs X.stack) ch H H' s.heap h') (hok : HOk X.prog X.w H' h') (hg : AllBare g')
    (hch : ∀ b ∈ ch, (b ∈ X.ex \/ X.s₀.heap.objs.size <= b) /\ b ≠ X.env.locals /\ (∀ x c, X.env.cells.lookup x = some c -> c ≠ b) /\ ∀ p ∈ X.pn ++ pins, p.1 ≠ b) :
    Inv X pins σ H' { s with heap := h', gens := g', drawn := d', toks := t' } := by
  obtain ⟨m, ⟨o, es, ep, ho, r⟩, _⟩ := id I.loc
  obtain ⟨sl, hL⟩ := u.any ho I.free fun z => (hch _ z).2.1 rfl
  exact I.step (ch := ch) hch (fun b o hL hb hc e n => u.keep b o e n (fun z => (List.mem_cons.mp (I.stkSub b z)).elim hL hb) hc) (fun b o _ _ hc e n => u.any e n hc) (fun b o hc e n => u.free b o e n hc) (fun b o hc e => u.there b o e hc) u.tups u.frzs u.tbls (fun m' hm => by
    obtain ⟨o', es', ep', ho', r'⟩ := hm
    rw [ho] at ho'; cases ho'
    exact ⟨_, es', ep', hL, r'⟩) hok hg
theorem Inv.turned {t' : Nat} {it : Addr} (I : Inv X pins σ H s) (k : ∀ b o, b ≠ it -> s.heap.get? b = some o -> h'.get? b = some o) (hn : H it = none) (hL : it ≠ X.env.locals)
    (h1 : it ∈ X.ex \/ X.s₀.heap.objs.size <= it) (h2 : ∀ x c, X.env.cells.lookup x = some c -> c ≠ it) (h3 : ∀ p ∈ X.pn ++ pins, p.1 ≠ it) : Inv X pins σ H { s with heap := h', toks := t' } := by
  have nit : ∀ b u, H b = some u -> b ≠ it := fun b u e z => by rw [z, hn] at e; cases e
  refine I.step (g' := s.gens) (d' := s.drawn) (ch := [it]) (fun b hb => ?_) (fun b o _ _ hc e _ => k b o (fun z => hc (by simp [z])) e) (fun b o _ _ hc e _ => ⟨o.slots, k b o (fun z => hc (by simp [z])) e⟩) (fun _ _ _ _ n => n)
    (fun b o hc e => ⟨o, k b o (fun z => hc (by simp [z])) e⟩) (fun _ _ e => e) (fun _ _ _ e => e) (fun b ps e => ⟨#[], by rw [e]; simp⟩) (fun m hm => ?_) (fun b u e => ?_) I.bare
  · have e : b = it := by simpa using hb
    subst e
    exact ⟨h1, hL, h2, h3⟩
  · obtain ⟨o, es, ep, ho, r⟩ := hm
    exact ⟨o, es, ep, k _ o (Ne.symm hL) ho, r⟩
  · refine (I.hok b u e).stay (fun c v hc q => k c v ?_ q) (fun _ q => q) fun _ _ q => q
    rcases hc with z | z
    · rw [z]; exact nit b u e
    · exact nit c _ z
theorem Inv.tok (I : Inv X pins σ H s) (t : Nat) : Inv X pins σ H { s with toks := t } := I.un (h' := s.heap) (t' := t) Un.refl I.hok
theorem Inv.kept {t' : Nat} (I : Inv X pins σ H s) (k : ∀ b u, s.heap.get? b = some u -> h'.get? b = some u) : Inv X pins σ H { s with heap := h', toks := t' } := I.un (Un.kept k) (I.hok.kept k)
theorem Inv.laid {a : Addr} {o : HO} {t' : Nat} (I : Inv X pins σ H s) (k : ∀ b u, s.heap.get? b = some u -> h'.get? b = some u) (hp : s.heap.objs.size <= a) (new : ObjOk X.prog X.w (upd H a o) h' a o) :
    Inv X pins σ (upd H a o) { s with heap := h', toks := t' } := I.un (Un.laid k hp (I.hok.fresh hp)) (I.hok.laid k hp new)
theorem Inv.write {x e : Addr} {o : HO} {t' : Nat} (I : Inv X pins σ H s) (mu : Mut (H x)) (he : e = x \/ H e = some (.own x)) (k : ∀ b u, b ≠ e -> s.heap.get? b = some u -> h'.get? b = some u) (heo : ∃ u, h'.get? e = some u)
    (new : ObjOk X.prog X.w (upd H x o) h' x o) : Inv X pins σ (upd H x o) { s with heap := h', toks := t' } := I.un (Un.write mu he k heo) (I.hok.write mu he k heo new)
theorem Inv.pins_of {pins' : List (Addr × Obj)} (I : Inv X pins σ H s) (h : ∀ p ∈ pins', s.heap.get? p.1 = some p.2 /\ H p.1 = none /\ p.1 ≠ X.env.locals /\ p.1 ∉ X.fs /\ ∀ v, p.2.data ≠ .cell v) : Inv X pins' σ H s :=
  ⟨I.ok, I.os, I.bare, I.base, I.loc, I.cell, I.free, I.freeC, fun p hp => (List.mem_append.mp hp).elim (fun z => I.pin p (List.mem_append_left _ z)) (h p), I.hok, I.len⟩

theorem nodup_ix {N : List Str} (hN : N.Nodup) {i j : Nat} {x : Str} (a : N[i]? = some x) (b : N[j]? = some x) : i = j := by
  obtain ⟨h1, e1⟩ := List.getElem?_eq_some_iff.mp a
  obtain ⟨h2, e2⟩ := List.getElem?_eq_some_iff.mp b
  exact (List.getElem_inj hN).mp (e1.trans e2.symm)

theorem store_ok2 {M : Model} {A : Around} {E : Value -> Shared -> Prop} {i : Nat} {x : Str} {v : V} {u : Value} {Q : Unit -> Shared -> Prop} (I : Inv X pins σ H s) (hN : X.N.Nodup) (hi : X.N[i]? = some x) (hx : Loc X.env.scope x) (r : RelV v u)
    (h : ∀ s', Inv X pins (σ.set i (some v)) H s' -> (∃ a, Heap.SameBut a s.heap s'.heap /\ (a = X.env.locals \/ X.env.cells.lookup x = some a)) -> Q () s') (hf : X.fn x = true \/ X.env.scope.names.lookup x = some .local := by first | exact .inl rfl | exact .inr rfl | assumption) : wpAny M A (storeName X.env x u) Q E s := by
  obtain ⟨m, hn, hl⟩ := id I.loc
  have hcls : (X.env.scope.kind == .class || (X.env.scope.kind == .module && X.env.locals != X.env.globals)) = false := by rw [I.ok.kind]; rfl
  have hiσ : i < σ.length := by rw [I.len]; exact (List.getElem?_eq_some_iff.mp hi).1
  have cne := I.cne
  have tracked : ∀ {a : Addr} {h' : Heap}, (∃ o, s.heap.get? a = some o /\ H a = none) -> Heap.SameBut a s.heap h' -> HOk X.prog X.w H h' := fun {a h'} ha hs b ob e => by
    obtain ⟨_, _, hfree⟩ := ha
    refine (I.hok b ob e).stay (fun c w' hc q => (hs.2 c ?_).trans q) (fun _ q => q) fun _ _ q => q
    rintro rfl
    rcases hc with rfl | hc
    · rw [hfree] at e; cases e
    · rw [hfree] at hc; cases hc
  rcases hx with hk | hk
  · refine wpAny_storeName_local hk hn (fun h' hn' hs => ?_) hcls
    obtain ⟨oL, _, _, hoL, _⟩ := id hn
    refine h _ ⟨I.ok, I.os, I.bare, ⟨fun b o e n hb hx => ?_, fun b o e n hb hx => ?_, I.base.free, fun b o e hx => ?_, I.base.tups, I.base.frzs, I.base.tbls⟩, ⟨_, hn', fun j y v' e1 e2 e3 => ?_⟩, fun y c e => ?_, I.free, I.freeC, fun p hp => ?_, tracked ⟨oL, hoL, I.free⟩ hs, by simpa using I.len⟩ ⟨_, hs, .inl rfl⟩
    · exact (hs.2 b (Nat.ne_of_lt (Nat.lt_of_lt_of_le (Heap.lt_size e) I.ok.above))).trans (I.base.keep b o e n hb hx)
    · obtain ⟨sl, e1⟩ := I.base.slot b o e n hb hx
      exact ⟨sl, (hs.2 b (Nat.ne_of_lt (Nat.lt_of_lt_of_le (Heap.lt_size e) I.ok.above))).trans e1⟩
    · obtain ⟨o', e1⟩ := I.base.there b o e hx
      exact ⟨o', (hs.2 b (Nat.ne_of_lt (Nat.lt_of_lt_of_le (Heap.lt_size e) I.ok.above))).trans e1⟩
    · by_cases hj : j = i
      · subst hj
        rw [hi] at e1; cases e1
        rw [List.getElem?_set_self hiσ] at e2
        cases e2
        exact ⟨u, r, .inl ⟨hk, by simp⟩⟩
      · rw [List.getElem?_set_ne (Ne.symm hj)] at e2
        obtain ⟨u', r', q⟩ := hl j y v' e1 e2 e3
        refine ⟨u', r', ?_⟩
        rcases q with ⟨k, e⟩ | ⟨k, c, e, z⟩
        · refine .inl ⟨k, ?_⟩
          have : y ≠ x := fun e => hj (nodup_ix hN e1 (e ▸ hi))
          simp [this, e]
        · exact .inr ⟨k, c, e, z.sameBut hs (cne y c e)⟩
    · obtain ⟨w', z⟩ := I.cell y c e
      exact ⟨w', z.sameBut hs (cne y c e)⟩
    · obtain ⟨e, n, ne, nf, d⟩ := I.pin p hp
      exact ⟨(hs.2 p.1 ne).trans e, n, ne, nf, d⟩
  · have hfn : X.fn x = true := by
      rcases hf with z | z
      · exact z
      · rw [z] at hk; cases hk
    obtain ⟨c, hc⟩ := I.ok.has x (.inl hk)
    obtain ⟨w', z⟩ := I.cell x c hc
    refine wpAny_storeName_cell I.ok.kind hk hc z (fun h' hc' hs => ?_)
    obtain ⟨oc, hoc, hocd⟩ := id z
    refine h { s with heap := h' } ⟨I.ok, I.os, I.bare, ⟨fun b o e n hb hx => ?_, fun b o e n hb hx => ?_, I.base.free, fun b o e hx => ?_, I.base.tups, I.base.frzs, I.base.tbls⟩, ⟨m, hn.sameBut hs (Ne.symm (cne x c hc)), fun j y v' e1 e2 e3 => ?_⟩, fun y c' e => ?_, I.free, I.freeC, fun p hp => ?_, tracked ⟨oc, hoc, I.freeC x c hc⟩ hs, by simpa using I.len⟩ ⟨c, hs, .inr hc⟩
    · exact (hs.2 b (Nat.ne_of_lt (Nat.lt_of_lt_of_le (Heap.lt_size e) (I.ok.cab x c hfn hc)))).trans (I.base.keep b o e n hb hx)
    · obtain ⟨sl, e1⟩ := I.base.slot b o e n hb hx
      exact ⟨sl, (hs.2 b (Nat.ne_of_lt (Nat.lt_of_lt_of_le (Heap.lt_size e) (I.ok.cab x c hfn hc)))).trans e1⟩
    · obtain ⟨o', e1⟩ := I.base.there b o e hx
      exact ⟨o', (hs.2 b (Nat.ne_of_lt (Nat.lt_of_lt_of_le (Heap.lt_size e) (I.ok.cab x c hfn hc)))).trans e1⟩
    · by_cases hj : j = i
      · subst hj
        rw [hi] at e1; cases e1
        rw [List.getElem?_set_self hiσ] at e2
        cases e2
        exact ⟨u, r, .inr ⟨.inl hk, c, hc, hc'⟩⟩
      · rw [List.getElem?_set_ne (Ne.symm hj)] at e2
        obtain ⟨u', r', q⟩ := hl j y v' e1 e2 e3
        refine ⟨u', r', ?_⟩
        rcases q with q | ⟨k, c', e, z'⟩
        · exact .inl q
        · refine .inr ⟨k, c', e, z'.sameBut hs ?_⟩
          rintro rfl
          exact hj (nodup_ix hN e1 (I.ok.inj _ _ _ e hc ▸ hi))
    · by_cases hcc : c' = c
      · subst hcc; exact ⟨_, hc'⟩
      · obtain ⟨w2, z2⟩ := I.cell y c' e
        exact ⟨w2, z2.sameBut hs hcc⟩
    · obtain ⟨e, n, ne, nf, d⟩ := I.pin p hp
      refine ⟨(hs.2 p.1 ?_).trans e, n, ne, nf, d⟩
      intro q
      rw [q, hoc] at e
      have q' : oc = p.2 := Option.some.inj e
      exact d w' (by rw [← q']; exact hocd)
theorem store_ok {M : Model} {A : Around} {E : Value -> Shared -> Prop} {i : Nat} {x : Str} {v : V} {u : Value} {Q : Unit -> Shared -> Prop} (I : Inv X pins σ H s) (hN : X.N.Nodup) (hi : X.N[i]? = some x) (hx : Loc X.env.scope x) (r : RelV v u)
    (h : ∀ s', Inv X pins (σ.set i (some v)) H s' -> Q () s') (hf : X.fn x = true \/ X.env.scope.names.lookup x = some .local := by first | exact .inl rfl | exact .inr rfl | assumption) : wpAny M A (storeName X.env x u) Q E s :=
  store_ok2 I hN hi hx r (fun s' I' _ => h s' I') hf
end

/-! ### the judgements -/
abbrev XK := Value -> Option Addr -> Hp -> Prop
abbrev St := List (Option V)
abbrev VK := V -> Hp -> Prop
abbrev TE := St -> Hp -> VK -> Prop
abbrev TT := St -> Hp -> (Bool -> Hp -> Prop) -> Prop
abbrev TA := St -> Hp -> (List V -> Hp -> Prop) -> Prop
structure Ends where
  nx : St -> Hp -> Prop
  rt : VK
  bk : St -> Hp -> Prop := fun _ _ => False
  ct : St -> Hp -> Prop := fun _ _ => False
abbrev TS := Ends -> St -> Hp -> Prop

def EP (X : Cx) (pins : List (Addr × Obj)) (σ : St) (Q : VK) (u : Value) (s' : Shared) : Prop := ∃ v H', Inv X pins σ H' s' /\ RelV v u /\ Q v H'
def TP (X : Cx) (pins : List (Addr × Obj)) (σ : St) (Q : Bool -> Hp -> Prop) (b : Bool) (s' : Shared) : Prop := ∃ H', Inv X pins σ H' s' /\ Q b H'
def AP (X : Cx) (pins : List (Addr × Obj)) (σ : St) (Q : List V -> Hp -> Prop) (us : List Value) (s' : Shared) : Prop := ∃ vs H', Inv X pins σ H' s' /\ Vals vs us /\ Q vs H'
def SP (X : Cx) (pins : List (Addr × Obj)) (D : Ends) (f : Flow) (s' : Shared) : Prop :=
  match f with
  | .next => ∃ σ' H', Inv X pins σ' H' s' /\ D.nx σ' H'
  | .brk => ∃ σ' H', Inv X pins σ' H' s' /\ D.bk σ' H'
  | .cont => ∃ σ' H', Inv X pins σ' H' s' /\ D.ct σ' H'
  | .ret u => ∃ v σ' H', Inv X pins σ' H' s' /\ RelV v u /\ D.rt v H'

def PE (X : Cx) (e : Expr) (t : TE) : Prop :=
  ∀ (pins : List (Addr × Obj)) (s : Shared) (σ : St) (H : Hp) (Q : VK), Inv X pins σ H s -> t σ H Q -> wpAny (model X.prog X.w) X.A (eval e X.env) (EP X pins σ Q) X.xe s
def PT (X : Cx) (e : Expr) (t : TT) : Prop :=
  ∀ (pins : List (Addr × Obj)) (s : Shared) (σ : St) (H : Hp) (Q : Bool -> Hp -> Prop), Inv X pins σ H s -> t σ H Q -> wpAny (model X.prog X.w) X.A (isTrue e X.env (eval e X.env)) (TP X pins σ Q) X.xe s
def PW (X : Cx) (e : Expr) (t : TT) : Prop :=
  ∀ (whole : Sem Value) (pins : List (Addr × Obj)) (s : Shared) (σ : St) (H : Hp) (Q : Bool -> Hp -> Prop), Inv X pins σ H s -> t σ H Q -> wpAny (model X.prog X.w) X.A (isTrue e X.env whole) (TP X pins σ Q) X.xe s
theorem PW.pt {X : Cx} {e : Expr} {t : TT} (h : PW X e t) : PT X e t := h _
def PA (X : Cx) (es : List Expr) (t : TA) : Prop :=
  ∀ (pos : Pos) (pins : List (Addr × Obj)) (s : Shared) (σ : St) (H : Hp) (Q : List V -> Hp -> Prop), Inv X pins σ H s -> t σ H Q -> wpAny (model X.prog X.w) X.A (spliced (backTo pos (starEach es X.env))) (AP X pins σ Q) X.xe s
def PS (X : Cx) (st : Stmt) (t : TS) : Prop :=
  ∀ (pins : List (Addr × Obj)) (s : Shared) (σ : St) (H : Hp) (D : Ends), Inv X pins σ H s -> t D σ H -> wpAny (model X.prog X.w) X.A (exec st X.env) (SP X pins D) X.xe s
def PSs (X : Cx) (st : List Stmt) (t : TS) : Prop :=
  ∀ (pins : List (Addr × Obj)) (s : Shared) (σ : St) (H : Hp) (D : Ends), Inv X pins σ H s -> t D σ H -> wpAny (model X.prog X.w) X.A (execs st X.env) (SP X pins D) X.xe s
theorem thn {α : Type} {t : Sem α} {Q Q' : α -> Shared -> Prop} {M : Model} {A : Around} {E : Value -> Shared -> Prop} {s : Shared} (h : wpAny M A t Q E s) (hQ : ∀ a s, Q a s -> Q' a s) : wpAny M A t Q' E s := wpAny_mono h hQ fun _ _ x => x
end L2

namespace L2
open PySem PySem.Spec PyProof.Rows
section
variable {X : Cx}

/-! ### names and constants -/
def tVar (i : Nat) : TE := fun σ H Q => ∃ v, σ[i]? = some (some v) /\ Q v H
def tC (v : V) : TE := fun _ H Q => Q v H
theorem pe_var {i : Nat} {x : Str} {pos : Pos} (hN : X.N[i]? = some x) (hv : Vis X.env.scope x) (hd : (x == ("__debug__" : Str)) = false := by decide) (hcd : (x == ("__classdict__" : Str)) = false := by decide) : PE X (.Name x pos) (tVar i) := by
  intro pins s σ H Q I h
  obtain ⟨v, e, h⟩ := h
  obtain ⟨m, hn, hl⟩ := I.loc
  obtain ⟨u, r, l⟩ := hl i x v hN e hv
  have fin : EP X pins σ Q u s := ⟨v, H, I, r, h⟩
  rcases l with ⟨hk, hm⟩ | ⟨hk, c, hc, hcell⟩
  · exact wpAny_Name (wpAny_loadName_local I.ok.kind hk hn hm fin) hd
  · rcases hk with hk | hk
    · exact wpAny_Name (wpAny_loadName_cell I.ok.kind hk hc hcell fin) hd
    · exact wpAny_Name (wpAny_loadName_free I.ok.kind hk hc hcell fin hcd) hd
theorem pe_int {i j pos} : PE X (.Constant (.int i) j pos) (tC (.int i)) := fun _ _ _ H _ I h => wpAny_Constant_int ⟨.int i, H, I.tok _, ⟨_, rfl⟩, h⟩
theorem pe_bl {b j pos} : PE X (.Constant (.bool b) j pos) (tC (.bl b)) := fun _ _ _ H _ I h => Constant_bool ⟨.bl b, H, I, rfl, h⟩
theorem pe_non {j pos} : PE X (.Constant .none j pos) (tC .non) := fun _ _ _ H _ I h => Constant_none ⟨.non, H, I, rfl, h⟩
theorem pe_str {x j pos} : PE X (.Constant (.str x) j pos) (tC (.str x)) := fun _ _ _ H _ I h => Calls.Constant_str ⟨.str x, H, I.tok _, ⟨_, rfl⟩, h⟩

def Gl (X : Cx) (x : Str) : Prop := X.env.kindOf x = some .globalImplicit
theorem ld_glob {E : Value -> Shared -> Prop} {pins : List (Addr × Obj)} {s : Shared} {σ : St} {H : Hp} {x : Str} {u : Value} {pos : Pos} {Q : Value -> Shared -> Prop} (I : Inv X pins σ H s) (hg : Gl X x) (hm : X.mg x = some u) (h : Q u s)
    (hd : (x == ("__debug__" : Str)) = false := by decide) : wpAny (model X.prog X.w) X.A (eval (.Name x pos) X.env) Q E s :=
  Calls.Name_function_global I.ok.kind hg (Calls.loadGlobal_global (by rw [I.ok.glob]; exact I.mod.glob.keeps I.bk) hm h) hd
theorem ld_blt {E : Value -> Shared -> Prop} {pins : List (Addr × Obj)} {s : Shared} {σ : St} {H : Hp} {x : Str} {u : Value} {pos : Pos} {Q : Value -> Shared -> Prop} (I : Inv X pins σ H s) (hg : Gl X x) (hm : X.mg x = none) (hv : bootBuiltins x = some u) (h : Q u s)
    (hn : x ≠ "__name__" := by decide) (hd : (x == ("__debug__" : Str)) = false := by decide) : wpAny (model X.prog X.w) X.A (eval (.Name x pos) X.env) Q E s := by
  obtain ⟨mb, h1, h2⟩ := I.mod.blt
  exact Calls.Name_function_global I.ok.kind hg (Calls.loadGlobal_builtin (by rw [I.ok.glob]; exact I.mod.glob.keeps I.bk) hm (by rw [I.ok.blt]; exact h1.keeps I.bk) ((h2 x hn).trans hv) h) hd
/-! ### arithmetic -/
def t2I (ta tb : TE) (k : Int -> Int -> Hp -> Prop) : St -> Hp -> Prop := fun σ H => ta σ H fun x H1 => tb σ H1 fun y H2 => ∃ i j, x = .int i /\ y = .int j /\ k i j H2
def tAdd (ta tb : TE) : TE := fun σ H Q => t2I ta tb (fun i j H2 => Q (.int (i + j)) H2) σ H
def tSub (ta tb : TE) : TE := fun σ H Q => t2I ta tb (fun i j H2 => Q (.int (i - j)) H2) σ H
def tMul (ta tb : TE) : TE := fun σ H Q => t2I ta tb (fun i j H2 => (-(2 ^ 64) < i /\ i < 2 ^ 64) /\ Q (.int (i * j)) H2) σ H
variable {a b : Expr} {ta tb : TE} {pos : Pos}
/-! ### comparisons -/
def PC (X : Cx) (op : CmpOp) (a b : Expr) (t : TE) : Prop :=
  ∀ (pins : List (Addr × Obj)) (s : Shared) (σ : St) (H : Hp) (Q : VK), Inv X pins σ H s -> t σ H Q ->
    wpAny (model X.prog X.w) X.A (eval a X.env) (fun v s₁ => wpAny (model X.prog X.w) X.A (eval b X.env) (fun u s₂ => wpAny (model X.prog X.w) X.A (compareOp op v u) (EP X pins σ Q) X.xe s₂) X.xe s₁) X.xe s
def tCmp (p : Int -> Int -> Bool) (ta tb : TE) : TE := fun σ H Q => t2I ta tb (fun i j H2 => Q (.bl (p i j)) H2) σ H
abbrev tLt : TE -> TE -> TE := tCmp fun i j => decide (i < j)
abbrev tLe : TE -> TE -> TE := tCmp fun i j => decide (i <= j)
abbrev tGt : TE -> TE -> TE := tCmp fun i j => decide (j < i)
abbrev tGe : TE -> TE -> TE := tCmp fun i j => decide (j <= i)
abbrev tEqI : TE -> TE -> TE := tCmp fun i j => decide (i = j)
abbrev tNeI : TE -> TE -> TE := tCmp fun i j => !decide (i = j)
def tIsN (ta : TE) : TE := fun σ H Q => ta σ H fun x H1 => Q (.bl (decide (x = .non))) H1
def tNotN (ta : TE) : TE := fun σ H Q => ta σ H fun x H1 => Q (.bl (!decide (x = .non))) H1
def tB (t : TE) : TT := fun σ H Q => t σ H fun x H1 => ∃ c, x = .bl c /\ Q c H1
/-! ### and, or, not -/
variable {tA tB' : TT} {rest : List Expr}
def tAnd (t u : TT) : TT := fun σ H Q => t σ H fun c H1 => if c = true then u σ H1 Q else Q false H1
def tOr (t u : TT) : TT := fun σ H Q => t σ H fun c H1 => if c = true then Q true H1 else u σ H1 Q
def tNot (t : TT) : TT := fun σ H Q => t σ H fun c H1 => Q (!c) H1
theorem pw_or1 (ha : PT X a tA) : PW X (.BoolOp .Or [a] pos) tA := by
  intro wh pins s σ H Q I h
  refine isTrue_or (thn (ha pins s σ H Q I h) fun c s1 e => ?_)
  cases c with
  | false => exact isTrue_or_nil e
  | true => exact e
theorem pw_or (ha : PT X a tA) (hb : PW X (.BoolOp .Or (b :: rest) pos) tB') : PW X (.BoolOp .Or (a :: b :: rest) pos) (tOr tA tB') := by
  intro wh pins s σ H Q I h
  refine isTrue_or (thn (ha pins s σ H _ I h) fun c s1 ⟨H1, I1, q1⟩ => ?_)
  cases c with
  | true => exact ⟨H1, I1, q1⟩
  | false => exact hb wh pins s1 σ H1 Q I1 q1
theorem pt_not (ha : PT X a tA) : PT X (.UnaryOp .Not a pos) (tNot tA) := by
  intro pins s σ H Q I h
  exact isTrue_not (ha pins s σ H (fun c H1 => Q (!c) H1) I h)
def tAndV (ta tb : TE) : TE := fun σ H Q => ta σ H fun x H1 => ∃ c, x = .bl c /\ if c = true then tb σ H1 Q else Q (.bl false) H1
def tOrV (ta tb : TE) : TE := fun σ H Q => ta σ H fun x H1 => ∃ c, x = .bl c /\ if c = true then Q (.bl true) H1 else tb σ H1 Q
def tNotV (ta : TE) : TE := fun σ H Q => ta σ H fun x H1 => ∃ c, x = .bl c /\ Q (.bl (!c)) H1
def tIf (t : TT) (ta tb : TE) : TE := fun σ H Q => t σ H fun c H1 => if c = true then ta σ H1 Q else tb σ H1 Q
end
end L2

namespace L2
open PySem PySem.Spec PyProof.Rows

/-! ### a list, a tuple that is read: tracked, frozen, or an object of the module -/
def SqL (K : PySem.W.Frag) (H : Hp) (a : Addr) (xs : List V) : Prop :=
  Rd H a (.lst xs) \/
    ∃ (o : Obj) (its : Array Value) (n : Nat), K.lookup a = some o /\ o.cls = .type "list" /\ o.dict = none /\ o.data = .seq its n /\ its.size <= sizeLine /\ Vals xs its.toList
def SqT (K : PySem.W.Frag) (H : Hp) (a : Addr) (xs : List V) : Prop :=
  Rd H a (.tup xs) \/
    ∃ (o : Obj) (its : Array Value) (n : Nat), K.lookup a = some o /\ o.cls = .type "tuple" /\ o.data = .seq its n /\ its.size <= sizeLine /\ Vals xs its.toList
def absV : Value -> Option V
  | .none => some .non
  | .bool b => some (.bl b)
  | .int i _ => some (.int i)
  | .str x _ => some (.str x)
  | .bytes b _ => some (.byt b)
  | .float b _ => some (.flt b)
  | .ref a => some (.ref a)
  | .type n => some (.ty n)
  | _ => none
theorem RelV.abs {x : V} {u : Value} (r : RelV x u) : absV u = some x := by
  cases x with
  | non => cases r; rfl
  | bl _ => cases r; rfl
  | int _ => obtain ⟨t, rfl⟩ := r; rfl
  | str _ => obtain ⟨t, rfl⟩ := r; rfl
  | byt _ => obtain ⟨t, rfl⟩ := r; rfl
  | flt _ => obtain ⟨t, rfl⟩ := r; rfl
  | ref _ => cases r; rfl
  | ty _ => cases r; rfl
theorem RelV.inj {x y : V} {u : Value} (r : RelV x u) (q : RelV y u) : x = y := Option.some.inj (r.abs.symm.trans q.abs)
theorem Vals.inj : ∀ {xs ys : List V} {us : List Value}, Vals xs us -> Vals ys us -> xs = ys
  | _, _, _, .nil, .nil => rfl
  | _, _, _, .cons r t, .cons r' t' => by rw [r.inj r', Vals.inj t t']
section
variable {X : Cx} {pins : List (Addr × Obj)} {σ : St} {H : Hp} {s : Shared} {a : Addr} {xs ys : List V}
theorem SqL.of {K : PySem.W.Frag} (h : H a = some (.lst xs)) : SqL K H a xs := .inl (.inl h)
theorem SqT.of {K : PySem.W.Frag} (h : H a = some (.tup xs)) : SqT K H a xs := .inl (.inl h)
theorem Inv.list (I : Inv X pins σ H s) (h : SqL X.K H a xs) : ∃ its : List Value, Vals xs its /\ PlainL s.heap a its.toArray /\ xs.length <= sizeLine := by
  rcases h with h | ⟨o, its, n, hk, hc, hd, hs, hz, r⟩
  · obtain ⟨z, its, n, r, e⟩ := h.ok I.hok
    exact ⟨its, r, ⟨_, n, e, rfl, rfl, rfl⟩, z⟩
  · refine ⟨its.toList, r, ⟨o, n, I.kIn a o hk, hc, hd, by simpa using hs⟩, ?_⟩
    have e := r.length
    simp only [Array.length_toList] at e
    omega
theorem Inv.tuple (I : Inv X pins σ H s) (h : SqT X.K H a xs) : ∃ its : List Value, Vals xs its /\ IsTup s.heap a its.toArray /\ xs.length <= sizeLine := by
  rcases h with h | ⟨o, its, n, hk, hc, hs, hz, r⟩
  · obtain ⟨z, its, r, p⟩ := h.ok I.hok
    exact ⟨its, r, p, z⟩
  · refine ⟨its.toList, r, ⟨o, I.kIn a o hk, hc, n, by simpa using hs⟩, ?_⟩
    have e := r.length
    simp only [Array.length_toList] at e
    omega
theorem Inv.list_inj (I : Inv X pins σ H s) (h : SqL X.K H a xs) (h' : SqL X.K H a ys) : xs = ys := by
  obtain ⟨its, r, ⟨o, n, e, _, _, d⟩, _⟩ := I.list h
  obtain ⟨its', r', ⟨o', n', e', _, _, d'⟩, _⟩ := I.list h'
  rw [e] at e'; cases e'
  rw [d] at d'
  injection d' with d1 _
  have : its = its' := by simpa using congrArg Array.toList d1
  subst this
  exact r.inj r'
end

/-! ### another wish about exceptions -/
abbrev Cx.wish (X : Cx) (E : Value -> Shared -> Prop) : Cx := { X with xe := E }
abbrev Cx.nox (X : Cx) : Cx := X.wish fun _ _ => False
theorem Cx.Ok.wish {X : Cx} (ok : X.Ok) (E : Value -> Shared -> Prop) : (X.wish E).Ok :=
  ⟨ok.mod, ok.kind, ok.glob, ok.blt, ok.above, ok.inj, ok.has, ok.cab, ok.hd, ok.frames, ok.stk, ok.exf, ok.bs, ok.bsz, ok.noex, ok.exfs, ok.funs, ok.frf⟩
theorem Cx.Ok.unwish {X : Cx} {E : Value -> Shared -> Prop} (ok : (X.wish E).Ok) : X.Ok :=
  ⟨ok.mod, ok.kind, ok.glob, ok.blt, ok.above, ok.inj, ok.has, ok.cab, ok.hd, ok.frames, ok.stk, ok.exf, ok.bs, ok.bsz, ok.noex, ok.exfs, ok.funs, ok.frf⟩
section
variable {X : Cx} {pins : List (Addr × Obj)} {σ : St} {H : Hp} {s : Shared} {E : Value -> Shared -> Prop}
theorem Inv.wish (I : Inv X pins σ H s) (E : Value -> Shared -> Prop) : Inv (X.wish E) pins σ H s := ⟨I.ok.wish E, I.os, I.bare, I.base, I.loc, I.cell, I.free, I.freeC, I.pin, I.hok, I.len⟩
theorem Inv.unwish (I : Inv (X.wish E) pins σ H s) : Inv X pins σ H s := ⟨I.ok.unwish, I.os, I.bare, I.base, I.loc, I.cell, I.free, I.freeC, I.pin, I.hok, I.len⟩
theorem SP.unwish {D : Ends} {f : Flow} {s' : Shared} (h : SP (X.wish E) pins D f s') : SP X pins D f s' := by
  cases f with
  | next => obtain ⟨σ', H', I, q⟩ := h; exact ⟨σ', H', I.unwish, q⟩
  | brk => obtain ⟨σ', H', I, q⟩ := h; exact ⟨σ', H', I.unwish, q⟩
  | cont => obtain ⟨σ', H', I, q⟩ := h; exact ⟨σ', H', I.unwish, q⟩
  | ret u => obtain ⟨v, σ', H', I, r, q⟩ := h; exact ⟨v, σ', H', I.unwish, r, q⟩
theorem PE.nox {e : Expr} {t : TE} (h : PE X.nox e t) : PE X e t := fun pins s σ H Q I hw =>
  wpAny_mono (h pins s σ H Q (I.wish _) hw) (fun _ _ ⟨v, H', I', r, q⟩ => ⟨v, H', I'.unwish, r, q⟩) fun _ _ z => False.elim z
theorem PT.nox {e : Expr} {t : TT} (h : PT X.nox e t) : PT X e t := fun pins s σ H Q I hw =>
  wpAny_mono (h pins s σ H Q (I.wish _) hw) (fun _ _ ⟨H', I', q⟩ => ⟨H', I'.unwish, q⟩) fun _ _ z => False.elim z
theorem PSs.nox {st : List Stmt} {t : TS} (h : PSs X.nox st t) : PSs X st t := fun pins s σ H D I hw =>
  wpAny_mono (h pins s σ H D (I.wish _) hw) (fun _ _ q => q.unwish) fun _ _ z => False.elim z
end

/-! ### blocks and small statements -/
section
variable {X : Cx} {st : Stmt} {rest : List Stmt} {t u : TS} {e : Expr} {te : TE} {pos : Pos}
def tNext : TS := fun D σ H => D.nx σ H
def tSeq (t u : TS) : TS := fun D σ H => t { D with nx := u D } σ H
theorem pss_nil : PSs X [] tNext := fun _ _ σ H _ I h => wpAny_execs_nil ⟨σ, H, I, h⟩
theorem pss_cons (h1 : PS X st t) (h2 : PSs X rest u) : PSs X (st :: rest) (tSeq t u) := by
  intro pins s σ H D I h
  refine wpAny_execs_cons (thn (h1 pins s σ H { D with nx := u D } I h) fun f s1 q => ?_)
  cases f with
  | next =>
    obtain ⟨σ', H', I', q⟩ := q
    exact h2 pins s1 σ' H' D I' q
  | ret v => exact q
  | brk => exact q
  | cont => exact q
theorem pss_one (h1 : PS X st t) : PSs X [st] t := by
  intro pins s σ H D I h
  refine wpAny_execs_cons (thn (h1 pins s σ H D I h) fun f s1 q => ?_)
  cases f with
  | next => exact wpAny_execs_nil q
  | ret v => exact q
  | brk => exact q
  | cont => exact q
def tBreak : TS := fun D σ H => D.bk σ H
def tCont : TS := fun D σ H => D.ct σ H
theorem Inv.quiet {pins : List (Addr × Obj)} {σ : St} {H : Hp} {s : Shared} (I : Inv X pins σ H s) : interactive X.env = false := by simp [interactive, I.ok.kind]
def tDrop (te : TE) : TS := fun D σ H => te σ H fun _ H1 => D.nx σ H1
theorem ps_expr (he : PE X e te) (hs : swapsWith e none pos.line X.env = pure false := by rfl) : PS X (.Expr e pos) (tDrop te) := by
  intro pins s σ H D I h
  exact wpAny_Expr_any (thn (he pins s σ H _ I h) fun v s1 ⟨x, H1, I1, r1, q1⟩ => ⟨σ, H1, I1, q1⟩) I.quiet hs
def tRet (te : TE) : TS := fun D σ H => te σ H D.rt
theorem ps_ret (he : PE X e te) : PS X (.Return (some e) pos) (tRet te) := by
  intro pins s σ H D I h
  exact wpAny_Return_some (thn (he pins s σ H _ I h) fun v s1 ⟨x, H1, I1, r1, q1⟩ => ⟨x, σ, H1, I1, r1, q1⟩)
def tRetN : TS := fun D _ H => D.rt .non H
def tIfS (c : TT) (t u : TS) : TS := fun D σ H => c σ H fun b H1 => if b = true then t D σ H1 else u D σ H1
theorem ps_if {c : Expr} {a b : List Stmt} {tc : TT} (hc : PT X c tc) (ha : PSs X a t) (hb : PSs X b u) : PS X (.If c a b pos) (tIfS tc t u) := by
  intro pins s σ H D I h
  refine wpAny_If (thn (hc pins s σ H _ I h) fun d s1 ⟨H1, I1, q1⟩ => ?_)
  cases d with
  | true => exact ha pins s1 σ H1 D I1 q1
  | false => exact hb pins s1 σ H1 D I1 q1
def tNever : TS := fun _ _ _ => False
theorem ps_never : PS X st tNever := fun _ _ _ _ _ _ h => h.elim
end

/-! ### targets -/
abbrev TG := V -> St -> Hp -> (St -> Hp -> Prop) -> Prop
abbrev TGs := List V -> St -> Hp -> (St -> Hp -> Prop) -> Prop
def PG (X : Cx) (target : Expr) (t : TG) : Prop :=
  ∀ (pins : List (Addr × Obj)) (s : Shared) (σ : St) (H : Hp) (v : V) (u : Value) (Q : St -> Hp -> Prop), Inv X pins σ H s -> RelV v u -> t v σ H Q ->
    wpAny (model X.prog X.w) X.A (assign target X.env u) (fun _ s' => ∃ σ' H', Inv X pins σ' H' s' /\ Q σ' H') X.xe s
def PGs (X : Cx) (ts : List Expr) (t : TGs) : Prop :=
  ∀ (pins : List (Addr × Obj)) (s : Shared) (σ : St) (H : Hp) (vs : List V) (us : List Value) (Q : St -> Hp -> Prop), Inv X pins σ H s -> Vals vs us -> t vs σ H Q ->
    wpAny (model X.prog X.w) X.A (assignInOrder ((assignEach ts X.env).map (·.2)) us) (fun _ s' => ∃ σ' H', Inv X pins σ' H' s' /\ Q σ' H') X.xe s
abbrev TSet := V -> V -> V -> Hp -> (Hp -> Prop) -> Prop
def PSet (X : Cx) (t : TSet) : Prop :=
  ∀ (pins : List (Addr × Obj)) (s : Shared) (σ : St) (H : Hp) (o i v : V) (ov iv u : Value) (Q : Hp -> Prop), Inv X pins σ H s -> RelV o ov -> RelV i iv -> RelV v u -> t o i v H Q ->
    wpAny (model X.prog X.w) X.A (setItem ov iv u) (fun _ s' => ∃ H', Inv X pins σ H' s' /\ Q H') X.xe s
abbrev TIp := V -> V -> Hp -> VK -> Prop
def PIp (X : Cx) (op : Operator) (t : TIp) : Prop :=
  ∀ (pins : List (Addr × Obj)) (s : Shared) (σ : St) (H : Hp) (x y : V) (v u : Value) (Q : VK), Inv X pins σ H s -> RelV x v -> RelV y u -> t x y H Q ->
    wpAny (model X.prog X.w) X.A (inplaceOp op v u) (EP X pins σ Q) X.xe s
section
variable {X : Cx} {pos : Pos}
def gName (i : Nat) : TG := fun v σ H Q => Q (σ.set i (some v)) H
theorem pg_name {i : Nat} {x : Str} (hN : X.N.Nodup) (hi : X.N[i]? = some x) (hx : Loc X.env.scope x) (hf : X.fn x = true \/ X.env.scope.names.lookup x = some .local := by first | exact .inl rfl | exact .inr rfl | assumption) : PG X (.Name x pos) (gName i) := by
  intro pins s σ H v u Q I r h
  exact wpAny_assign_Name (store_ok I hN hi hx r (fun s' I' => ⟨_, H, I', h⟩) hf)
def gNil : TGs := fun vs σ H Q => vs = [] /\ Q σ H
def gCons (t : TG) (u : TGs) : TGs := fun vs σ H Q => ∃ v r, vs = v :: r /\ t v σ H fun σ' H' => u r σ' H' Q
theorem pgs_nil : PGs X [] gNil := by
  intro pins s σ H vs us Q I r h
  obtain ⟨e, h⟩ := h
  subst e
  cases r
  exact assignInOrder_nil ⟨σ, H, I, h⟩
theorem pgs_cons {e : Expr} {es : List Expr} {t : TG} {u : TGs} (h1 : PG X e t) (h2 : PGs X es u)
    (hs : (assignEach (e :: es) X.env).map (·.2) = assign e X.env :: (assignEach es X.env).map (·.2) := by rfl) : PGs X (e :: es) (gCons t u) := by
  intro pins s σ H vs us Q I r h
  obtain ⟨v, vr, e1, h⟩ := h
  subst e1
  cases r with
  | cons r rr =>
    rw [hs]
    refine assignInOrder_cons (thn (h1 pins s σ H _ _ _ I r h) fun _ s1 ⟨σ1, H1, I1, q1⟩ => ?_)
    exact h2 pins s1 σ1 H1 _ _ Q I1 rr q1
def gTup (K : PySem.W.Frag) (n : Nat) (t : TGs) : TG := fun v σ H Q => ∃ a xs, v = .ref a /\ SqT K H a xs /\ xs.length = n /\ t xs σ H Q
theorem pg_tup {es : List Expr} {k : Nat} {t : TGs} {n : Nat} (hc : X.calm = true) (h : PGs X es t)
    (hn : (assignEach es X.env).length = n := by rfl) (hst : (assignEach es X.env).findIdx? (·.1) = none := by rfl) : PG X (.Tuple es k pos) (gTup X.K n t) := by
  intro pins s σ H v u Q I r hw
  obtain ⟨a, xs, e1, hq, hl, hw⟩ := hw
  subst e1
  cases r
  obtain ⟨its, rv, ht, hz⟩ := I.tuple hq
  refine assign_Tuple_tuple (I.ok.hd hc) ht (by simp [hn, ← hl, rv.length]) hst fun h' hx => ?_
  have I1 : Inv X pins σ H { s with heap := h' } := I.kept (t' := s.toks) fun b o e => hx b o (Nat.ne_of_lt (Heap.lt_size e)) e
  exact h pins _ σ H xs _ Q I1 (by simpa using rv) hw
def gSub (to ti : TE) (t : TSet) : TG := fun v σ H Q => to σ H fun o H1 => ti σ H1 fun i H2 => t o i v H2 fun H3 => Q σ H3
theorem pg_sub {o i : Expr} {to ti : TE} {t : TSet} (ho : PE X o to) (hi : PE X i ti) (hs : PSet X t)
    (ha : ∀ v, assign (.Subscript o i pos) X.env v = (do
      let ov ← holding [v] (eval o X.env)
      let iv ← holding [v, ov] (eval i X.env)
      standAt pos
      holding [v, ov, iv] (setItem ov iv v)
      release [v, ov, iv] []) := by intro _; rfl) : PG X (.Subscript o i pos) (gSub to ti t) := by
  intro pins s σ H v u Q I r h
  rw [ha]
  refine wpAny_bind (wpAny_holding (thn (ho pins s σ H _ I h) fun ov s1 ⟨x, H1, I1, r1, q1⟩ => ?_))
  refine wpAny_bind (wpAny_holding (thn (hi pins s1 σ H1 _ I1 q1) fun iv s2 ⟨y, H2, I2, r2, q2⟩ => ?_))
  refine wpAny_bind (wpAny_standAt (wpAny_bind (wpAny_holding (thn (hs pins s2 σ H2 x y v ov iv u _ I2 r1 r2 r q2) fun _ s3 ⟨H3, I3, q3⟩ => ?_))))
  exact wpAny_release ⟨σ, H3, I3, q3⟩
def tAsg (te : TE) (g : TG) : TS := fun D σ H => te σ H fun x H1 => g x σ H1 D.nx
theorem ps_asg {tg e : Expr} {te : TE} {g : TG} (he : PE X e te) (hg : PG X tg g) (hs : swapsWithSole [tg] e pos.line X.env = pure false := by rfl) (hw : swappedStores [tg] e X.env = pure none := by rfl)
    (h1 : (assignEach [tg] X.env).map (·.2) = [assign tg X.env] := by rfl) : PS X (.Assign [tg] e pos) (tAsg te g) := by
  intro pins s σ H D I h
  refine wpAny_Assign_stores (thn (he pins s σ H _ I h) fun v s1 ⟨x, H1, I1, r1, q1⟩ => ?_) hs hw
  rw [h1]
  exact thn (hg pins s1 σ H1 x v _ I1 r1 q1) fun _ s2 q => q
theorem ps_set {i : Nat} {x : Str} {e : Expr} {te : TE} {pos' : Pos} (hN : X.N.Nodup) (hi : X.N[i]? = some x) (hx : Loc X.env.scope x) (he : PE X e te) (hs : swapsWith e (some (.Name x pos')) pos.line X.env = pure false := by rfl) (hf : X.fn x = true \/ X.env.scope.names.lookup x = some .local := by first | exact .inl rfl | exact .inr rfl | assumption) :
    PS X (.Assign [.Name x pos'] e pos) (tAsg te (gName i)) := by
  intro pins s σ H D I h
  refine wpAny_Assign_Name (thn (he pins s σ H _ I h) fun v s1 ⟨y, H1, I1, r1, q1⟩ => ?_) hs
  exact store_ok I1 hN hi hx r1 (fun s2 I2 => ⟨_, H1, I2, q1⟩) hf
def tPar (i j : Nat) (ta : TA) : TS := fun D σ H => ta σ H fun vs H1 => ∃ v w, vs = [v, w] /\ D.nx ((σ.set i (some v)).set j (some w)) H1
def tAug (i : Nat) (te : TE) (ti : TIp) : TS := fun D σ H => ∃ x, σ[i]? = some (some x) /\ te σ H fun y H1 => ti x y H1 fun z H2 => D.nx (σ.set i (some z)) H2
def tAugS (to ti te : TE) (tget : V -> V -> Hp -> VK -> Prop) (tip : TIp) (tset : TSet) : TS := fun D σ H => to σ H fun o H1 => ti σ H1 fun i H2 => tget o i H2 fun x H3 => te σ H3 fun y H4 => tip x y H4 fun z H5 => tset o i z H5 fun H6 => D.nx σ H6
def PGet (X : Cx) (t : V -> V -> Hp -> VK -> Prop) : Prop :=
  ∀ (pins : List (Addr × Obj)) (s : Shared) (σ : St) (H : Hp) (o i : V) (ov iv : Value) (Q : VK), Inv X pins σ H s -> RelV o ov -> RelV i iv -> t o i H Q ->
    wpAny (model X.prog X.w) X.A (getItem ov iv) (EP X pins σ Q) X.xe s
def ipI (f : Int -> Int -> Int) : TIp := fun x y H Q => ∃ i j, x = .int i /\ y = .int j /\ Q (.int (f i j)) H
end

/-! ### while -/
section
variable {X : Cx} {pos : Pos}
def tWhile (c : TT) (tb : TS) : TS := fun D σ H => ∃ W : Nat -> St -> Hp -> Prop, (∃ m, W m σ H) /\ ∀ m σ H, W m σ H ->
  c σ H fun b H1 => if b = true then ∃ N : St -> Hp -> Prop, (∀ σ' H', N σ' H' -> ∃ m', m' < m /\ W m' σ' H') /\ tb { D with nx := N, ct := N, bk := D.nx } σ H1 else D.nx σ H1
theorem ps_while {c : Expr} {body : List Stmt} {tc : TT} {tb : TS} (hp : PassesOwn (model X.prog X.w) X.A X.env X.xe) (hc : PT X c tc) (hb : PSs X body tb) : PS X (.While c body [] pos) (tWhile tc tb) := by
  intro pins s σ H D I h
  obtain ⟨W, ⟨m0, w0⟩, turn⟩ := h
  refine wpAny_While (codeAny_whileLoop (fun n s' => ∃ σ' H', Inv X pins σ' H' s' /\ W n σ' H') ?_ m0 ⟨σ, H, I, w0⟩)
  rintro n s1 ⟨σ1, H1, I1, w1⟩
  refine wpAny_passesOwn hp (thn (hc pins s1 σ1 H1 _ I1 (turn n σ1 H1 w1)) fun b s2 ⟨H2, I2, q2⟩ => ?_)
  cases b with
  | true =>
    obtain ⟨N, hN, q2⟩ := q2
    rw [if_pos rfl]
    refine wpAny_passesOwn hp (thn (hb pins s2 σ1 H2 _ I2 q2) fun f s3 q3 => ?_)
    cases f with
    | next =>
      obtain ⟨σ3, H3, I3, n3⟩ := q3
      obtain ⟨m', hm, w3⟩ := hN σ3 H3 n3
      exact ⟨m', hm, σ3, H3, I3, w3⟩
    | cont =>
      obtain ⟨σ3, H3, I3, n3⟩ := q3
      obtain ⟨m', hm, w3⟩ := hN σ3 H3 n3
      exact ⟨m', hm, σ3, H3, I3, w3⟩
    | brk => exact q3
    | ret v => exact q3
  | false =>
    rw [if_neg Bool.false_ne_true]
    exact wpAny_execs_nil ⟨σ1, H2, I2, q2⟩
end

/-! ### what a loop or a comprehension walks -/
structure It where
  go : Nat -> Hp -> Prop
  yld : Nat -> Hp -> V -> Hp -> Prop
  stop : Nat -> Hp -> Prop
def FpOk (X : Cx) (pins : List (Addr × Obj)) (H : Hp) (b : Addr) : Prop :=
  H b = none /\ b ≠ X.env.locals /\ b ∉ X.fs /\ (b ∈ X.ex \/ X.s₀.heap.objs.size <= b) /\ (∀ x c, X.env.cells.lookup x = some c -> c ≠ b) /\ ∀ p ∈ X.pn ++ pins, p.1 ≠ b
theorem Inv.fpOk {X : Cx} {pins : List (Addr × Obj)} {σ : St} {H H' : Hp} {s : Shared} {b : Addr} (I : Inv X pins σ H s) (hb : s.heap.objs.size <= b) (hn : H' b = none) : FpOk X pins H' b := by
  refine ⟨hn, Nat.ne_of_gt (Nat.lt_of_lt_of_le I.lt hb), I.nofs hb, .inr (Nat.le_trans I.sz hb), fun x c e z => ?_, fun p hp z => ?_⟩
  · obtain ⟨v, q⟩ := I.cell x c e
    exact absurd (Nat.lt_of_lt_of_le q.lt (by rw [z]; exact hb)) (Nat.lt_irrefl _)
  · exact absurd (Nat.lt_of_lt_of_le (Heap.lt_size (I.pin p hp).1) (by rw [z]; exact hb)) (Nat.lt_irrefl _)
structure Turn (P : Program) (w : World) (K : PySem.W.Frag) (tg : Expr) (J : It) (fp : List Addr) (it : Addr) (tn : Nat -> Heap -> Prop) : Prop where
  mem : it ∈ fp
  obj : ∀ i h, tn i h -> ∀ b ∈ fp, ∃ o, h.get? b = some o /\ ∀ v, o.data ≠ .cell v
  keep : ∀ i h h', tn i h -> (∀ b ∈ fp, ∀ o, h.get? b = some o -> h'.get? b = some o) -> tn i h'
  item : ∀ (X : Cx), X.prog = P -> X.w = w -> X.K = K -> X.calm = true -> ∀ (i : Nat) (pins : List (Addr × Obj)) (s : Shared) (σ : St) (H : Hp) (E : Value -> Shared -> Prop), Inv X pins σ H s -> (∀ b ∈ fp, FpOk X pins H b) -> tn i s.heap -> J.go i H ->
    wpAny (model P w) X.A (pyNext (.ref it)) (fun r s1 => ∃ u, r = some u /\
      wpAny (model P w) X.A (letOwnedTupleGo tg (.ref it) u) (fun _ s2 => ∃ x H', Inv X pins σ H' s2 /\ RelV x u /\ J.yld i H x H' /\ tn (i + 1) s2.heap /\ ∀ b ∈ fp, H' b = none) E s1) E s
  done : ∀ (X : Cx), X.prog = P -> X.w = w -> X.K = K -> X.calm = true -> ∀ (i : Nat) (pins : List (Addr × Obj)) (s : Shared) (σ : St) (H : Hp) (E : Value -> Shared -> Prop), Inv X pins σ H s -> (∀ b ∈ fp, FpOk X pins H b) -> tn i s.heap -> J.stop i H ->
    wpAny (model P w) X.A (pyNext (.ref it)) (fun r s1 => r = none /\ Inv X pins σ H s1) E s
  self : ∀ (A : Around) (i : Nat) (s : Shared) (Q : Value -> Shared -> Prop) (E : Value -> Shared -> Prop), tn i s.heap -> Q (.ref it) s -> wpAny (model P w) A (pyIter (.ref it)) Q E s
abbrev TI := St -> Hp -> (It -> Hp -> Prop) -> Prop
def PIE (X : Cx) (pins : List (Addr × Obj)) (σ : St) (tg : Expr) (R : It -> Hp -> Prop) (itv : Value) (s2 : Shared) : Prop :=
  ∃ (it : Addr) (fp : List Addr) (tn : Nat -> Heap -> Prop) (J : It) (H' : Hp), itv = .ref it /\ Inv X pins σ H' s2 /\ Turn X.prog X.w X.K tg J fp it tn /\ tn 0 s2.heap /\ (∀ b ∈ fp, FpOk X pins H' b) /\ R J H'
def PI (X : Cx) (tg iter : Expr) (wi : TI) : Prop :=
  ∀ (pins : List (Addr × Obj)) (s : Shared) (σ : St) (H : Hp) (R : It -> Hp -> Prop), Inv X pins σ H s -> wi σ H R ->
    wpAny (model X.prog X.w) X.A (eval iter X.env) (fun v s1 => wpAny (model X.prog X.w) X.A (pyIter v) (PIE X pins σ tg R) X.xe s1) X.xe s

theorem go_of {M : Model} {A : Around} {E : Value -> Shared -> Prop} {s : Shared} {tg : Expr} {it : Addr} {u : Value} {o : Obj} {n : String} {vs : Array Value} {Q : Unit -> Shared -> Prop} (ho : s.heap.get? it = some o) (hc : o.cls = .type n) (hd : o.data = .fields vs)
    (hn : ["enumerate", "zip", "dict_itemiterator", "dict_reverseitemiterator", "odict_iterator", "itertools.zip_longest", "itertools.pairwise"].contains n = false) (hQ : Q () s) : wpAny M A (letOwnedTupleGo tg (.ref it) u) Q E s := by
  unfold letOwnedTupleGo
  cases tg <;> first
    | exact wpAny_pure hQ
    | (cases u <;> first
        | exact wpAny_pure hQ
        | (refine wpAny_bind (wpAny_load ho ?_)
           rw [hc, hd]
           show wpAny M A (if (["enumerate", "zip", "dict_itemiterator", "dict_reverseitemiterator", "odict_iterator", "itertools.zip_longest", "itertools.pairwise"].contains n && vs[0]? == some (rawInt _)) = true then _ else _) Q E s
           rw [if_neg (by intro h; rw [hn, Bool.false_and] at h; cases h)]
           exact wpAny_pure hQ))

def Itl (K : PySem.W.Frag) (a : Addr) : It :=
  ⟨fun i H => ∃ xs x, SqL K H a xs /\ xs[i]? = some x, fun i H x H' => H' = H /\ ∀ xs, SqL K H a xs -> xs[i]? = some x, fun i H => ∃ xs, SqL K H a xs /\ xs.length <= i⟩
def Itt (K : PySem.W.Frag) (a : Addr) : It :=
  ⟨fun i H => ∃ xs x, SqT K H a xs /\ xs[i]? = some x, fun i H x H' => H' = H /\ ∀ xs, SqT K H a xs -> xs[i]? = some x, fun i H => ∃ xs, SqT K H a xs /\ xs.length <= i⟩
def Itr (lo : Int) (n : Nat) : It := ⟨fun i _ => i < n, fun i H x H' => H' = H /\ x = .int (lo + i), fun i _ => n <= i⟩
theorem turn_list {P : Program} {w : World} {K : PySem.W.Frag} {tg : Expr} (a it : Addr) : Turn P w K tg (Itl K a) [it] it (fun i h => h.IsListIter it a i) where
  mem := by simp
  obj := fun i h st b hb => by
    have e : b = it := by simpa using hb
    subst e
    obtain ⟨o, e, c, d⟩ := st
    exact ⟨o, e, fun v z => by rw [d] at z; cases z⟩
  keep := fun i h h' st k => st.at fun o e => k it (by simp) o e
  item := by
    intro X hP hw hK hc i pins s σ H E I hf st hg
    subst hP hw hK
    obtain ⟨xs, x, hq, hx⟩ := hg
    obtain ⟨its, rv, p, hz⟩ := I.list hq
    obtain ⟨u, hu, ru⟩ := rv.get hx
    obtain ⟨f0, f1, f2, f3, f4, f5⟩ := hf it (by simp)
    refine wpAny_pyNext_list_item st p.isList (x := u) (by simpa using hu) fun h' st' sb => ?_
    have I1 : Inv X pins σ H { s with heap := h' } := I.turned (t' := s.toks) (fun b o hb e => (sb.2 b hb).trans e) f0 f1 f3 f4 f5
    obtain ⟨o, e, c, d⟩ := id st'
    exact ⟨u, rfl, go_of (s := { s with heap := h' }) e c d (by decide) ⟨x, H, I1, ru, ⟨rfl, fun ys hy => by rw [I.list_inj hy hq]; exact hx⟩, st', fun b hb => (hf b hb).1⟩⟩
  done := by
    intro X hP hw hK hc i pins s σ H E I hf st hg
    subst hP hw hK
    obtain ⟨xs, hq, hx⟩ := hg
    obtain ⟨its, rv, p, hz⟩ := I.list hq
    obtain ⟨f0, f1, f2, f3, f4, f5⟩ := hf it (by simp)
    have hl := rv.length
    exact wpAny_pyNext_list_end (I.ok.hd hc) st p.isList (by simp; omega) fun h' eb => ⟨rfl, I.turned (t' := s.toks) (fun b o hb e => eb b o hb e) f0 f1 f3 f4 f5⟩
  self := fun _ _ _ _ _ st h => wpAny_pyIter_listiter st h
theorem turn_range {P : Program} {w : World} {K : PySem.W.Frag} {tg : Expr} (it : Addr) (lo : Int) (n : Nat) : Turn P w K tg (Itr lo n) [it] it (fun i h => IsRangeIter h it (lo + (i : Nat) * 1) ((n : Int) - (i : Nat)) 1) where
  mem := by simp
  obj := fun i h st b hb => by
    have e : b = it := by simpa using hb
    subst e
    exact ⟨_, st, fun v z => by
      have z' : Data.fields _ = Data.cell v := z
      cases z'⟩
  keep := fun i h h' st k => k it (by simp) _ st
  item := by
    intro X hP hw hK hc i pins s σ H E I hf st hg
    subst hP hw hK
    obtain ⟨f0, f1, f2, f3, f4, f5⟩ := hf it (by simp)
    have W := Walks.range (prog := X.prog) (w := X.w) (I.ok.hd hc) it lo 1 n
    refine W.item i s _ _ hg st fun v h' tk hv st' kk => ?_
    obtain ⟨t, rfl⟩ := hv
    have I1 : Inv X pins σ H { s with heap := h', toks := tk } := I.turned (fun b o hb e => kk b o (by simpa using hb) e) f0 f1 f3 f4 f5
    refine ⟨_, rfl, go_of (s := { s with heap := h', toks := tk }) (n := "range_iterator") st' rfl rfl (by decide) ⟨.int (lo + i), H, I1, ⟨t, ?_⟩, ⟨rfl, rfl⟩, st', fun b hb => (hf b hb).1⟩⟩
    rw [Int.mul_one]
  done := by
    intro X hP hw hK hc i pins s σ H E I hf st hg
    subst hP hw hK
    obtain ⟨f0, f1, f2, f3, f4, f5⟩ := hf it (by simp)
    exact wpAny_pyNext_range_end (I.ok.hd hc) st (by have : n <= i := hg; omega) fun h' eb => ⟨rfl, I.turned (t' := s.toks) (fun b o hb e => eb b o hb e) f0 f1 f3 f4 f5⟩
  self := fun _ _ _ _ _ st h => wpAny_pyIter_rangeiter st h
end L2

namespace L2
open PySem PySem.Spec PyProof.Rows
section
variable {X : Cx} {tg : Expr}
def iList (K : PySem.W.Frag) (tl : TE) : TI := fun σ H R => tl σ H fun x H1 => ∃ a, x = .ref a /\ (∃ xs, SqL K H1 a xs) /\ R (Itl K a) H1
def iTup (K : PySem.W.Frag) (tl : TE) : TI := fun σ H R => tl σ H fun x H1 => ∃ a, x = .ref a /\ (∃ xs, SqT K H1 a xs) /\ R (Itt K a) H1
theorem pi_list {l : Expr} {tl : TE} (hl : PE X l tl) : PI X tg l (iList X.K tl) := by
  intro pins s σ H R I h
  refine thn (hl pins s σ H _ I h) fun v s1 ⟨x, H1, I1, r1, q1⟩ => ?_
  obtain ⟨a, e, ⟨xs, hq⟩, q⟩ := q1
  subst e
  cases r1
  obtain ⟨its, rv, p, hz⟩ := I1.list hq
  refine wpAny_pyIter_list p.isList ?_
  refine ⟨s1.heap.objs.size, [s1.heap.objs.size], _, _, H1, rfl, I1.kept (t' := s1.toks) fun b o e => Heap.get?_push_of_some _ e, turn_list a _, ⟨_, Heap.get?_push_size _ rfl, rfl, rfl⟩, fun b hb => ?_, q⟩
  have e : b = s1.heap.objs.size := by simpa using hb
  subst e
  exact I1.fpOk (Nat.le_refl _) (I1.hok.fresh (Nat.le_refl _))
theorem range_it {pins : List (Addr × Obj)} {σ : St} {H : Hp} {s : Shared} {R : It -> Hp -> Prop} {E : Value -> Shared -> Prop} {lo hi : Int} {t u v : Tok} {tk : Nat} (I : Inv X pins σ H s) (h1 : -(2 ^ 62) <= lo) (h2 : lo < 2 ^ 62) (h3 : -(2 ^ 62) <= hi) (h4 : hi < 2 ^ 62)
    (q : R (Itr lo (hi - lo).toNat) H) : wpAny (model X.prog X.w) X.A (pyIter (.ref s.heap.objs.size)) (PIE X pins σ tg R) E { s with heap := s.heap.push { cls := .type "range", data := .fields #[.int lo t, .int hi u, .int 1 v] }, toks := tk } := by
  refine wpAny_pyIter_range (IsRange.new ..) (small_one h1 h2 h3 h4) ?_
  have I1 : Inv X pins σ H { s with heap := s.heap.push { cls := .type "range", data := .fields #[.int lo t, .int hi u, .int 1 v] }, toks := tk } := I.kept fun b o e => Heap.get?_push_of_some _ e
  refine ⟨(s.heap.push { cls := .type "range", data := .fields #[.int lo t, .int hi u, .int 1 v] }).objs.size, [(s.heap.push { cls := .type "range", data := .fields #[.int lo t, .int hi u, .int 1 v] }).objs.size], _, _, H, rfl,
    I1.kept (t' := tk) fun b o e => Heap.get?_push_of_some _ e, turn_range _ lo (hi - lo).toNat, ?_, fun b hb => ?_, q⟩
  · have e1 : lo + ((0 : Nat) : Int) * 1 = lo := by simp
    have e2 : (((hi - lo).toNat : Nat) : Int) - ((0 : Nat) : Int) = Builtin.Range.rangeSize lo hi 1 := by rw [rangeSize_one]; split <;> omega
    show IsRangeIter _ _ (lo + ((0 : Nat) : Int) * 1) ((((hi - lo).toNat : Nat) : Int) - ((0 : Nat) : Int)) 1
    rw [e1, e2]
    exact Heap.get?_push_size _ rfl
  · have e : b = (s.heap.push { cls := .type "range", data := .fields #[.int lo t, .int hi u, .int 1 v] }).objs.size := by simpa using hb
    subst e
    exact I1.fpOk (Nat.le_refl _) (I1.hok.fresh (Nat.le_refl _))
def iRng1 (ta : TA) : TI := fun σ H R => ta σ H fun vs H1 => ∃ j : Int, vs = [.int j] /\ -(2 ^ 62) <= j /\ j < 2 ^ 62 /\ R (Itr 0 j.toNat) H1
def iRng2 (ta : TA) : TI := fun σ H R => ta σ H fun vs H1 => ∃ i j : Int, vs = [.int i, .int j] /\ (-(2 ^ 62) <= i /\ i < 2 ^ 62 /\ -(2 ^ 62) <= j /\ j < 2 ^ 62) /\ R (Itr i (j - i).toNat) H1
theorem pi_range1 {a : Expr} {ta : TA} {p pos : Pos} (hg : Gl X "range") (hm : X.mg "range" = none) (ha : PA X [a] ta) (hs : starEach [a] X.env = [(false, eval a X.env)] := by rfl) : PI X tg (.Call (.Name "range" p) [a] [] pos) (iRng1 ta) := by
  intro pins s σ H R I h
  refine Call_ (ld_blt I hg hm boot_range (PyProof.Rows.callWith_type1 (thn (ha pos pins s σ H _ I h) fun us s1 ⟨vs, H1, I1, r1, q1⟩ => ?_) hs rfl))
  obtain ⟨j, e, q1, q2, q⟩ := q1
  subst e
  cases r1 with
  | cons r rr =>
    cases rr
    obtain ⟨t, rfl⟩ := r
    exact call_range_1 (range_it I1 (by omega) (by omega) q1 q2 (by simpa using q))
/-! ### for -/
def tFor (wi : TI) (g : TG) (tb : TS) : TS := fun D σ H => wi σ H fun J H1 => ∃ W : Nat -> Nat -> St -> Hp -> Prop, (∃ m, W 0 m σ H1) /\ ∀ i m σ H, W i m σ H ->
  (J.stop i H /\ D.nx σ H) \/ (J.go i H /\ ∃ N : St -> Hp -> Prop, (∀ σ' H', N σ' H' -> ∃ m', m' < m /\ W (i + 1) m' σ' H') /\ ∀ x H', J.yld i H x H' -> g x σ H' fun σ2 H2 => tb { D with nx := N, ct := N, bk := D.nx } σ2 H2)
def pinsAt (fp : List Addr) (h : Heap) : List (Addr × Obj) := fp.filterMap fun b => (h.get? b).map fun o => (b, o)
theorem mem_pinsAt {fp : List Addr} {h : Heap} {b : Addr} {o : Obj} (hb : b ∈ fp) (e : h.get? b = some o) : (b, o) ∈ pinsAt fp h := List.mem_filterMap.mpr ⟨b, hb, by rw [e]; rfl⟩
theorem of_pinsAt {fp : List Addr} {h : Heap} {p : Addr × Obj} (hp : p ∈ pinsAt fp h) : p.1 ∈ fp /\ h.get? p.1 = some p.2 := by
  obtain ⟨b, hb, e⟩ := List.mem_filterMap.mp hp
  cases q : h.get? b with
  | none => rw [q] at e; cases e
  | some o =>
    rw [q] at e
    have e' : (b, o) = p := Option.some.inj e
    subst e'
    exact ⟨hb, q⟩
theorem Inv.pinned {pins : List (Addr × Obj)} {σ : St} {H : Hp} {s : Shared} {fp : List Addr} (I : Inv X pins σ H s) (hf : ∀ b ∈ fp, FpOk X pins H b) (ho : ∀ b ∈ fp, ∃ o, s.heap.get? b = some o /\ ∀ v, o.data ≠ .cell v) : Inv X (pins ++ pinsAt fp s.heap) σ H s :=
  I.pins_of fun p hp => (List.mem_append.mp hp).elim (fun z => I.pin p (List.mem_append_right _ z)) fun z => by
    obtain ⟨hb, e⟩ := of_pinsAt z
    obtain ⟨f0, f1, f2, _⟩ := hf p.1 hb
    obtain ⟨o, e', d⟩ := ho p.1 hb
    rw [e] at e'; cases e'
    exact ⟨e, f0, f1, f2, d⟩
theorem Inv.unpinned {pins pl : List (Addr × Obj)} {σ : St} {H : Hp} {s : Shared} (I : Inv X (pins ++ pl) σ H s) : Inv X pins σ H s := I.pins_of fun p hp => I.pin p (List.mem_append_right _ (List.mem_append_left _ hp))
theorem ps_for {iter : Expr} {body : List Stmt} {wi : TI} {g : TG} {tb : TS} {pos : Pos} (hp : PassesOwn (model X.prog X.w) X.A X.env X.xe) (hc : X.calm = true) (hi : PI X tg iter wi) (hg : PG X tg g) (hb : PSs X body tb)
    (hs : ∀ x, foldedSetIterable iter X.env x = pure x := by intro _; rfl) : PS X (.For tg iter body [] pos) (tFor wi g tb) := by
  intro pins s σ H D I h
  refine wpAny_For (thn (hi pins s σ H _ I h) fun v s1 h1 => thn h1 fun itv s2 h2 => ?_) hs
  obtain ⟨it, fp, tn, J, H2, e, I2, T, st2, f2, W, ⟨m0, w0⟩, turn⟩ := h2
  subst e
  have stat : ∀ {H' : Hp}, (∀ b ∈ fp, H' b = none) -> ∀ b ∈ fp, FpOk X pins H' b := fun hn b hb => ⟨hn b hb, (f2 b hb).2⟩
  refine codeAny_forLoop_any (fun n s' => ∃ i σ' H', Inv X pins σ' H' s' /\ tn i s'.heap /\ (∀ b ∈ fp, H' b = none) /\ W i n σ' H') ?_ m0 ⟨0, σ, H2, I2, st2, fun b hb => (f2 b hb).1, w0⟩
  rintro n s3 ⟨i, σ3, H3, I3, st3, fr3, w3⟩
  rcases turn i n σ3 H3 w3 with ⟨stop, qn⟩ | ⟨go, N, hN, step⟩
  · refine wpAny_passesOwn hp (thn (T.done X rfl rfl rfl hc i pins s3 σ3 H3 X.xe I3 (stat fr3) st3 stop) fun r s4 ⟨hr, I4⟩ => ?_)
    subst hr
    exact wpAny_execs_nil ⟨σ3, H3, I4, qn⟩
  · refine wpAny_passesOwn hp (thn (T.item X rfl rfl rfl hc i pins s3 σ3 H3 X.xe I3 (stat fr3) st3 go) fun r s4 ⟨u, hr, h4⟩ => ?_)
    subst hr
    refine wpAny_passesOwn hp (thn h4 fun _ s5 ⟨x, H5, I5, r5, y5, st5, fr5⟩ => ?_)
    have I5' := I5.pinned (stat fr5) (T.obj _ _ st5)
    refine wpAny_passesOwn hp (thn (hg _ s5 σ3 H5 x u _ I5' r5 (step x H5 y5)) fun _ s6 ⟨σ6, H6, I6, q6⟩ => ?_)
    refine wpAny_passesOwn hp (thn (hb _ s6 σ6 H6 _ I6 q6) fun f s7 q7 => ?_)
    have again : ∀ {σ7 : St} {H7 : Hp}, Inv X (pins ++ pinsAt fp s5.heap) σ7 H7 s7 -> N σ7 H7 -> ∃ m, m < n /\ ∃ i σ' H', Inv X pins σ' H' s7 /\ tn i s7.heap /\ (∀ b ∈ fp, H' b = none) /\ W i m σ' H' := fun {σ7 H7} I7 n7 => by
      obtain ⟨m', hm, w7⟩ := hN σ7 H7 n7
      refine ⟨m', hm, i + 1, σ7, H7, I7.unpinned, T.keep _ _ _ st5 fun b hb o e => (I7.pin (b, o) (List.mem_append_right _ (List.mem_append_right _ (mem_pinsAt hb e)))).1, fun b hb => ?_, w7⟩
      obtain ⟨o, e, d⟩ := T.obj _ _ st5 b hb
      exact (I7.pin (b, o) (List.mem_append_right _ (List.mem_append_right _ (mem_pinsAt hb e)))).2.1
    cases f with
    | next => obtain ⟨σ7, H7, I7, n7⟩ := q7; exact again I7 n7
    | cont => obtain ⟨σ7, H7, I7, n7⟩ := q7; exact again I7 n7
    | brk => obtain ⟨σ7, H7, I7, q7⟩ := q7; exact ⟨σ7, H7, I7.unpinned, q7⟩
    | ret v => obtain ⟨x7, σ7, H7, I7, r7, q7⟩ := q7; exact ⟨x7, σ7, H7, I7.unpinned, r7, q7⟩
end

/-! ### the forms one uses -/
theorem for_list {K : PySem.W.Frag} {a : Addr} {xs : List V} {g : TG} {tb : TS} {D : Ends} {σ : St} {H : Hp} (Pv : Nat -> St -> Hp -> Prop) (h0 : Pv 0 σ H) (hl : ∀ i σ H, i <= xs.length -> Pv i σ H -> SqL K H a xs)
    (hs : ∀ i x σ H, xs[i]? = some x -> Pv i σ H -> g x σ H fun σ2 H2 => tb { D with nx := Pv (i + 1), ct := Pv (i + 1), bk := D.nx } σ2 H2) (hd : ∀ σ H, Pv xs.length σ H -> D.nx σ H) :
    ∃ W : Nat -> Nat -> St -> Hp -> Prop, (∃ m, W 0 m σ H) /\ ∀ i m σ H, W i m σ H ->
      ((Itl K a).stop i H /\ D.nx σ H) \/ ((Itl K a).go i H /\ ∃ N : St -> Hp -> Prop, (∀ σ' H', N σ' H' -> ∃ m', m' < m /\ W (i + 1) m' σ' H') /\ ∀ x H', (Itl K a).yld i H x H' -> g x σ H' fun σ2 H2 => tb { D with nx := N, ct := N, bk := D.nx } σ2 H2) := by
  refine ⟨fun i m σ H => m = xs.length - i /\ i <= xs.length /\ Pv i σ H, ⟨xs.length, by simp, Nat.zero_le _, h0⟩, ?_⟩
  rintro i m σ H ⟨rfl, hi, p⟩
  have q := hl i σ H hi p
  by_cases hlt : i < xs.length
  · refine .inr ⟨⟨xs, xs[i], q, by simp [hlt]⟩, Pv (i + 1), fun σ' H' p' => ⟨xs.length - (i + 1), by omega, rfl, hlt, p'⟩, fun x H' y => ?_⟩
    obtain ⟨e, y⟩ := y
    subst e
    exact hs i x σ _ (y xs q) p
  · have e : i = xs.length := by omega
    subst e
    exact .inl ⟨⟨xs, q, Nat.le_refl _⟩, hd σ H p⟩
theorem for_range {lo : Int} {n : Nat} {g : TG} {tb : TS} {D : Ends} {σ : St} {H : Hp} (Pv : Nat -> St -> Hp -> Prop) (h0 : Pv 0 σ H)
    (hs : ∀ i σ H, i < n -> Pv i σ H -> g (.int (lo + i)) σ H fun σ2 H2 => tb { D with nx := Pv (i + 1), ct := Pv (i + 1), bk := D.nx } σ2 H2) (hd : ∀ σ H, Pv n σ H -> D.nx σ H) :
    ∃ W : Nat -> Nat -> St -> Hp -> Prop, (∃ m, W 0 m σ H) /\ ∀ i m σ H, W i m σ H ->
      ((Itr lo n).stop i H /\ D.nx σ H) \/ ((Itr lo n).go i H /\ ∃ N : St -> Hp -> Prop, (∀ σ' H', N σ' H' -> ∃ m', m' < m /\ W (i + 1) m' σ' H') /\ ∀ x H', (Itr lo n).yld i H x H' -> g x σ H' fun σ2 H2 => tb { D with nx := N, ct := N, bk := D.nx } σ2 H2) := by
  refine ⟨fun i m σ H => m = n - i /\ i <= n /\ Pv i σ H, ⟨n, by simp, Nat.zero_le _, h0⟩, ?_⟩
  rintro i m σ H ⟨rfl, hi, p⟩
  by_cases hlt : i < n
  · refine .inr ⟨hlt, Pv (i + 1), fun σ' H' p' => ⟨n - (i + 1), by omega, rfl, hlt, p'⟩, fun x H' y => ?_⟩
    obtain ⟨e, y⟩ := y
    subst e y
    exact hs i σ _ hlt p
  · have e : i = n := by omega
    subst e
    exact .inl ⟨Nat.le_refl _, hd σ H p⟩
end L2

namespace L2
open PySem PySem.Spec PyProof.Rows

abbrev R2 := V -> V -> Hp -> VK -> Prop
def OpR (X : Cx) (f : Value -> Value -> Sem Value) (r : R2) : Prop :=
  ∀ (pins : List (Addr × Obj)) (s : Shared) (σ : St) (H : Hp) (x y : V) (v u : Value) (Q : VK), Inv X pins σ H s -> RelV x v -> RelV y u -> r x y H Q ->
    wpAny (model X.prog X.w) X.A (f v u) (EP X pins σ Q) X.xe s
def UnR (X : Cx) (f : Value -> Sem Value) (r : V -> Hp -> VK -> Prop) : Prop :=
  ∀ (pins : List (Addr × Obj)) (s : Shared) (σ : St) (H : Hp) (x : V) (v : Value) (Q : VK), Inv X pins σ H s -> RelV x v -> r x H Q ->
    wpAny (model X.prog X.w) X.A (f v) (EP X pins σ Q) X.xe s
def CallR (X : Cx) (f : Value) (r : List V -> Hp -> VK -> Prop) : Prop :=
  ∀ (pins : List (Addr × Obj)) (s : Shared) (σ : St) (H : Hp) (xs : List V) (us : List Value) (Q : VK), Inv X pins σ H s -> Vals xs us -> r xs H Q ->
    wpAny (model X.prog X.w) X.A (call f us) (EP X pins σ Q) X.xe s
def TruR (X : Cx) (r : V -> Hp -> (Bool -> Hp -> Prop) -> Prop) : Prop :=
  ∀ (pins : List (Addr × Obj)) (s : Shared) (σ : St) (H : Hp) (x : V) (v : Value) (Q : Bool -> Hp -> Prop), Inv X pins σ H s -> RelV x v -> r x H Q ->
    wpAny (model X.prog X.w) X.A (truthy v) (TP X pins σ Q) X.xe s

def tOp (r : R2) (ta tb : TE) : TE := fun σ H Q => ta σ H fun x H1 => tb σ H1 fun y H2 => r x y H2 Q
def tUn (r : V -> Hp -> VK -> Prop) (ta : TE) : TE := fun σ H Q => ta σ H fun x H1 => r x H1 Q
def rI (C : Int -> Int -> Prop) (g : Int -> Int -> V) : R2 := fun x y H Q => ∃ i j, x = .int i /\ y = .int j /\ C i j /\ Q (g i j) H
def rI0 (g : Int -> Int -> V) : R2 := fun x y H Q => ∃ i j, x = .int i /\ y = .int j /\ Q (g i j) H
def rU (g : Int -> V) : V -> Hp -> VK -> Prop := fun x H Q => ∃ i, x = .int i /\ Q (g i) H

section
variable {X : Cx} {a b c : Expr} {ta tb tc : TE} {pos : Pos}

theorem binT (ha : PE X a ta) (hb : PE X b tb) {pins : List (Addr × Obj)} {s : Shared} {σ : St} {H : Hp} {R : V -> V -> Hp -> Prop} (I : Inv X pins σ H s)
    (h : ta σ H fun x H1 => tb σ H1 fun y H2 => R x y H2) {Q : Value -> Shared -> Prop} {f : Value -> Value -> Sem Value}
    (hf : ∀ v u s2 x y H2, Inv X pins σ H2 s2 -> RelV x v -> RelV y u -> R x y H2 -> wpAny (model X.prog X.w) X.A (f v u) Q X.xe s2) :
    wpAny (model X.prog X.w) X.A (eval a X.env) (fun v s₁ => wpAny (model X.prog X.w) X.A (eval b X.env) (fun u s₂ => wpAny (model X.prog X.w) X.A (f v u) Q X.xe s₂) X.xe s₁) X.xe s := by
  refine thn (ha pins s σ H _ I h) fun v s1 ⟨x, H1, I1, r1, q1⟩ => ?_
  refine thn (hb pins s1 σ H1 _ I1 q1) fun u s2 ⟨y, H2, I2, r2, q2⟩ => ?_
  exact hf v u s2 x y H2 I2 r1 r2 q2

theorem pe_op {op : Operator} {r : R2} (ho : OpR X (binaryOp op) r) (ha : PE X a ta) (hb : PE X b tb) : PE X (.BinOp a op b pos) (tOp r ta tb) := by
  intro pins s σ H Q I h
  exact wpAny_BinOp (binT ha hb I h fun v u s2 x y H2 I2 rx ry q => ho pins s2 σ H2 x y v u Q I2 rx ry q)
theorem pe_un {op : UnaryOp} {r : V -> Hp -> VK -> Prop} (ho : UnR X (unaryOp op) r) (ha : PE X a ta) : PE X (.UnaryOp op a pos) (tUn r ta) := by
  intro pins s σ H Q I h
  exact UnaryOp_ (thn (ha pins s σ H _ I h) fun v s1 ⟨x, H1, I1, r1, q1⟩ => ho pins s1 σ H1 x v Q I1 r1 q1)
/-! ### ints -/
theorem opI {f : Value -> Value -> Sem Value} {C : Int -> Int -> Prop} {g : Int -> Int -> Int}
    (rule : ∀ (i j : Int) (t u : Tok) (s : Shared) (Q : Value -> Shared -> Prop) (E : Value -> Shared -> Prop), C i j -> Q (.int (g i j) s.toks) { s with toks := s.toks + 1 } -> wpAny (model X.prog X.w) X.A (f (.int i t) (.int j u)) Q E s) :
    OpR X f (rI C fun i j => .int (g i j)) := by
  intro pins s σ H x y v u Q I rx ry h
  obtain ⟨i, j, rfl, rfl, hc, q⟩ := h
  obtain ⟨t, rfl⟩ := rx
  obtain ⟨t', rfl⟩ := ry
  exact rule i j t t' s _ _ hc ⟨.int (g i j), H, I.tok _, ⟨_, rfl⟩, q⟩
theorem opI0 {f : Value -> Value -> Sem Value} {g : Int -> Int -> Int}
    (rule : ∀ (i j : Int) (t u : Tok) (s : Shared) (Q : Value -> Shared -> Prop) (E : Value -> Shared -> Prop), Q (.int (g i j) s.toks) { s with toks := s.toks + 1 } -> wpAny (model X.prog X.w) X.A (f (.int i t) (.int j u)) Q E s) :
    OpR X f (rI0 fun i j => .int (g i j)) := by
  intro pins s σ H x y v u Q I rx ry h
  obtain ⟨i, j, rfl, rfl, q⟩ := h
  obtain ⟨t, rfl⟩ := rx
  obtain ⟨t', rfl⟩ := ry
  exact rule i j t t' s _ _ ⟨.int (g i j), H, I.tok _, ⟨_, rfl⟩, q⟩
theorem opB0 {f : Value -> Value -> Sem Value} {g : Int -> Int -> Bool}
    (rule : ∀ (i j : Int) (t u : Tok) (s : Shared) (Q : Value -> Shared -> Prop) (E : Value -> Shared -> Prop), Q (.bool (g i j)) s -> wpAny (model X.prog X.w) X.A (f (.int i t) (.int j u)) Q E s) :
    OpR X f (rI0 fun i j => .bl (g i j)) := by
  intro pins s σ H x y v u Q I rx ry h
  obtain ⟨i, j, rfl, rfl, q⟩ := h
  obtain ⟨t, rfl⟩ := rx
  obtain ⟨t', rfl⟩ := ry
  exact rule i j t t' s _ _ ⟨.bl (g i j), H, I, rfl, q⟩

def CDiv (i j : Int) : Prop := 0 < j /\ j < 1073741824
def CDivN (i j : Int) : Prop := j ≠ 0 /\ j.natAbs < 1073741824
def CPow (i j : Int) : Prop := 0 <= j /\ j <= 1000000 /\ i.natAbs < 2 ^ 64
def CMul (i j : Int) : Prop := (-(2 ^ 64) < i /\ i < 2 ^ 64) \/ (-(2 ^ 64) < j /\ j < 2 ^ 64)
theorem CMul.ok {i j : Int} (h : CMul i j) : IntMulOk i j := by
  rcases h with ⟨h1, h2⟩ | ⟨h1, h2⟩
  · exact .of_left (intBits_le_64 h1 h2)
  · exact .of_right (intBits_le_64 h1 h2)
theorem op_add : OpR X (binaryOp .Add) (rI0 fun i j => .int (i + j)) := opI0 fun _ _ _ _ _ _ _ q => add_int q
theorem op_sub : OpR X (binaryOp .Sub) (rI0 fun i j => .int (i - j)) := opI0 fun _ _ _ _ _ _ _ q => sub_int q
theorem op_mul : OpR X (binaryOp .Mult) (rI CMul fun i j => .int (i * j)) := opI fun _ _ _ _ _ _ _ hc q => mul_int q hc.ok
theorem op_mod : OpR X (binaryOp .Mod) (rI (fun _ j => 0 < j) fun i j => .int (i % j)) := opI fun i j _ _ _ _ _ hc q => by
  have h1 : (0 : Int) < j := hc
  exact mod_int' (by omega) (by rw [Int.fmod_eq_emod_of_nonneg i (by omega)]; exact q)
theorem op_pow : OpR X (binaryOp .Pow) (rI CPow fun i j => .int (i ^ j.toNat)) := opI fun _ _ _ _ _ _ _ hc q => pow_int_small hc.1 hc.2.1 hc.2.2 q
theorem unI {f : Value -> Sem Value} {g : Int -> Int}
    (rule : ∀ (i : Int) (t : Tok) (s : Shared) (Q : Value -> Shared -> Prop) (E : Value -> Shared -> Prop), Q (.int (g i) s.toks) { s with toks := s.toks + 1 } -> wpAny (model X.prog X.w) X.A (f (.int i t)) Q E s) :
    UnR X f (rU fun i => .int (g i)) := by
  intro pins s σ H x v Q I rx h
  obtain ⟨i, rfl, q⟩ := h
  obtain ⟨t, rfl⟩ := rx
  exact rule i t s _ _ ⟨.int (g i), H, I.tok _, ⟨_, rfl⟩, q⟩
theorem un_neg : UnR X (unaryOp .USub) (rU fun i => .int (-i)) := unI fun _ _ _ _ _ q => neg_int q
/-! ### bools among ints: n += (a < b) -/
end

/-! ### comparisons -/
def scal : V -> V -> Bool
  | .non, .non => true | .non, .int _ => true | .int _, .non => true | .non, .bl _ => true | .bl _, .non => true | .non, .str _ => true | .str _, .non => true
  | .int _, .int _ => true | .bl _, .bl _ => true | .str _, .str _ => true | .byt _, .byt _ => true
  | .int _, .str _ => true | .str _, .int _ => true | .bl _, .str _ => true | .str _, .bl _ => true
  | _, _ => false
def rEq : R2 := fun x y H Q => scal x y = true /\ Q (.bl (decide (x = y))) H
def rNe : R2 := fun x y H Q => scal x y = true /\ Q (.bl (!decide (x = y))) H

theorem dec_int {i j : Int} : decide (V.int i = V.int j) = (i == j) := by
  rw [Bool.eq_iff_iff]
  simp
theorem dec_bl {i j : Bool} : decide (V.bl i = V.bl j) = (i == j) := by
  rw [Bool.eq_iff_iff]
  simp
theorem dec_str {i j : Str} : decide (V.str i = V.str j) = (i == j) := by
  rw [Bool.eq_iff_iff]
  simp
theorem dec_byt {i j : Array UInt8} : decide (V.byt i = V.byt j) = (i.toList == j.toList) := by
  rw [Bool.eq_iff_iff]
  cases i
  cases j
  simp

section
variable {X : Cx} {a b c : Expr} {ta tb tc : TE} {pos : Pos}
theorem fin_bl {pins : List (Addr × Obj)} {σ : St} {H : Hp} {s : Shared} {Q : VK} {k k' : Bool} (I : Inv X pins σ H s) (q : Q (.bl k) H) (e : k = k') : EP X pins σ Q (.bool k') s := by
  subst e
  exact ⟨.bl k, H, I, rfl, q⟩
theorem op_eq : OpR X (compareOp .Eq) rEq := by
  intro pins s σ H x y v u Q I rx ry h
  obtain ⟨hs, q⟩ := h
  cases x with
  | non =>
    cases rx
    cases y with
    | non => cases ry; exact PySem.EqNone.eq_none_none (fin_bl I q (by simp))
    | bl j => cases ry; exact PySem.EqNone.eq_none_bool (fin_bl I q (by simp))
    | int j => obtain ⟨t', rfl⟩ := ry; exact PySem.EqNone.eq_none_int (fin_bl I q (by simp))
    | str j => obtain ⟨t', rfl⟩ := ry; exact PySem.EqNone.eq_none_str (fin_bl I q (by simp))
    | _ => exact absurd (show false = true from hs) Bool.false_ne_true
  | bl i =>
    cases rx
    cases y with
    | non => cases ry; exact PySem.EqNone.eq_bool_none (fin_bl I q (by simp))
    | bl j => cases ry; exact eq_bool (fin_bl I q dec_bl)
    | str j => obtain ⟨t', rfl⟩ := ry; exact PySem.EqMixed.eq_bool_str (fin_bl I q (by simp))
    | _ => exact absurd (show false = true from hs) Bool.false_ne_true
  | int i =>
    obtain ⟨t, rfl⟩ := rx
    cases y with
    | non => cases ry; exact PySem.EqNone.eq_int_none (fin_bl I q (by simp))
    | int j => obtain ⟨t', rfl⟩ := ry; exact eq_int (fin_bl I q dec_int)
    | str j => obtain ⟨t', rfl⟩ := ry; exact PySem.EqMixed.eq_int_str (fin_bl I q (by simp))
    | _ => exact absurd (show false = true from hs) Bool.false_ne_true
  | str i =>
    obtain ⟨t, rfl⟩ := rx
    cases y with
    | non => cases ry; exact PySem.EqNone.eq_str_none (fin_bl I q (by simp))
    | bl j => cases ry; exact PySem.EqMixed.eq_str_bool (fin_bl I q (by simp))
    | int j => obtain ⟨t', rfl⟩ := ry; exact PySem.EqMixed.eq_str_int (fin_bl I q (by simp))
    | str j => obtain ⟨t', rfl⟩ := ry; exact eq_str (fin_bl I q dec_str)
    | _ => exact absurd (show false = true from hs) Bool.false_ne_true
  | byt i =>
    obtain ⟨t, rfl⟩ := rx
    cases y with
    | byt j => obtain ⟨t', rfl⟩ := ry; exact PySem.W.eq_bytes (fin_bl I q dec_byt)
    | _ => exact absurd (show false = true from hs) Bool.false_ne_true
  | _ => cases y <;> exact absurd (show false = true from hs) Bool.false_ne_true
theorem op_lt : OpR X (compareOp .Lt) (rI0 fun i j => .bl (decide (i < j))) := opB0 fun _ _ _ _ _ _ _ q => lt_int q
theorem op_ge : OpR X (compareOp .GtE) (rI0 fun i j => .bl (decide (j <= i))) := opB0 fun _ _ _ _ _ _ _ q => ge_int q
theorem op_isN : OpR X (compareOp .Is) (fun x y H Q => y = .non /\ Q (.bl (decide (x = .non))) H) := by
  intro pins s σ H x y v u Q I rx ry h
  obtain ⟨rfl, q⟩ := h
  cases ry
  refine is_none_gen (fin_bl I q ?_)
  cases x <;> first
    | (cases rx; rfl)
    | (obtain ⟨t, rfl⟩ := rx; rfl)
theorem op_notN : OpR X (compareOp .IsNot) (fun x y H Q => y = .non /\ Q (.bl (!decide (x = .non))) H) := by
  intro pins s σ H x y v u Q I rx ry h
  obtain ⟨rfl, q⟩ := h
  cases ry
  refine isnot_none_gen (fin_bl I q ?_)
  cases x <;> first
    | (cases rx; rfl)
    | (obtain ⟨t, rfl⟩ := rx; rfl)

def isObj : HO -> Bool
  | .lst _ => true
  | .ins _ _ _ => true
  | _ => false
theorem OpR.or {f : Value -> Value -> Sem Value} {r r' : R2} (h : OpR X f r) (h' : OpR X f r') : OpR X f (fun x y H Q => r x y H Q \/ r' x y H Q) := by
  intro pins s σ H x y v u Q I rx ry q
  rcases q with q | q
  · exact h pins s σ H x y v u Q I rx ry q
  · exact h' pins s σ H x y v u Q I rx ry q

theorem nomark (b : Expr) {op : CmpOp} (h : op ≠ .In := by decide) (h2 : op ≠ .NotIn := by decide) : behindInMarks op b = false := by
  have e1 : (op == CmpOp.In) = false := by cases op <;> first | rfl | exact absurd rfl h
  have e2 : (op == CmpOp.NotIn) = false := by cases op <;> first | rfl | exact absurd rfl h2
  cases b <;> simp [behindInMarks, e1, e2]
theorem pe_cmpR {op : CmpOp} {r : R2} (ho : OpR X (compareOp op) r) (ha : PE X a ta) (hb : PE X b tb) (hm : behindInMarks op b = false) : PE X (.Compare a [op] [b] pos) (tOp r ta tb) := by
  intro pins s σ H Q I h
  exact wpAny_Compare1 (binT ha hb I h fun v u s2 x y H2 I2 rx ry q => ho pins s2 σ H2 x y v u Q I2 rx ry q) hm
def tTest (t : TE) : TT := fun σ H Q => t σ H fun x H' => ∃ k, x = .bl k /\ Q k H'
theorem pt_cmpR {op : CmpOp} {r : R2} (ho : OpR X (compareOp op) r) (ha : PE X a ta) (hb : PE X b tb) (hm : behindInMarks op b = false) : PT X (.Compare a [op] [b] pos) (tTest (tOp r ta tb)) := by
  intro pins s σ H Q I h
  refine wpAny_isTrue_Compare1 (thn (ha pins s σ H _ I h) fun v s1 ⟨x, H1, I1, r1, q1⟩ => thn (hb pins s1 σ H1 _ I1 q1) fun u s2 ⟨y, H2, I2, r2, q2⟩ =>
    thn (ho pins s2 σ H2 x y v u _ I2 r1 r2 q2) fun c s3 ⟨z, H3, I3, r3, k, e, q3⟩ => ?_) hm
  subst e
  cases r3
  exact wpAny_truthy_bool ⟨H3, I3, q3⟩
def tChain (r r' : R2) (ta tb tc : TE) : TE := fun σ H Q => ta σ H fun x H1 => tb σ H1 fun y H2 => r x y H2 fun z H3 => ∃ k, z = .bl k /\
  (if k = true then tc σ H3 fun w' H4 => r' y w' H4 Q else Q (.bl false) H3)
/-! ### truth -/
def TruV (K : PySem.W.Frag) (x : V) (H : Hp) (k : Bool) : Prop :=
  match x with
  | .non => k = false
  | .bl b => k = b
  | .int i => k = (i != 0)
  | .str y => y.length <= sizeLine /\ k = ((y.length : Int) != 0)
  | .byt y => y.size <= sizeLine /\ k = ((y.size : Int) != 0)
  | .ref p => (∃ xs, SqL K H p xs /\ k = !xs.isEmpty) \/ (∃ xs, SqT K H p xs /\ k = !xs.isEmpty) \/ ∃ kvs, H p = some (.dK kvs) /\ k = !kvs.isEmpty
  | _ => False
theorem isEmpty_kv {κ : Type} {kvs : List (κ × V)} {vs : List (κ × Value)} (r : KV kvs vs) : (!vs.isEmpty) = !kvs.isEmpty := by
  cases r <;> rfl
theorem isEmpty_of {xs : List V} {its : List Value} (r : Vals xs its) : (!its.toArray.isEmpty) = !xs.isEmpty := by
  cases r <;> simp
theorem line63 : (sizeLine : Nat) < 2 ^ 63 := by rw [sizeLine_eq]; decide
theorem tru_ok : TruR X (fun x H Q => ∃ k, TruV X.K x H k /\ Q k H) := by
  intro pins s σ H x v Q I rx h
  obtain ⟨k, e, q⟩ := h
  have hl := line63
  have hs : sizeLine = 16777216 := sizeLine_eq
  cases x with
  | non =>
    cases rx
    have e' : k = false := e
    subst e'
    exact truthy_none ⟨H, I, q⟩
  | bl b =>
    cases rx
    have e' : k = b := e
    subst e'
    exact wpAny_truthy_bool ⟨H, I, q⟩
  | int i =>
    obtain ⟨t, rfl⟩ := rx
    have e' : k = (i != 0) := e
    subst e'
    exact PySem.P.truthy_int ⟨H, I, q⟩
  | str y =>
    obtain ⟨t, rfl⟩ := rx
    obtain ⟨hy, e'⟩ : y.length <= sizeLine /\ k = ((y.length : Int) != 0) := e
    subst e'
    exact PySem.P.truthy_str (by omega) ⟨H, I.tok _, q⟩
  | byt y =>
    obtain ⟨t, rfl⟩ := rx
    obtain ⟨hy, e'⟩ : y.size <= sizeLine /\ k = ((y.size : Int) != 0) := e
    subst e'
    exact PySem.W.truthy_bytes (by omega) ⟨H, I.tok _, q⟩
  | ref p =>
    cases rx
    have e' : (∃ xs, SqL X.K H p xs /\ k = !xs.isEmpty) \/ (∃ xs, SqT X.K H p xs /\ k = !xs.isEmpty) \/ ∃ kvs, H p = some (.dK kvs) /\ k = !kvs.isEmpty := e
    rcases e' with ⟨xs, hx, e'⟩ | ⟨xs, hx, e'⟩ | ⟨kvs, hx, e'⟩
    · subst e'
      obtain ⟨its, r, pl, hz⟩ := I.list hx
      have hlen := r.length
      exact wpAny_truthy_list pl.isList (by simp only [List.size_toArray]; omega) ⟨H, I.tok _, by rw [isEmpty_of r]; exact q⟩
    · subst e'
      obtain ⟨its, r, pl, hz⟩ := I.tuple hx
      have hlen := r.length
      exact truthy_tuple pl (by simp only [List.size_toArray]; omega) ⟨H, I.tok _, by rw [isEmpty_of r]; exact q⟩
    · subst e'
      obtain ⟨hz, hS, vs, r, m⟩ : kvs.length <= sizeLine /\ (p == sysModules) = false /\ ∃ vs, KV kvs vs /\ s.heap.DictOf (mixKind X.prog X.w) p vs := I.hok p _ hx
      have hlen : kvs.length = vs.length := Paired.length r
      exact wpAny_truthy_dict hS m (by omega) ⟨H, I.tok _, by rw [isEmpty_kv r]; exact q⟩
  | _ => exact (show False from e).elim
theorem pt_truth (ha : PE X a ta) (he : ∀ whole, isTrue a X.env whole = (do let v ← whole; standAt a.pos; holding [v] (truthy v))) :
    PT X a (fun σ H Q => ta σ H fun x H' => ∃ k, TruV X.K x H' k /\ Q k H') := by
  intro pins s σ H Q I h
  exact isTrue_plain (thn (ha pins s σ H _ I h) fun v s1 ⟨x, H1, I1, r1, q1⟩ => tru_ok pins s1 σ H1 x v Q I1 r1 q1) (he _)

/-! ### strs and bytes -/
def PlainIxT (b : Expr) : Prop := ∀ o i, subscripted b false o i = operate [o, i] (getItem o i)
/-! ### scalar builtins, by CallR -/
theorem vals1 {x : V} {us : List Value} (r : Vals [x] us) : ∃ u, us = [u] /\ RelV x u := by
  cases r with
  | cons r1 r2 => cases r2; exact ⟨_, rfl, r1⟩
theorem call_int1 : CallR X (.type "int") (fun xs H Q => (∃ i, xs = [.int i] /\ Q (.int i) H) \/ ∃ k, xs = [.bl k] /\ Q (.int (if k then 1 else 0)) H) := by
  intro pins s σ H xs us Q I r h
  rcases h with ⟨i, rfl, q⟩ | ⟨k, rfl, q⟩
  · obtain ⟨u, rfl, t, rfl⟩ := vals1 r
    exact call_int_int ⟨.int i, H, I, ⟨_, rfl⟩, q⟩
  · obtain ⟨u, rfl, r1⟩ := vals1 r
    cases r1
    exact call_int_bool ⟨.int (if k then 1 else 0), H, I.tok _, ⟨_, rfl⟩, q⟩
def LenV (K : PySem.W.Frag) (x : V) (H : Hp) (n : Nat) : Prop :=
  match x with
  | .str y => y.length <= sizeLine /\ n = y.length
  | .byt y => y.size <= sizeLine /\ n = y.size
  | .ref p => (∃ xs, SqL K H p xs /\ n = xs.length) \/ ∃ xs, SqT K H p xs /\ n = xs.length
  | _ => False
end
end L2

namespace L2
open PySem PySem.Spec PyProof.Rows

/-! ### an instance, its attributes a map -/
structure ObjM (h : Heap) (x dx C : Addr) (mA : Str -> Option Value) : Prop where
  obj : h.get? x = some (PySem.W.instObj C dx)
  ns : h.Ns1 dx mA
  ne : dx ≠ x

theorem lookIn_ns {h : Heap} {dx : Addr} {mA : Str -> Option Value} (n : h.Ns1 dx mA) : ∃ od, h.get? dx = some od /\ ∀ name, PySem.W.lookIn name od = some (mA name) := by
  obtain ⟨o, es, ep, ho, hd, hk, _, hm⟩ := n
  refine ⟨o, ho, fun name => ?_⟩
  have e := hm name
  unfold nsFind findBy at e
  rw [← Array.find?_toList] at e
  unfold PySem.W.lookIn
  rw [hd]
  dsimp only
  split
  · rename_i y q
    rw [q] at e
    exact congrArg some e
  · rename_i q
    rw [q] at e
    have a : es.toList.any (·.refKey) = false := by
      rw [List.any_eq_false]
      intro y hy
      obtain ⟨z, t, hkey⟩ := hk y (Array.mem_toList_iff.mp hy)
      simp [DictEntry.refKey, hkey]
    have a' : ¬ es.toList.any (·.refKey) = true := by rw [a]; exact Bool.false_ne_true
    rw [if_neg a']
    exact congrArg some e

theorem ObjM.look {h : Heap} {x dx C : Addr} {mA : Str -> Option Value} (I : ObjM h x dx C mA) : ∃ od, PySem.W.InstAt h x (PySem.W.instObj C dx) C (some od) /\ ∀ name, PySem.W.lookIn name od = some (mA name) :=
  let ⟨od, ho, hl⟩ := lookIn_ns I.ns
  ⟨od, ⟨I.obj, rfl, rfl, ho⟩, hl⟩

section
variable {prog : Program} {w : World} {A : Around} {E : Value -> Shared -> Prop} {s : Shared} {K : PySem.W.Frag} {x dx C f : Addr} {mA : Str -> Option Value} {name : Str} {v : Value}

theorem get_map {expr : Bool} {Q : Value -> Shared -> Prop} (X : K.In s.heap) (I : ObjM s.heap x dx C mA) (hg : PySem.W.plainGet K C name = true) (hh : PySem.W.hasDictIn K C = true)
    (ha : PySem.W.findIn K (.ref C) name = some none) (hv : mA name = some v) (hv' : PySem.W.handedIn v = true) (h : Q v { s with toks := s.toks + 1 }) :
    wpAny (model prog w) A (getAttr (.ref x) name expr) Q E s := by
  obtain ⟨od, J, hl⟩ := I.look
  exact PySem.W.get_value X J (PySem.W.plainGet_of hg).1 (PySem.W.findObj_own hh ha rfl (by rw [hl, hv])) hv' h

theorem get_meth {pl : Sem Bool} {Q : Value × List Value -> Shared -> Prop} (X : K.In s.heap) (I : ObjM s.heap x dx C mA) (hg : PySem.W.plainGet K C name = true)
    (hf : PySem.W.findIn K (.ref C) name = some (some (.ref f))) (ht : PySem.W.isFn K (.ref f) = true) (hv : mA name = none) (h : Q (.ref f, [.ref x]) s) :
    wpAny (model prog w) A (getMethod (.ref x) name pl) Q E s := by
  obtain ⟨od, J, hl⟩ := I.look
  exact PySem.W.method_fn X J (PySem.W.plainGet_of hg).1 (PySem.W.plainGet_of hg).2 hf (beq_iff_eq.mp ht) (by show (PySem.W.lookIn name od).map (·.isSome) = some false; rw [hl, hv]; rfl) h

theorem set_map {ns : List Str} {Q : Unit -> Shared -> Prop} (X : K.In s.heap) (I : ObjM s.heap x dx C mA)
    (hs : PySem.W.findIn K (.ref C) "__setattr__" = some (some (.builtin "object.__setattr__"))) (hp : PySem.W.plainOver K C = true) (ht : PySem.W.takerIn K C name = some none) (hh : PySem.W.hasDictIn K C = true)
    (hw : PySem.Within mA ns) (hsz : ns.length <= sizeLine)
    (h : ∀ h', ObjM h' x dx C (fun y => if y = name then some v else mA y) -> Heap.SameBut dx s.heap h' -> Q () { s with heap := h', toks := s.toks + 2 }) :
    wpAny (model prog w) A (setAttr (.ref x) name v) Q E s := by
  obtain ⟨od, J, hl⟩ := I.look
  refine PySem.W.set_plain X J hs (PySem.W.osa_open (s := { s with toks := s.toks + 1 }) (r := none) X J hp ht fun b => ?_)
  obtain ⟨cd, hc, hd'⟩ := PySem.W.any_some hh
  have hx : s.heap.get? x = some ⟨.ref C, some dx, .plain, #[]⟩ := I.obj
  refine wpAny_bind (wpAny_pure (wpAny_bind (wpAny_bind (wpAny_loadPart hx (wpAny_bind (PySem.W.Looks.here (s := { s with toks := s.toks + 1 }) (PySem.W.looks_clsIn X hc) ?_))))))
  rw [hd']
  refine wpAny_pure (a := some dx) (wpAny_bind (wpAny_pure (wpAny_bind ?_)))
  refine wpAny_nsSet1 (s := { s with toks := s.toks + 1 }) I.ns fun h' hn2 hs2 => ?_
  obtain ⟨oD, esD, epD, hoD, hdD, hcD⟩ := hn2.count (PySem.Within.cons name v hw)
  refine wpAny_bind (wpAny_lookBehind hoD (by rw [hdD]; exact pastItsLine_dict (Nat.le_trans hcD (by rw [List.length_cons]; omega))) ?_)
  exact wpAny_pure (h _ ⟨(hs2.2 _ (Ne.symm I.ne)).trans I.obj, hn2, I.ne⟩ hs2)

theorem make_map {R : Result -> Shared -> Prop} {vs : List Value} {kw : List (Str × Value)} (X : K.In s.heap) (hm : PySem.W.makesIn K C = true)
    (hi : PySem.W.findIn K (.ref C) "__init__" = some (some (.ref f))) (hf : PySem.W.typeIn K (.ref f) = some (.type "function"))
    (h : codeAny (model prog w) (A.under (.builtin "type.__call__" ⟨.ref C :: vs, kw⟩)) (.call (.ref f) ⟨.ref (s.heap.objs.size + 1) :: vs, kw⟩) (PySem.W.InitBack (s.heap.objs.size + 1) R)
      { s with heap := (s.heap.push PySem.W.emptyDict).push (PySem.W.instObj C s.heap.objs.size) }) :
    codeAny (model prog w) A (.call (.ref C) ⟨vs, kw⟩) R s := by
  obtain ⟨hh, g, d, t, os⟩ := s
  exact PySem.W.make_core (PySem.W.makes_of X hm) (PySem.W.looks_findIn X hi) (fun self => PySem.W.bind_fn X self hf) (.inl rfl) h
end

/-! ### the attributes as a list of pairs -/
def putF (f : Str) (v : V) : List (Str × V) -> List (Str × V)
  | [] => [(f, v)]
  | (g, x) :: r => if g = f then (g, v) :: r else (g, x) :: putF f v r
theorem lookup_putF (f g : Str) (v : V) : ∀ fs : List (Str × V), (putF f v fs).lookup g = if g = f then some v else fs.lookup g
  | [] => by
    show List.lookup g [(f, v)] = _
    by_cases h : g = f
    · have hb : (g == f) = true := beq_iff_eq.mpr h
      simp only [List.lookup, hb, if_pos h]
    · have hb : (g == f) = false := beq_eq_false_iff_ne.mpr h
      simp only [List.lookup, hb, if_neg h]
  | (k, x) :: r => by
    have ih := lookup_putF f g v r
    rw [show putF f v ((k, x) :: r) = (if k = f then (k, v) :: r else (k, x) :: putF f v r) from rfl]
    by_cases hk : k = f
    · rw [if_pos hk]
      by_cases h : g = k
      · have hb : (g == k) = true := beq_iff_eq.mpr h
        simp only [List.lookup, hb, if_pos (h.trans hk)]
      · have hb : (g == k) = false := beq_eq_false_iff_ne.mpr h
        simp only [List.lookup, hb, if_neg (fun e : g = f => h (e.trans hk.symm))]
    · rw [if_neg hk]
      by_cases h : g = k
      · have hb : (g == k) = true := beq_iff_eq.mpr h
        simp only [List.lookup, hb, if_neg (fun e : g = f => hk (h.symm.trans e))]
      · have hb : (g == k) = false := beq_eq_false_iff_ne.mpr h
        simp only [List.lookup, hb]
        exact ih
theorem keys_putF (f : Str) (v : V) : ∀ fs : List (Str × V), f ∈ (putF f v fs).map (·.1) /\ ∀ g, g ∈ fs.map (·.1) -> g ∈ (putF f v fs).map (·.1)
  | [] => ⟨by simp [putF], fun g h => by simp at h⟩
  | (k, x) :: r => by
    obtain ⟨i1, i2⟩ := keys_putF f v r
    rw [show putF f v ((k, x) :: r) = (if k = f then (k, v) :: r else (k, x) :: putF f v r) from rfl]
    by_cases hk : k = f
    · rw [if_pos hk]
      subst hk
      exact ⟨by simp, fun g h => by simpa using h⟩
    · rw [if_neg hk]
      refine ⟨?_, fun g h => ?_⟩
      · rw [List.map_cons]
        exact List.mem_cons_of_mem _ i1
      · rw [List.map_cons] at h ⊢
        rcases List.mem_cons.mp h with e | e
        · exact List.mem_cons.mpr (.inl e)
        · exact List.mem_cons_of_mem _ (i2 g e)
theorem length_putF (f : Str) (v : V) : ∀ fs : List (Str × V), (putF f v fs).length <= fs.length + 1
  | [] => by simp [putF]
  | (k, x) :: r => by
    have ih := length_putF f v r
    rw [show putF f v ((k, x) :: r) = (if k = f then (k, v) :: r else (k, x) :: putF f v r) from rfl]
    by_cases hk : k = f
    · rw [if_pos hk, List.length_cons, List.length_cons]; omega
    · rw [if_neg hk, List.length_cons, List.length_cons]; omega

theorem RelO.some_of {v : V} {o : Option Value} (r : RelO (some v) o) : ∃ u, o = some u /\ RelV v u := by
  cases o with
  | none => exact (show False from r).elim
  | some u => exact ⟨u, rfl, r⟩
theorem RelO.none_of {o : Option Value} (r : RelO none o) : o = none := by
  cases o with
  | none => rfl
  | some u => exact (show False from r).elim
theorem handed_of {v : V} {u : Value} (r : RelV v u) : PySem.W.handedIn u = true := by
  cases v with
  | non => cases (show u = Value.none from r); rfl
  | bl b => cases (show u = Value.bool b from r); rfl
  | int i => obtain ⟨t, e⟩ := (show ∃ t, u = Value.int i t from r); cases e; rfl
  | str x => obtain ⟨t, e⟩ := (show ∃ t, u = Value.str x t from r); cases e; rfl
  | byt b => obtain ⟨t, e⟩ := (show ∃ t, u = Value.bytes b t from r); cases e; rfl
  | flt b => obtain ⟨t, e⟩ := (show ∃ t, u = Value.float b t from r); cases e; rfl
  | ref a => cases (show u = Value.ref a from r); rfl
  | ty n => cases (show u = Value.type n from r); rfl

section
variable {P : Program} {w : World} {H H' : Hp} {h h' : Heap} {a C dx : Addr} {fs fs' : List (Str × V)}
theorem ins_get (hok : HOk P w H h) (e : H a = some (.ins C dx fs)) : ∃ mA, ObjM h a dx C mA /\ (∀ f, RelO (fs.lookup f) (mA f)) /\ PySem.Within mA (fs.map (·.1)) /\ fs.length <= 1000 /\ H dx = some (.own a) := by
  obtain ⟨d, z, ne, ob, mA, n, r, q⟩ := (show ObjOk P w H h a (.ins C dx fs) from hok a _ e)
  exact ⟨mA, ⟨ob, n, ne⟩, r, q, z, d⟩
end

/-! ### what of the text a class must have -/
structure Cls (K : PySem.W.Frag) (C : Addr) : Prop where
  pg : PySem.W.plainGet K C Str.empty = true
  hd : PySem.W.hasDictIn K C = true
  po : PySem.W.plainOver K C = true
  sa : PySem.W.findIn K (.ref C) "__setattr__" = some (some (.builtin "object.__setattr__"))
theorem Cls.get {K : PySem.W.Frag} {C : Addr} (c : Cls K C) (f : Str) : PySem.W.plainGet K C f = true := c.pg
def NoAttr (K : PySem.W.Frag) (C : Addr) (f : Str) : Prop := PySem.W.findIn K (.ref C) f = some none
theorem NoAttr.taker {K : PySem.W.Frag} {C : Addr} {f : Str} (n : NoAttr K C f) : PySem.W.takerIn K C f = some none := by
  unfold PySem.W.takerIn
  rw [show PySem.W.findIn K (.ref C) f = some none from n]
  rfl
structure Con (K : PySem.W.Frag) (C : Addr) (f : Str) (v : V) (u : Value) : Prop where
  at_ : PySem.W.findIn K (.ref C) f = some (some u)
  rel : RelV v u
  get : PySem.W.specialIn K u "__get__" = some none
  cp : PySem.W.copiedNames.contains f = false
structure Meth (K : PySem.W.Frag) (C : Addr) (m : Str) (f : Addr) : Prop where
  at_ : PySem.W.findIn K (.ref C) m = some (some (.ref f))
  fn : PySem.W.isFn K (.ref f) = true
  kp : PySem.W.keepIn K (.ref f) = true

section
variable {X : Cx} {pins : List (Addr × Obj)} {σ : St} {H : Hp} {s : Shared} {a C dx : Addr} {fs : List (Str × V)} {f : Str} {v : V} {A : Around} {E : Value -> Shared -> Prop}

theorem getattr_ok {b : Bool} {Q : Value -> Shared -> Prop} (I : Inv X pins σ H s) (e : H a = some (.ins C dx fs)) (c : Cls X.K C) (n : NoAttr X.K C f) (l : fs.lookup f = some v)
    (h : ∀ u s', Inv X pins σ H s' -> RelV v u -> Q u s') : wpAny (model X.prog X.w) A (getAttr (.ref a) f b) Q E s := by
  obtain ⟨mA, O, r, _, _, _⟩ := ins_get I.hok e
  obtain ⟨u, hu, ru⟩ := RelO.some_of (v := v) (o := mA f) (by rw [← l]; exact r f)
  exact get_map I.kIn O (c.get f) c.hd n hu (handed_of ru) (h u _ (I.tok _) ru)

theorem getmeth_ok {m : Str} {g : Addr} {pl : Sem Bool} {Q : Value × List Value -> Shared -> Prop} (I : Inv X pins σ H s) (e : H a = some (.ins C dx fs)) (c : Cls X.K C) (k : Meth X.K C m g) (l : fs.lookup m = none)
    (h : Q (.ref g, [.ref a]) s) : wpAny (model X.prog X.w) A (getMethod (.ref a) m pl) Q E s := by
  obtain ⟨mA, O, r, _, _, _⟩ := ins_get I.hok e
  have hn : mA m = none := RelO.none_of (by rw [← l]; exact r m)
  exact get_meth I.kIn O (c.get m) k.at_ k.fn hn h

theorem setattr_ok {y : V} {u : Value} {Q : Unit -> Shared -> Prop} (I : Inv X pins σ H s) (e : H a = some (.ins C dx fs)) (c : Cls X.K C) (n : NoAttr X.K C f) (hl : fs.length < 1000) (ry : RelV y u)
    (h : ∀ s', Inv X pins σ (upd H a (.ins C dx (putF f y fs))) s' -> Q () s') : wpAny (model X.prog X.w) A (setAttr (.ref a) f u) Q E s := by
  obtain ⟨mA, O, r, wi, _, ho⟩ := ins_get I.hok e
  have hz : (fs.map (·.1)).length <= sizeLine := by rw [List.length_map, sizeLine_eq]; omega
  refine set_map I.kIn O c.sa c.po n.taker c.hd wi hz fun h' O' sb => h _ ?_
  have hd : ∃ o, h'.get? dx = some o := let ⟨o, _, _, e', _⟩ := O'.ns; ⟨o, e'⟩
  refine I.write (x := a) (e := dx) (by rw [e]; exact True.intro) (.inr ho) (fun b q hb z => (sb.2 b hb).trans z) hd ?_
  refine ⟨by rw [upd_ne O.ne]; exact ho, ?_, O.ne, O'.obj, _, O'.ns, fun g => ?_, fun g hg => ?_⟩
  · have := length_putF f y fs; omega
  · show RelO ((putF f y fs).lookup g) (if g = f then some u else mA g)
    rw [lookup_putF]
    by_cases q : g = f
    · rw [if_pos q, if_pos q]; exact ry
    · rw [if_neg q, if_neg q]; exact r g
  · by_cases q : g = f
    · rw [q]; exact (keys_putF f y fs).1
    · refine (keys_putF f y fs).2 g (wi g fun z => hg ?_)
      show (if g = f then some u else mA g) = none
      rw [if_neg q]; exact z

theorem Inv.made (I : Inv X pins σ H s) : Inv X pins σ (upd (upd H s.heap.objs.size (.own (s.heap.objs.size + 1))) (s.heap.objs.size + 1) (.ins C s.heap.objs.size []))
    { s with heap := (s.heap.push PySem.W.emptyDict).push (PySem.W.instObj C s.heap.objs.size) } := by
  have e1 : (s.heap.push PySem.W.emptyDict).get? s.heap.objs.size = some PySem.W.emptyDict := Heap.get?_push_size s.heap rfl
  have e2 : ((s.heap.push PySem.W.emptyDict).push (PySem.W.instObj C s.heap.objs.size)).get? (s.heap.objs.size + 1) = some (PySem.W.instObj C s.heap.objs.size) := by
    have := Heap.get?_push_size (s.heap.push PySem.W.emptyDict) (o := PySem.W.instObj C s.heap.objs.size) rfl
    rwa [Heap.size_push] at this
  have e3 : (s.heap.push PySem.W.emptyDict).Ns s.heap.objs.size (fun _ => none) := ⟨PySem.W.emptyDict, #[], _, e1, rfl, (fun e he => absurd he (by simp)), fun _ => rfl⟩
  have I1 := I.laid (a := s.heap.objs.size) (o := .own (s.heap.objs.size + 1)) (h' := s.heap.push PySem.W.emptyDict) (t' := s.toks) (fun b u q => Heap.get?_push_of_some _ q) (Nat.le_refl _) ⟨_, e1⟩
  refine I1.laid (a := s.heap.objs.size + 1) (o := .ins C s.heap.objs.size []) (t' := s.toks) (fun b u q => Heap.get?_push_of_some _ q) (Nat.le_of_eq (Heap.size_push _ _)) ?_
  have ne : s.heap.objs.size ≠ s.heap.objs.size + 1 := Nat.ne_of_lt (Nat.lt_succ_self _)
  refine ⟨by rw [upd_ne ne, upd_same], Nat.zero_le _, ne, e2, fun _ => none, (Heap.Ns1.of_empty e3).at fun o q => Heap.get?_push_of_some _ q, fun _ => True.intro, fun y hy => absurd rfl hy⟩

theorem attr_of {prog : Program} {w : World} {env : Env} {e : Expr} {f : Str} {pos : Pos} {s : Shared} {Q : Value -> Shared -> Prop} (hb : attributeBase e f env (eval e env) = eval e env)
    (h : wpAny (model prog w) A (eval e env) (fun o s₁ => wpAny (model prog w) A (getAttr o f true) Q E s₁) E s) : wpAny (model prog w) A (eval (.Attribute e f pos) env) Q E s :=
  Attribute_any_ h (by rw [arm_eval_Attribute, hb])
end

/-! ### readings and rules -/
def tFld (K : PySem.W.Frag) (ta : TE) (f : Str) : TE := fun σ H Q => ta σ H fun x H1 => ∃ a C dx fs v, x = .ref a /\ H1 a = some (.ins C dx fs) /\ Cls K C /\ NoAttr K C f /\ fs.lookup f = some v /\ Q v H1
def tCon (K : PySem.W.Frag) (ta : TE) (f : Str) : TE := fun σ H Q => ta σ H fun x H1 => ∃ a C dx fs v u, x = .ref a /\ H1 a = some (.ins C dx fs) /\ Cls K C /\ Con K C f v u /\ fs.lookup f = none /\ Q v H1
def sFld (K : PySem.W.Frag) (ta tv : TE) (f : Str) : TS := fun D σ H => tv σ H fun y H1 => ta σ H1 fun x H2 => ∃ a C dx fs, x = .ref a /\ H2 a = some (.ins C dx fs) /\ Cls K C /\ NoAttr K C f /\ fs.length < 1000 /\
  D.nx σ (upd H2 a (.ins C dx (putF f y fs)))
def InOp (X : Cx) (op : Operator) (rd : V -> V -> Hp -> VK -> Prop) : Prop :=
  ∀ (pins : List (Addr × Obj)) (s : Shared) (σ : St) (H : Hp) (x y : V) (u v : Value) (Q : VK), Inv X pins σ H s -> RelV x u -> RelV y v -> rd x y H Q -> wpAny (model X.prog X.w) X.A (inplaceOp op u v) (EP X pins σ Q) X.xe s
def sFldAug (K : PySem.W.Frag) (ta tv : TE) (rd : V -> V -> Hp -> VK -> Prop) (f : Str) : TS := fun D σ H => ta σ H fun x H1 => ∃ a C dx fs v, x = .ref a /\ H1 a = some (.ins C dx fs) /\ Cls K C /\ NoAttr K C f /\ fs.lookup f = some v /\
  tv σ H1 fun y H2 => rd v y H2 fun z H3 => ∃ dx' fs', H3 a = some (.ins C dx' fs') /\ fs'.length < 1000 /\ D.nx σ (upd H3 a (.ins C dx' (putF f z fs')))

section
variable {X : Cx} {o e value : Expr} {f : Str} {pos pos' tpos : Pos} {ta tv : TE}
theorem pe_fld (he : PE X e ta) (hb : attributeBase e f X.env (eval e X.env) = eval e X.env) : PE X (.Attribute e f pos) (tFld X.K ta f) := by
  intro pins s σ H Q I h
  refine attr_of hb (thn (he pins s σ H _ I h) fun u s1 ⟨x, H1, I1, rx, a, C, dx, fs, v, ex, ea, c, n, l, q⟩ => ?_)
  subst ex
  obtain rfl : u = Value.ref a := rx
  exact getattr_ok I1 ea c n l fun u' s2 I2 ru => ⟨v, H1, I2, ru, q⟩
theorem ps_fld (ha : PE X o ta) (hv : PE X value tv) (hs : swapsWith value (some (.Attribute o f pos')) pos.line X.env = pure false) : PS X (.Assign [.Attribute o f pos'] value pos) (sFld X.K ta tv f) := by
  intro pins s σ H D I h
  refine plainObj_wpAny_Assign_Attribute (thn (hv pins s σ H _ I h) fun u s1 ⟨y, H1, I1, ry, q⟩ => thn (ha pins s1 σ H1 _ I1 q) fun ov s2 ⟨x, H2, I2, rx, a, C, dx, fs, ex, ea, c, n, l, q2⟩ => ?_) hs
  subst ex
  obtain rfl : ov = Value.ref a := rx
  exact setattr_ok I2 ea c n l ry fun s3 I3 => ⟨σ, _, I3, q2⟩
def rAdd : V -> V -> Hp -> VK -> Prop := fun x y H Q => ∃ i j, x = .int i /\ y = .int j /\ Q (.int (i + j)) H
def rSub : V -> V -> Hp -> VK -> Prop := fun x y H Q => ∃ i j, x = .int i /\ y = .int j /\ Q (.int (i - j)) H
end

/-! ### isinstance -/
section
variable {X : Cx} {pins : List (Addr × Obj)} {σ : St} {H : Hp} {s : Shared} {A : Around} {E : Value -> Shared -> Prop} {Q : Value -> Shared -> Prop} {c : Value} {b : Bool}
inductive TyOf (K : PySem.W.Frag) (H : Hp) : V -> Value -> Prop where
  | non : TyOf K H .non (.type "NoneType")
  | bl (x : Bool) : TyOf K H (.bl x) (.type "bool")
  | int (i : Int) : TyOf K H (.int i) (.type "int")
  | str (x : Str) : TyOf K H (.str x) (.type "str")
  | flt (x : UInt64) : TyOf K H (.flt x) (.type "float")
  | lst {a : Addr} {xs : List V} (e : H a = some (.lst xs)) : TyOf K H (.ref a) (.type "list")
  | frz {a : Addr} {o : Obj} {xs : List V} (e : H a = some (.frz o (.lst xs))) : TyOf K H (.ref a) (.type "list")
  | tup {a : Addr} {xs : List V} (e : H a = some (.tup xs)) : TyOf K H (.ref a) (.type "tuple")
  | dK {a : Addr} {kvs : List (Key × V)} (e : H a = some (.dK kvs)) : TyOf K H (.ref a) (.type "dict")
  | dT {a : Addr} {kvs : List (List Key × V)} (e : H a = some (.dT kvs)) : TyOf K H (.ref a) (.type "dict")
  | ins {a C dx : Addr} {fs : List (Str × V)} (e : H a = some (.ins C dx fs)) (cl : Cls K C) (ha : PySem.W.findIn K (.ref C) "__class__" = some (some (.builtin "object.__class__")))
      (hn : PySem.W.specialIn K (.builtin "object.__class__") "__get__" = some (some (.builtin "getset_descriptor.__get__"))) (htk : PySem.W.takesIn K (.builtin "object.__class__") = some true)
      (hm : PySem.W.mroIn K C (.type "object") = some true) : TyOf K H (.ref a) (.ref C)
end
end L2

namespace L2
open PySem PySem.Spec PyProof.Rows

/-! ### room -/
structure Room (k : Nat) (A : Around) : Prop where
  hd : A.handled = none
  dp : A.depth + 3 * k + 5 < recursionLimit
  un : A.units + 16 * k + 200 < cLine
theorem Room.mono {j k : Nat} {A : Around} (r : Room k A) (h : j <= k) : Room j A := ⟨r.hd, by have := r.dp; omega, by have := r.un; omega⟩
theorem Room.deeper {k : Nat} {A : Around} (r : Room (k + 1) A) (env : Env) : Room k (A.deeper env) :=
  ⟨r.hd, by have := r.dp; show A.depth + 1 + 3 * k + 5 < _; omega, by have := r.un; show A.units + 3 + 16 * k + 200 < _; omega⟩
theorem Room.in1 {k : Nat} {A : Around} (r : Room (k + 1) A) : Room k A.in1 :=
  ⟨r.hd, by have := r.dp; show A.depth + 3 * k + 5 < _; omega, by have := r.un; show A.units + 1 + 16 * k + 200 < _; omega⟩
theorem make_depth {A : Around} {C : Addr} {us : List Value} {kw : List (Str × Value)} : (A.under (.builtin "type.__call__" ⟨.ref C :: us, kw⟩)).depth = A.depth + 1 := by
  first | rfl | simp [Around.under, Code.weight, Code.isCreation, Code.isGuard, Code.isCaller, Code.frames, Code.isFrame, guardIds]
theorem make_units {A : Around} {C : Addr} {us : List Value} {kw : List (Str × Value)} : (A.under (.builtin "type.__call__" ⟨.ref C :: us, kw⟩)).units = A.units + 1 := by
  first | rfl | simp [Around.under, Code.cUnits, Code.frames, Code.isFrame]
theorem Room.make {k : Nat} {A : Around} (r : Room (k + 1) A) (C : Addr) (us : List Value) (kw : List (Str × Value)) : Room k (A.under (.builtin "type.__call__" ⟨.ref C :: us, kw⟩)) :=
  ⟨r.hd, by have := r.dp; rw [make_depth]; omega, by have := r.un; rw [make_units]; omega⟩
theorem Room.depth {k : Nat} {A : Around} (r : Room k A) : A.depth < recursionLimit := by have := r.dp; omega
theorem Room.units {k : Nat} {A : Around} (r : Room k A) : A.units + 64 < cLine := by have := r.un; omega
/-! ### argument lists and displays -/
def tNil : TA := fun _ H Q => Q [] H
def tCons (ta : TE) (tr : TA) : TA := fun σ H Q => ta σ H fun x H1 => tr σ H1 fun xs H2 => Q (x :: xs) H2
section
variable {X : Cx} {e : Expr} {es : List Expr} {te : TE} {t : TA} {pos : Pos}
theorem pa_nil : PA X [] tNil := fun _ _ _ _ H Q I h => Calls.spliced_nil ⟨[], H, I, .nil, h⟩
theorem pa_cons (ha : PE X e te) (hr : PA X es t) (hs : starEach (e :: es) X.env = (false, eval e X.env) :: starEach es X.env := by rfl) : PA X (e :: es) (tCons te t) := by
  intro pos pins s σ H Q I h
  rw [hs]
  show wpAny _ _ (spliced ((false, eval e X.env) :: backTo pos (starEach es X.env))) _ _ s
  refine Calls.spliced_cons (thn (ha pins s σ H _ I h) fun u s1 ⟨x, H1, I1, r1, q1⟩ => ?_)
  exact thn (hr pos pins s1 σ H1 _ I1 q1) fun us s2 ⟨xs, H2, I2, r2, q2⟩ => ⟨x :: xs, H2, I2, .cons r1 r2, q2⟩

def tTup (t : TA) : TE := fun σ H Q => t σ H fun xs H1 => xs.length <= sizeLine /\ ∀ p, H1 p = none -> Q (.ref p) (upd H1 p (.tup xs))
def tLst (t : TA) : TE := fun σ H Q => t σ H fun xs H1 => xs.length <= sizeLine /\ ∀ p, H1 p = none -> Q (.ref p) (upd H1 p (.lst xs))
theorem pe_tup {x1} (h : PA X es t) : PE X (.Tuple es x1 pos) (tTup t) := by
  intro pins s σ H Q I hq
  refine wpAny_Tuple_spliced (thn (h pos pins s σ H _ I hq) fun us s1 ⟨xs, H1, I1, r, z, q⟩ => ⟨by rw [← r.length]; exact z, ?_⟩)
  have hf : H1 s1.heap.objs.size = none := I1.hok.fresh (Nat.le_refl _)
  refine ⟨.ref s1.heap.objs.size, upd H1 s1.heap.objs.size (.tup xs), I1.laid (t' := s1.toks) (fun b u e => Heap.get?_push_of_some _ e) (Nat.le_refl _) ?_, rfl, q _ hf⟩
  exact ⟨z, us, r, ⟨_, Heap.get?_push_size _ rfl, rfl, _, rfl⟩⟩
theorem pe_lst (h : PA X es t) : PE X (.List es pos) (tLst t) := by
  intro pins s σ H Q I hq
  refine wpAny_List_spliced (thn (h pos pins s σ H _ I hq) fun us s1 ⟨xs, H1, I1, r, z, q⟩ => ⟨by rw [← r.length]; exact z, ?_⟩)
  have hf : H1 s1.heap.objs.size = none := I1.hok.fresh (Nat.le_refl _)
  refine ⟨.ref s1.heap.objs.size, upd H1 s1.heap.objs.size (.lst xs), I1.laid (t' := s1.toks) (fun b u e => Heap.get?_push_of_some _ e) (Nat.le_refl _) ?_, rfl, q _ hf⟩
  exact ⟨z, us, 0, r, Heap.get?_push_size _ rfl⟩
end

/-! ### what a def promises -/
abbrev Sp := List V -> Hp -> VK -> XK -> Prop
abbrev CXT := List Env -> Hp -> Shared -> XK -> Value -> Shared -> Prop

structure Env0 (P : Program) (w : World) (K : PySem.W.Frag) (mg : Str -> Option Value) (base : Heap) (A : Around) (outer : List Env) (s : Shared) (H : Hp) : Prop where
  frames : A.frames = some outer
  mod : Mod K mg base
  bs : ∀ b o, base.get? b = some o -> s.heap.get? b = some o /\ H b = none
  bsz : base.objs.size <= s.heap.objs.size
  funs : s.heap.FunFrames base outer
  frf : ∀ b ∈ frs outer, H b = none
  hok : HOk P w H s.heap
  bare : AllBare s.gens
def CE (outer : List Env) (P : Program) (w : World) (H : Hp) (s : Shared) (Q : VK) (u : Value) (s' : Shared) : Prop :=
  ∃ v H', s'.os = s.os /\ AllBare s'.gens /\ Un (frs outer) [] H H' s.heap s'.heap /\ HOk P w H' s'.heap /\ RelV v u /\ Q v H'
def CR (CX : CXT) (outer : List Env) (P : Program) (w : World) (H : Hp) (s : Shared) (Q : VK) (E : XK) (r : Result) (s' : Shared) : Prop :=
  match r with
  | .ok (.ret u) => CE outer P w H s Q u s'
  | .ok _ => False
  | .error e => CX outer H s E e s'
structure FnOk (P : Program) (w : World) (K : PySem.W.Frag) (mg : Str -> Option Value) (base : Heap) (CX : CXT) (k : Nat) (f : Addr) (fd : FuncData) (ps : List Str) (sp : Sp) : Prop where
  len : ∀ vs H Q E, sp vs H Q E -> vs.length = ps.length
  run : ∀ (A : Around) (outer : List Env) (s : Shared) (H : Hp) (args : Args) (us : List Value) (vs : List V) (Q : VK) (E : XK), Room k A -> Env0 P w K mg base A outer s H -> BindsTo s fd args (ps.zip us) -> Vals vs us -> sp vs H Q E ->
    codeAny (model P w) A (.call (.ref f) args) (CR CX outer P w H s Q E) s
theorem FnOk.mono {P : Program} {w : World} {K : PySem.W.Frag} {mg : Str -> Option Value} {base : Heap} {CX : CXT} {j k : Nat} {f : Addr} {fd : FuncData} {ps : List Str} {sp : Sp} (F : FnOk P w K mg base CX j f fd ps sp) (h : j <= k) :
    FnOk P w K mg base CX k f fd ps sp := ⟨F.len, fun A outer s H args us vs Q E hr => F.run A outer s H args us vs Q E (hr.mono h)⟩
theorem Env0.make {P : Program} {w : World} {K : PySem.W.Frag} {mg : Str -> Option Value} {base : Heap} {A : Around} {outer : List Env} {s : Shared} {H : Hp} (e : Env0 P w K mg base A outer s H) (C : Addr) (us : List Value) (kw : List (Str × Value)) :
    Env0 P w K mg base (A.under (.builtin "type.__call__" ⟨.ref C :: us, kw⟩)) outer s H := ⟨by first | exact e.frames | (simpa [Around.under, Code.envs, Code.isFrame, pushEnvs] using e.frames), e.mod, e.bs, e.bsz, e.funs, e.frf, e.hok, e.bare⟩
theorem Env0.in1 {P : Program} {w : World} {K : PySem.W.Frag} {mg : Str -> Option Value} {base : Heap} {A : Around} {outer : List Env} {s : Shared} {H : Hp} (e : Env0 P w K mg base A outer s H) :
    Env0 P w K mg base A.in1 outer s H := ⟨e.frames, e.mod, e.bs, e.bsz, e.funs, e.frf, e.hok, e.bare⟩

section
variable {X : Cx} {pins : List (Addr × Obj)} {σ : St} {H : Hp} {s s' : Shared}
theorem Inv.env0 (I : Inv X pins σ H s) : Env0 X.prog X.w X.K X.mg X.base X.A X.stack s H :=
  ⟨I.ok.frames, I.ok.mod, I.bs, Nat.le_trans I.ok.bsz I.sz, I.stack, I.stkFree, I.hok, I.bare⟩
theorem Inv.after {Q : VK} {u : Value} (I : Inv X pins σ H s) (h : CE X.stack X.prog X.w H s Q u s') : EP X pins σ Q u s' := by
  obtain ⟨v, H', os, bare, un, hok, r, q⟩ := h
  obtain ⟨hh, g, d, t, os'⟩ := s'
  obtain rfl : os' = s.os := os
  exact ⟨v, H', I.call (h' := hh) (g' := g) (d' := d) (t' := t) (ch := []) un hok bare (fun b z => absurd z (by simp)), r, q⟩
end

/-! ### calls -/
def tCall (sp : Sp) (dvs : List V) (E : XK) (t : TA) : TE := fun σ H Q => t σ H fun vs H1 => sp (vs ++ dvs) H1 Q E
def tMeth (C : Addr) (m : Str) (sp : Sp) (dvs : List V) (E : XK) (ta : TE) (t : TA) : TE := fun σ H Q => ta σ H fun x H1 => ∃ a dx fs, x = .ref a /\ H1 a = some (.ins C dx fs) /\ fs.lookup m = none /\
  t σ H1 fun vs H2 => sp (x :: (vs ++ dvs)) H2 Q E
def tMake (C : Addr) (sp : Sp) (dvs : List V) (E : XK) (t : TA) : TE := fun σ H Q => t σ H fun vs H1 => ∀ x dx, H1 x = none -> H1 dx = none -> dx ≠ x ->
  sp (.ref x :: (vs ++ dvs)) (upd (upd H1 dx (.own x)) x (.ins C dx [])) (fun v H2 => v = .non /\ Q (.ref x) H2) E

def Binds (K : PySem.W.Frag) (fd : FuncData) (ps : List Str) (ds : List Value) : Prop :=
  ∀ (s : Shared) (us : List Value), K.In s.heap -> (us ++ ds).length = ps.length -> BindsTo s fd ⟨us, []⟩ (ps.zip (us ++ ds))
theorem Binds.all {K : PySem.W.Frag} {fd : FuncData} {ps : List Str} (h : ∀ us : List Value, us.length = ps.length -> bindArgs fd ⟨us, []⟩ = pure (ps.zip us)) : Binds K fd ps [] := fun s us _ hl => by
  rw [List.append_nil] at hl ⊢
  exact .of_eq (h us hl)

def Passes (CX : CXT) (X : Cx) (E : XK) : Prop := ∀ (pins : List (Addr × Obj)) (σ : St) (H : Hp) (s : Shared) (e : Value) (s' : Shared), Inv X pins σ H s -> CX X.stack H s E e s' -> X.xe e s'

section
variable {X : Cx} {CX : CXT} {k : Nat} {f C : Addr} {fd : FuncData} {ps : List Str} {sp : Sp} {dvs : List V} {ds : List Value} {E : XK} {x m : Str} {p pos apos : Pos} {e o : Expr} {es : List Expr} {ta : TE} {t : TA}

theorem run_fn {pins : List (Addr × Obj)} {σ : St} {H : Hp} {s : Shared} {Q : VK} {us : List Value} {vs : List V} (F : FnOk X.prog X.w X.K X.mg X.base CX k f fd ps sp) (hr : Room k X.A) (hb : Binds X.K fd ps ds) (hd : Vals dvs ds) (hx : Passes CX X E)
    (I : Inv X pins σ H s) (r : Vals vs us) (h : sp (vs ++ dvs) H Q E) : wpAny (model X.prog X.w) X.A (call (.ref f) us) (EP X pins σ Q) X.xe s := by
  have r2 : Vals (vs ++ dvs) (us ++ ds) := r.append hd
  have hl : (us ++ ds).length = ps.length := by rw [← r2.length]; exact F.len _ _ _ _ h
  refine wpAny_call (codeAny_mono (F.run X.A X.stack s H ⟨us, []⟩ (us ++ ds) (vs ++ dvs) Q E hr I.env0 (hb s us I.kIn hl) r2 h) fun r s' hq => ?_)
  cases r with
  | error e => exact hx pins σ H s e s' I hq
  | ok fl =>
    cases fl with
    | ret u => exact I.after hq
    | next => exact False.elim hq
    | brk => exact False.elim hq
    | cont => exact False.elim hq

theorem pe_call (F : FnOk X.prog X.w X.K X.mg X.base CX k f fd ps sp) (hr : Room k X.A) (hg : Gl X x) (hm : X.mg x = some (.ref f)) (hk : PySem.W.keepIn X.K (.ref f) = true) (hb : Binds X.K fd ps ds) (hd : Vals dvs ds) (hx : Passes CX X E)
    (ha : PA X (e :: es) t) (hdb : (x == ("__debug__" : Str)) = false := by decide) (he : starEach (e :: es) X.env = (false, eval e X.env) :: starEach es X.env := by rfl) (hpl : (backTo pos (starEach es X.env)).any (·.1) = false := by rfl) :
    PE X (.Call (.Name x p) (e :: es) [] pos) (tCall sp dvs E t) := by
  intro pins s σ H Q I h
  refine wpAny_Call_Name_kw (ld_glob I hg hm ?_ hdb)
  refine PySem.W.callWith_K (h₀ := X.base) I.ok.mod.kin hk (thn (ha pos pins s σ H _ I h) fun us s1 ⟨vs, H1, I1, r, q⟩ => ⟨I1.kIn, ?_⟩) he hpl
  exact run_fn F hr hb hd hx I1 r q
theorem pe_meth {pl : Sem Bool} (he : PE X o ta) (c : Cls X.K C) (hm : Meth X.K C m f) (F : FnOk X.prog X.w X.K X.mg X.base CX k f fd ps sp) (hr : Room k X.A) (hb : Binds X.K fd ps ds) (hd : Vals dvs ds) (hx : Passes CX X E) (ha : PA X (e :: es) t)
    (hst : starEach (e :: es) X.env = (false, eval e X.env) :: starEach es X.env := by rfl) (hpl : (backTo pos (starEach es X.env)).any (·.1) = false := by rfl)
    (ht : eval (.Call (.Attribute o m apos) (e :: es) [] pos) X.env = (do
      let ov ← eval o X.env
      standAt apos.atName
      let (f, first) ← holding [ov] (getMethod ov m pl)
      callWith pos f first (backTo pos (starEach (e :: es) X.env)) (backToKw pos (keywordEach [] X.env))) := by rfl) :
    PE X (.Call (.Attribute o m apos) (e :: es) [] pos) (tMeth C m sp dvs E ta t) := by
  intro pins s σ H Q I h
  refine PySem.W.methodCall_KW (pl := pl) (thn (he pins s σ H _ I h) fun u s1 ⟨x, H1, I1, rx, a, dx, fs, ex, ea, l, q⟩ => ?_) ht
  subst ex
  obtain rfl : u = Value.ref a := rx
  refine getmeth_ok I1 ea c hm l ?_
  refine PySem.W.callWith_K (first := [.ref a]) (h₀ := X.base) I.ok.mod.kin hm.kp (thn (ha pos pins s1 σ H1 _ I1 q) fun us s2 ⟨vs, H2, I2, r, q2⟩ => ⟨I2.kIn, ?_⟩) hst hpl
  exact run_fn (us := .ref a :: us) (vs := .ref a :: vs) F hr hb hd hx I2 (.cons rfl r) q2
structure Mk (K : PySem.W.Frag) (C f : Addr) : Prop where
  makes : PySem.W.makesIn K C = true
  init : PySem.W.findIn K (.ref C) "__init__" = some (some (.ref f))
  fn : PySem.W.isFn K (.ref f) = true
  kp : PySem.W.keepIn K (.ref C) = true

theorem run_make {pins : List (Addr × Obj)} {σ : St} {H : Hp} {s : Shared} {Q : VK} {us : List Value} {vs : List V} (M : Mk X.K C f) (F : FnOk X.prog X.w X.K X.mg X.base CX k f fd ps sp) (hr : Room (k + 1) X.A) (hb : Binds X.K fd ps ds) (hd : Vals dvs ds)
    (hx : Passes CX X E) (I : Inv X pins σ H s) (r : Vals vs us)
    (h : ∀ x dx, H x = none -> H dx = none -> dx ≠ x -> sp (.ref x :: (vs ++ dvs)) (upd (upd H dx (.own x)) x (.ins C dx [])) (fun v H2 => v = .non /\ Q (.ref x) H2) E) :
    wpAny (model X.prog X.w) X.A (call (.ref C) us) (EP X pins σ Q) X.xe s := by
  have hq := h (s.heap.objs.size + 1) s.heap.objs.size (I.hok.fresh (Nat.le_succ _)) (I.hok.fresh (Nat.le_refl _)) (Nat.ne_of_lt (Nat.lt_succ_self _))
  have I2 := Inv.made (C := C) I
  have r2 : Vals (V.ref (s.heap.objs.size + 1) :: (vs ++ dvs)) (Value.ref (s.heap.objs.size + 1) :: (us ++ ds)) := .cons rfl (r.append hd)
  have hl : (Value.ref (s.heap.objs.size + 1) :: us ++ ds).length = ps.length := by
    have e := r2.length
    rw [F.len _ _ _ _ hq] at e
    exact e.symm
  refine wpAny_call (make_map (f := f) I.kIn M.makes M.init (beq_iff_eq.mp M.fn) (codeAny_mono (F.run _ X.stack _ _ ⟨Value.ref (s.heap.objs.size + 1) :: us, []⟩ (Value.ref (s.heap.objs.size + 1) :: (us ++ ds)) _ _ E (hr.make C us [])
    (I2.env0.make C us []) (hb _ (Value.ref (s.heap.objs.size + 1) :: us) I2.kIn hl) r2 hq) fun r s' hq' => ?_))
  cases r with
  | error e => exact hx pins σ _ _ e s' I2 hq'
  | ok fl =>
    cases fl with
    | ret u =>
      obtain ⟨v, H', I3, rv, ev, q3⟩ := I2.after hq'
      subst ev
      exact ⟨rv, ⟨V.ref (s.heap.objs.size + 1), H', I3, rfl, q3⟩⟩
    | next => exact False.elim hq'
    | brk => exact False.elim hq'
    | cont => exact False.elim hq'
theorem pe_make0 (M : Mk X.K C f) (F : FnOk X.prog X.w X.K X.mg X.base CX k f fd ps sp) (hr : Room (k + 1) X.A) (hg : Gl X x) (hm : X.mg x = some (.ref C)) (hb : Binds X.K fd ps ds) (hd : Vals dvs ds) (hx : Passes CX X E)
    (hdb : (x == ("__debug__" : Str)) = false := by decide) : PE X (.Call (.Name x p) [] [] pos) (tMake C sp dvs E tNil) := by
  intro pins s σ H Q I h
  refine wpAny_Call_Name_kw (ld_glob I hg hm ?_ hdb)
  exact PySem.W.callWith_K0 I.kIn M.kp (run_make (us := []) M F hr hb hd hx I .nil h)
end

/-! ### keywords -/
def PK (X : Cx) (kws : List Keyword) (t : TA) : Prop :=
  ∀ (pos : Pos) (pins : List (Addr × Obj)) (s : Shared) (σ : St) (H : Hp) (Q : List V -> Hp -> Prop), Inv X pins σ H s -> t σ H Q -> wpAny (model X.prog X.w) X.A (evalAll ((backToKw pos (keywordEach kws X.env)).map (·.2))) (AP X pins σ Q) X.xe s
section
variable {X : Cx} {CX : CXT} {k : Nat} {f C : Addr} {fd : FuncData} {ps ks : List Str} {sp : Sp} {E : XK} {x m : Str} {p pos apos kpos : Pos} {e o : Expr} {es : List Expr} {kws : List Keyword} {te ta : TE} {t tk : TA} {nm : Option Str}
structure KBinds (K : PySem.W.Frag) (fd : FuncData) (ps ks : List Str) (g : List Value -> List Value -> List Value) (gV : List V -> List V -> List V) : Prop where
  to : ∀ (s : Shared) (us ws : List Value), K.In s.heap -> (g us ws).length = ps.length -> BindsTo s fd ⟨us, ks.zip ws⟩ (ps.zip (g us ws))
  rel : ∀ {vs : List V} {us : List Value} {zs : List V} {ws : List Value}, Vals vs us -> Vals zs ws -> Vals (gV vs zs) (g us ws)
def tCallK (sp : Sp) (gV : List V -> List V -> List V) (E : XK) (t tk : TA) : TE := fun σ H Q => t σ H fun vs H1 => tk σ H1 fun zs H2 => sp (gV vs zs) H2 Q E
variable {g : List Value -> List Value -> List Value} {gV : List V -> List V -> List V}
end

/-! ### a def's body keeps its promise -/
structure FnScope (N P : List Str) (sc : Scope) : Prop where
  kind : sc.kind = .function
  co : sc.isCoroutine = false
  gen : sc.isGenerator = false
  nd : N.Nodup
  pre : N.take P.length = P
  par : ∀ x ∈ P, sc.names.lookup x = some .local \/ sc.names.lookup x = some .cell
  nofree : ∀ y ∈ sc.names, y.2 ≠ .free

theorem bindL_out {kindOf : Str -> Option NameKind} {x : Str} : ∀ {binds : List (Str × Value)} {m : Str -> Option Value}, (∀ v, (x, v) ∉ binds) -> bindL kindOf binds m x = m x
  | [], _, _ => rfl
  | (n, v) :: r, m, h => by
    unfold bindL
    rw [bindL_out fun w hw => h w (List.mem_cons_of_mem _ hw)]
    split
    · have : x ≠ n := by rintro rfl; exact h v List.mem_cons_self
      simp [this]
    · rfl
theorem bindC_out {kindOf : Str -> Option NameKind} {x : Str} : ∀ {binds : List (Str × Value)} {m : Str -> Option Value}, (∀ v, (x, v) ∉ binds) -> bindC kindOf binds m x = m x
  | [], _, _ => rfl
  | (n, v) :: r, m, h => by
    unfold bindC
    rw [bindC_out fun w hw => h w (List.mem_cons_of_mem _ hw)]
    split
    · rfl
    · have : x ≠ n := by rintro rfl; exact h v List.mem_cons_self
      simp [this]
theorem bindL_get {kindOf : Str -> Option NameKind} {x : Str} {v : Value} : ∀ {P : List Str} {vs : List Value} {i : Nat} {m : Str -> Option Value}, P.Nodup -> P[i]? = some x -> vs[i]? = some v -> kindOf x = some .local ->
    bindL kindOf (P.zip vs) m x = some v
  | [], _, _, _, _, h, _, _ => by simp at h
  | _ :: _, [], _, _, _, _, h, _ => by simp at h
  | p :: P, w :: vs, 0, m, nd, h1, h2, hk => by
    simp at h1 h2; subst h1; subst h2
    show bindL kindOf ((p, w) :: P.zip vs) m p = _
    unfold bindL
    rw [bindL_out fun v hv => (List.nodup_cons.mp nd).1 (List.of_mem_zip hv).1, if_pos hk]
    simp
  | p :: P, w :: vs, i + 1, m, nd, h1, h2, hk => by
    show bindL kindOf ((p, w) :: P.zip vs) m x = _
    unfold bindL
    exact bindL_get (i := i) (List.nodup_cons.mp nd).2 (by simpa using h1) (by simpa using h2) hk
theorem bindC_get {kindOf : Str -> Option NameKind} {x : Str} {v : Value} : ∀ {P : List Str} {vs : List Value} {i : Nat} {m : Str -> Option Value}, P.Nodup -> P[i]? = some x -> vs[i]? = some v -> kindOf x ≠ some .local ->
    bindC kindOf (P.zip vs) m x = some v
  | [], _, _, _, _, h, _, _ => by simp at h
  | _ :: _, [], _, _, _, _, h, _ => by simp at h
  | p :: P, w :: vs, 0, m, nd, h1, h2, hk => by
    simp at h1 h2; subst h1; subst h2
    show bindC kindOf ((p, w) :: P.zip vs) m p = _
    unfold bindC
    rw [bindC_out fun v hv => (List.nodup_cons.mp nd).1 (List.of_mem_zip hv).1, if_neg hk]
    simp
  | p :: P, w :: vs, i + 1, m, nd, h1, h2, hk => by
    show bindC kindOf ((p, w) :: P.zip vs) m x = _
    unfold bindC
    exact bindC_get (i := i) (List.nodup_cons.mp nd).2 (by simpa using h1) (by simpa using h2) hk

def start (N : List Str) (vs : List V) : St := vs.map some ++ List.replicate (N.length - vs.length) none

def cxOf (CX : CXT) (P : Program) (w : World) (K : PySem.W.Frag) (mg : Str -> Option Value) (base : Heap) (N : List Str) (qual : Str) (scope : Scope) (f : Addr) (cd : Value) (A : Around) (outer : List Env) (s : Shared) (H : Hp) (E : XK) : Cx where
  prog := P
  w := w
  K := K
  mg := mg
  base := base
  A := A.deeper (envOfC qual scope s.heap.objs.size f cd)
  N := N
  s₀ := s
  H₀ := H
  env := envOfC qual scope s.heap.objs.size f cd
  outer := outer
  stack := envOfC qual scope s.heap.objs.size f cd :: outer
  ex := []
  calm := true
  fn := fun _ => true
  pn := []
  xe := fun e s' => wpAny (model P w) (A.deeper (envOfC qual scope s.heap.objs.size f cd)) (leaving (envOfC qual scope s.heap.objs.size f cd) e) (fun _ s'' => CX outer H s E e s'') (fun e' s'' => CX outer H s E e' s'') s'

theorem cell_has {sc : Scope} {n : Nat} {x : Str} (h : sc.names.lookup x = some .cell) : ∃ c, (cellsFrom n sc.names []).lookup x = some c := by
  have q := PySem.W.cellsFrom_some sc.names n [] (.inl h)
  exact Option.isSome_iff_exists.mp q

theorem inv_start {CX : CXT} {P : Program} {w : World} {K : PySem.W.Frag} {mg : Str -> Option Value} {base : Heap} {N ps : List Str} {qual : Str} {scope : Scope} {f : Addr} {cd : Value} {A : Around} {outer : List Env} {s s1 : Shared} {H : Hp} {E : XK} {us : List Value} {vs : List V}
    (S : FnScope N ps scope) (hd : A.handled = none) (e0 : Env0 P w K mg base A outer s H) (hl : vs.length = ps.length) (r : Vals vs us)
    (x : InCallC s s.heap.objs.size (bindL (envOfC qual scope s.heap.objs.size f cd).kindOf (ps.zip us) fun _ => none) (cellsFrom (s.heap.objs.size + 1) scope.names []) (bindC (envOfC qual scope s.heap.objs.size f cd).kindOf (ps.zip us) fun _ => none) s1) :
    Inv (cxOf CX P w K mg base N qual scope f cd A outer s H E) [] (start N vs) H s1 := by
  have hpl : ps.length <= N.length := by have := congrArg List.length S.pre; rw [List.length_take] at this; omega
  obtain ⟨h1, tk, rfl, hk⟩ := x.done
  have noA : ∀ b : Addr, b ∉ (cxOf CX P w K mg base N qual scope f cd A outer s H E).ex := fun b z => absurd (show b ∈ ([] : List Addr) from z) (by simp)
  refine ⟨⟨e0.mod, S.kind, rfl, rfl, Nat.le_refl _, fun y z c h1 h2 => ?_, fun y hy => ?_, fun y c _ h => ?_, fun _ => hd, Around.frames_deeper e0.frames, .inr ⟨rfl, rfl⟩, fun b z => absurd z (noA b), e0.bs, e0.bsz, fun b _ _ => noA b, fun b z => absurd z (noA b), e0.funs, e0.frf⟩,
    rfl, e0.bare, Un.kept hk, ⟨_, x.toInCall.ns, fun i y v h1 h2 h3 => ?_⟩, fun y c h => ⟨_, x.cell y c h⟩, e0.hok.fresh (Nat.le_refl _), fun y c h => ?_, fun p hp => absurd (show p ∈ ([] : List (Addr × Obj)) from hp) (by simp), e0.hok.kept hk, ?_⟩
  · exact name_of_addr x.apart (PySem.mem_of_lookup h1) (PySem.mem_of_lookup h2)
  · have hy : scope.names.lookup y = some .cell \/ scope.names.lookup y = some .free := hy
    rcases hy with hy | hy
    · exact cell_has hy
    · exact absurd rfl (S.nofree _ (PySem.mem_of_lookup hy))
  · exact Nat.le_of_lt (x.above y c (PySem.mem_of_lookup h))
  · have hi : i < vs.length := by
      unfold start at h2
      by_cases hi : i < vs.length
      · exact hi
      · rw [List.getElem?_append_right (by simpa using hi)] at h2
        rw [List.getElem?_replicate] at h2
        split at h2 <;> cases h2
    have ha : vs[i]? = some v := by
      unfold start at h2
      rw [List.getElem?_append_left (by simpa using hi), List.getElem?_map] at h2
      cases e : vs[i]? with
      | none => rw [e] at h2; cases h2
      | some a => rw [e] at h2; cases h2; rfl
    obtain ⟨u, hu, rv⟩ := r.get ha
    have hp : ps[i]? = some y := by
      rw [← S.pre, List.getElem?_take_of_lt (by omega)]; exact h1
    have ndP : ps.Nodup := by rw [← S.pre]; exact S.nd.sublist (List.take_sublist _ _)
    refine ⟨u, rv, ?_⟩
    rcases S.par y (List.mem_of_getElem? hp) with k | k
    · exact .inl ⟨k, bindL_get ndP hp hu k⟩
    · obtain ⟨c, e⟩ := cell_has (n := s.heap.objs.size + 1) k
      refine .inr ⟨.inl k, c, e, ?_⟩
      have q := x.cell y c e
      rw [bindC_get ndP hp hu (by show scope.names.lookup y ≠ _; rw [k]; decide)] at q
      exact q
  · exact e0.hok.fresh (Nat.le_of_lt (x.above y c (PySem.mem_of_lookup h)))
  · unfold start
    show _ = N.length
    rw [List.length_append, List.length_map, List.length_replicate]
    omega

theorem fn_of {CX : CXT} {P : Program} {w : World} {K : PySem.W.Frag} {mg : Str -> Option Value} {base : Heap} {k : Nat} {f : Addr} {name qual : Str} {params : Arguments} {body : List Stmt} {scope : Scope} {dV kV doc pm cdv ct oc : Value} {an od : Option Addr}
    {osl : Array (Option Value)} {N ps : List Str} {sp : Sp} (lk : K.lookup f = some ⟨oc, od, .func (PySem.W.fnOf name qual params body scope dV kV doc pm an cdv ct), osl⟩) (hcd : PySem.W.codeIn K cdv qual = true) (S : FnScope N ps scope)
    (len : ∀ vs H Q E, sp vs H Q E -> vs.length = ps.length)
    (hbody : ∀ (A : Around) (outer : List Env) (s : Shared) (H : Hp) (vs : List V) (Q : VK) (E : XK), Room k (A.deeper (envOfC qual scope s.heap.objs.size f cdv)) -> sp vs H Q E ->
      ∃ t, PSs (cxOf CX P w K mg base N qual scope f cdv A outer s H E) body t /\ t { nx := fun _ H' => Q .non H', rt := Q } (start N vs) H) :
    FnOk P w K mg base CX (k + 1) f (PySem.W.fnOf name qual params body scope dV kV doc pm an cdv ct) ps sp := by
  refine ⟨len, fun A outer s H args us vs Q E hr e0 hb r hsp => ?_⟩
  have hl := len _ _ _ _ hsp
  have KX : K.In s.heap := e0.mod.kin.keeps fun b o e => (e0.bs b o e).1
  have lim : s.heap.NoLimit := e0.mod.nolimit.keeps fun b o e => (e0.bs b o e).1
  have hkind : ∀ y ∈ ps.zip us, scope.names.lookup y.1 = some .local \/ (scope.names.lookup y.1 = some .cell /\ ((cellsFrom (s.heap.objs.size + 1) scope.names []).lookup y.1).isSome = true) := fun ⟨n, v⟩ hy => by
    rcases S.par n (List.of_mem_zip hy).1 with q | q
    · exact .inl q
    · exact .inr ⟨q, PySem.W.cellsFrom_some _ _ _ (.inl q)⟩
  refine codeAny_call_function hr.depth (KX _ _ lk) rfl S.co S.gen rfl (PySem.W.codeRec_of KX hcd) (hb _ _ _ _ ?_)
  refine wpAny_newFunctionEnv_cells S.kind hkind fun env he s1 x => ?_
  subst he
  refine ⟨lim.keeps x.toInCall.keep, codeAny_func ?_⟩
  obtain ⟨t, ht, hq⟩ := hbody A outer s H vs Q E (hr.deeper _) hsp
  have I : Inv (cxOf CX P w K mg base N qual scope f cdv A outer s H E) [] (start N vs) H s1 := inv_start S hr.hd e0 hl r x
  refine wpAny_mono (ht [] s1 (start N vs) H _ I hq) (fun fl s' hs => ?_) fun e s' hs => hs
  have fin : ∀ {σ' : St} {H' : Hp} {v : V} {u : Value}, Inv (cxOf CX P w K mg base N qual scope f cdv A outer s H E) [] σ' H' s' -> RelV v u -> Q v H' -> CE outer P w H s Q u s' :=
    fun {σ' H' v u} J rv q => ⟨v, H', J.os, J.bare, J.base, J.hok, rv, q⟩
  cases fl with
  | ret u =>
    obtain ⟨v, σ', H', J, rv, q⟩ := hs
    exact fin J rv q
  | next =>
    obtain ⟨σ', H', J, q⟩ := hs
    exact fin (v := V.non) (u := Value.none) J rfl q
  | brk =>
    obtain ⟨_, _, _, q⟩ := hs
    exact False.elim q
  | cont =>
    obtain ⟨_, _, _, q⟩ := hs
    exact False.elim q
end L2

namespace L2
open PySem PySem.Spec PyProof.Rows
section
variable {X : Cx} {x : Str} {p pos : Pos} {e : Expr} {es : List Expr} {t : TA} {id T : String} {r : List V -> Hp -> VK -> Prop}

def tCB (r : List V -> Hp -> VK -> Prop) (t : TA) : TE := fun σ H Q => t σ H fun vs H1 => r vs H1 Q
theorem pe_callB (hc : CallR X (.builtin id) r) (hg : Gl X x) (hm : X.mg x = none) (hv : bootBuiltins x = some (.builtin id)) (ha : PA X (e :: es) t) (hn : x ≠ "__name__" := by decide) (hdb : (x == ("__debug__" : Str)) = false := by decide)
    (he : starEach (e :: es) X.env = (false, eval e X.env) :: starEach es X.env := by rfl) (hpl : (backTo pos (starEach es X.env)).any (·.1) = false := by rfl) : PE X (.Call (.Name x p) (e :: es) [] pos) (tCB r t) := by
  intro pins s σ H Q I h
  refine wpAny_Call_Name_kw (ld_blt I hg hm hv ?_ hn hdb)
  exact PyProof.Rows.callWith_builtin1 (thn (ha pos pins s σ H _ I h) fun us s1 ⟨vs, H1, I1, r1, q1⟩ => hc pins s1 σ H1 vs us Q I1 r1 q1) he hpl
theorem pe_callTy (hc : CallR X (.type T) r) (hg : Gl X x) (hm : X.mg x = none) (hv : bootBuiltins x = some (.type T)) (ha : PA X (e :: es) t) (hn : x ≠ "__name__" := by decide) (hdb : (x == ("__debug__" : Str)) = false := by decide)
    (he : starEach (e :: es) X.env = (false, eval e X.env) :: starEach es X.env := by rfl) (hpl : (backTo pos (starEach es X.env)).any (·.1) = false := by rfl) : PE X (.Call (.Name x p) (e :: es) [] pos) (tCB r t) := by
  intro pins s σ H Q I h
  refine wpAny_Call_Name_kw (ld_blt I hg hm hv ?_ hn hdb)
  exact PyProof.Rows.callWith_type1 (thn (ha pos pins s σ H _ I h) fun us s1 ⟨vs, H1, I1, r1, q1⟩ => hc pins s1 σ H1 vs us Q I1 r1 q1) he hpl
end
end L2

namespace HT
open PySem PyProof.Rows

def lexLt : List Int -> List Int -> Bool
  | [], [] => false
  | [], _ :: _ => true
  | _ :: _, [] => false
  | x :: xs, y :: ys => if x = y then lexLt xs ys else decide (x < y)
section
open PySem.SeqAt
open PySem.AutoSeq1 (wpAny_loadPart')
open PySem.MeetsSeq PySem.MeetsSeq2 PySem.MeetsSeq3

end

section
variable {prog : Program} {w : World} {A : Around} {E : Value -> Shared -> Prop} {s : Shared}

/-! ### t[a:b], not the whole -/
def sIx (n d : Nat) : Option Int -> Nat
  | none => d
  | some v => if v < 0 then (v + (n : Int)).toNat else min v.toNat n
end
end HT

namespace L2
open PySem PySem.Spec PyProof.Rows

/-! ### the parts of a slice -/
abbrev TO := St -> Hp -> (Option Int -> Hp -> Prop) -> Prop
def PO (X : Cx) (e : Option Expr) (t : TO) : Prop :=
  ∀ (pins : List (Addr × Obj)) (s : Shared) (σ : St) (H : Hp) (Q : Option Int -> Hp -> Prop), Inv X pins σ H s -> t σ H Q ->
    wpAny (model X.prog X.w) X.A (evalPart e X.env) (fun u s' => ∃ o H', Inv X pins σ H' s' /\ IsPart u o /\ Q o H') X.xe s
def tNoPart : TO := fun _ H Q => Q none H
def tPart (t : TE) : TO := fun σ H Q => t σ H fun x H1 => ∃ i, x = .int i /\ Q (some i) H1

section
variable {X : Cx} {e : Expr} {te : TE} {lo hi : Option Expr} {tl th : TO} {pos p2 : Pos}

theorem po_none : PO X none tNoPart := by
  intro pins s σ H Q I h
  rw [evalPart_none]
  exact wpAny_pure ⟨none, H, I, .none, h⟩
theorem po_some (h : PE X e te) : PO X (some e) (tPart te) := by
  intro pins s σ H Q I hw
  rw [evalPart_some]
  refine thn (h pins s σ H _ I hw) fun u s1 ⟨x, H1, I1, r1, q1⟩ => ?_
  obtain ⟨i, rfl, q⟩ := q1
  obtain ⟨t, rfl⟩ := r1
  exact ⟨some i, H1, I1, .int i t, q⟩

def SlR (X : Cx) (r : V -> Option Int -> Option Int -> Hp -> VK -> Prop) : Prop :=
  ∀ (pins : List (Addr × Obj)) (s : Shared) (σ : St) (H : Hp) (x : V) (v vl vu : Value) (lo hi : Option Int) (sl : Addr) (Q : VK), Inv X pins σ H s -> RelV x v -> s.heap.IsSliceOf sl vl vu .none -> IsPart vl lo -> IsPart vu hi -> r x lo hi H Q ->
    ∃ T id, typeLookup (.type T) "__getitem__" = pure (some (.builtin id)) /\ s.TypeIs v T /\ wpAny (model X.prog X.w) X.A (getItem v (.ref sl)) (EP X pins σ Q) X.xe s
theorem SlR.or {r r' : V -> Option Int -> Option Int -> Hp -> VK -> Prop} (h : SlR X r) (h' : SlR X r') : SlR X (fun x lo hi H Q => r x lo hi H Q \/ r' x lo hi H Q) := by
  intro pins s σ H x v vl vu lo hi sl Q I rx hs pl pu q
  rcases q with q | q
  · exact h pins s σ H x v vl vu lo hi sl Q I rx hs pl pu q
  · exact h' pins s σ H x v vl vu lo hi sl Q I rx hs pl pu q
def tSl (r : V -> Option Int -> Option Int -> Hp -> VK -> Prop) (te : TE) (tl th : TO) : TE := fun σ H Q => te σ H fun x H1 => tl σ H1 fun l H2 => th σ H2 fun u H3 => r x l u H3 Q
theorem pe_slice {r : V -> Option Int -> Option Int -> Hp -> VK -> Prop} (hr : SlR X r) (he : PE X e te) (hl : PO X lo tl) (hu : PO X hi th) : PE X (.Subscript e (.Slice lo hi none p2) pos) (tSl r te tl th) := by
  intro pins s σ H Q I h
  refine Subscript_ (thn (he pins s σ H _ I h) fun v s1 ⟨x, H1, I1, r1, q1⟩ => ?_)
  refine wpAny_Slice (thn (hl pins s1 σ H1 _ I1 q1) fun vl s2 ⟨l, H2, I2, pl, q2⟩ => thn (hu pins s2 σ H2 _ I2 q2) fun vu s3 ⟨u, H3, I3, pu, q3⟩ => ?_)
  rw [evalPart_none]
  refine wpAny_pure ?_
  have I4 : Inv X pins σ H3 { s3 with heap := s3.heap.push { cls := .type "slice", data := .fields #[vl, vu, .none] } } := I3.kept (t' := s3.toks) fun b ob q => Heap.get?_push_of_some _ q
  obtain ⟨T, id, hT, ht, hg⟩ := hr pins { s3 with heap := s3.heap.push { cls := .type "slice", data := .fields #[vl, vu, .none] } } σ H3 x v vl vu l u s3.heap.objs.size Q I4 r1 (Heap.IsSliceOf.new ..) pl pu q3
  show wpAny (model X.prog X.w) X.A (subscriptTail e (.Slice lo hi none p2) v (.ref s3.heap.objs.size)) (EP X pins σ Q) X.xe { s3 with heap := s3.heap.push { cls := .type "slice", data := .fields #[vl, vu, .none] } }
  exact tail_any (ops := [.ref s3.heap.objs.size, v]) ht hT hg (by with_unfolding_all rfl)

def cutV (xs : List V) (lo hi : Option Int) : List V := (xs.drop (HT.sIx xs.length 0 lo)).take (HT.sIx xs.length xs.length hi - HT.sIx xs.length 0 lo)
theorem cutV_length (xs : List V) (lo hi : Option Int) : (cutV xs lo hi).length <= xs.length := by
  unfold cutV
  rw [List.length_take, List.length_drop]
  omega
def rSlT (K : PySem.W.Frag) : V -> Option Int -> Option Int -> Hp -> VK -> Prop := fun x lo hi H Q => ∃ a xs, x = .ref a /\ SqT K H a xs /\
  ¬ (HT.sIx xs.length 0 lo = 0 /\ HT.sIx xs.length xs.length hi = xs.length) /\ ∀ p, H p = none -> Q (.ref p) (upd H p (.tup (cutV xs lo hi)))
/-! ### t < u, t + u -/
def rLtT (K : PySem.W.Frag) : R2 := fun x y H Q => ∃ a b ns ms, x = .ref a /\ y = .ref b /\ SqT K H a (ns.map V.int) /\ SqT K H b (ms.map V.int) /\ Q (.bl (HT.lexLt ns ms)) H
def rCatT (K : PySem.W.Frag) : R2 := fun x y H Q => ∃ a b xs ys, x = .ref a /\ y = .ref b /\ SqT K H a xs /\ SqT K H b ys /\ xs ≠ [] /\ xs.length + ys.length <= sizeLine /\
  (ys = [] -> Q (.ref a) H) /\ (ys ≠ [] -> ∀ p, H p = none -> Q (.ref p) (upd H p (.tup (xs ++ ys))))
end
end L2

namespace L2
open PySem PySem.Spec PyProof.Rows

/-! ### places -/
def ixN (n : Nat) (i : Int) : Option Nat := if 0 <= i then (if i < n then some i.toNat else none) else if -(n : Int) <= i then some (i + n).toNat else none
def atI {α : Type} (xs : List α) (i : Int) : Option α := (ixN xs.length i).bind fun j => xs[j]?
theorem ixN_seq {n : Nat} {i : Int} {j : Nat} (h : ixN n i = some j) : seqIndex? i n = some j /\ j < n /\ -(n : Int) <= i /\ i < n := by
  unfold ixN at h
  by_cases h0 : 0 <= i
  · rw [if_pos h0] at h
    by_cases h1 : i < n
    · rw [if_pos h1] at h
      have e : i.toNat = j := Option.some.inj h
      exact ⟨by rw [seqIndex_of h0 h1, e], by omega, by omega, h1⟩
    · rw [if_neg h1] at h; cases h
  · rw [if_neg h0] at h
    by_cases h1 : -(n : Int) <= i
    · rw [if_pos h1] at h
      have e : (i + n).toNat = j := Option.some.inj h
      exact ⟨by rw [seqIndex_neg (by omega) h1, e], by omega, h1, by omega⟩
    · rw [if_neg h1] at h; cases h
theorem atI_get {α : Type} {xs : List α} {i : Int} {v : α} (h : atI xs i = some v) : ∃ j, seqIndex? i xs.length = some j /\ xs[j]? = some v /\ j < xs.length /\ -(xs.length : Int) <= i /\ i < xs.length := by
  unfold atI at h
  cases e : ixN xs.length i with
  | none => rw [e] at h; cases h
  | some j =>
    rw [e] at h
    obtain ⟨h1, h2, h3, h4⟩ := ixN_seq e
    exact ⟨j, h1, h, h2, h3, h4⟩
theorem atI_nat {α : Type} {xs : List α} {j : Nat} {v : α} (h : xs[j]? = some v) : atI xs (j : Int) = some v := by
  have hj : j < xs.length := (List.getElem?_eq_some_iff.mp h).1
  have e : ixN xs.length (j : Int) = some j := by
    unfold ixN
    rw [if_pos (by omega), if_pos (by omega)]; simp
  unfold atI; rw [e]; exact h
/-! ### what may be subscripted -/
def PlainIx (b : Expr) : Prop := ∀ o i, subscripted b false o i = operate [o, i] (getItem o i)
def IxR (X : Cx) (r : R2) : Prop :=
  ∀ (value slice : Expr) (pins : List (Addr × Obj)) (s : Shared) (σ : St) (H : Hp) (x y : V) (v u : Value) (Q : VK), Inv X pins σ H s -> RelV x v -> RelV y u -> r x y H Q ->
    subscripted slice false v u = operate [v, u] (getItem v u) -> wpAny (model X.prog X.w) X.A (subscriptTail value slice v u) (EP X pins σ Q) X.xe s
def MtR (X : Cx) (id : String) (r : V -> List V -> Hp -> VK -> Prop) : Prop :=
  ∀ (pins : List (Addr × Obj)) (s : Shared) (σ : St) (H : Hp) (x : V) (xs : List V) (v : Value) (us : List Value) (Q : VK), Inv X pins σ H s -> RelV x v -> Vals xs us -> r x xs H Q ->
    wpAny (model X.prog X.w) X.A (call (.builtin id) (v :: us)) (EP X pins σ Q) X.xe s
section
variable {X : Cx} {a b : Expr} {ta tb : TE} {pos : Pos}
theorem IxR.or {r r' : R2} (h : IxR X r) (h' : IxR X r') : IxR X (fun x y H Q => r x y H Q \/ r' x y H Q) := by
  intro value slice pins s σ H x y v u Q I rx ry q hs
  rcases q with q | q
  · exact h value slice pins s σ H x y v u Q I rx ry q hs
  · exact h' value slice pins s σ H x y v u Q I rx ry q hs
theorem MtR.or {id : String} {r r' : V -> List V -> Hp -> VK -> Prop} (h : MtR X id r) (h' : MtR X id r') : MtR X id (fun x xs H Q => r x xs H Q \/ r' x xs H Q) := by
  intro pins s σ H x xs v us Q I rx rs q
  rcases q with q | q
  · exact h pins s σ H x xs v us Q I rx rs q
  · exact h' pins s σ H x xs v us Q I rx rs q
theorem pe_ix {r : R2} (hr : IxR X r) (ha : PE X a ta) (hb : PE X b tb) (hs : PlainIx b) : PE X (.Subscript a b pos) (tOp r ta tb) := by
  intro pins s σ H Q I h
  exact Subscript_ (binT ha hb I h fun v u s2 x y H2 I2 rx ry q => hr a b pins s2 σ H2 x y v u Q I2 rx ry q (hs _ _))

def rIxL (K : PySem.W.Frag) : R2 := fun x y H Q => ∃ p xs i v, x = .ref p /\ y = .int i /\ SqL K H p xs /\ atI xs i = some v /\ Q v H
def rIxT (K : PySem.W.Frag) : R2 := fun x y H Q => ∃ p xs i v, x = .ref p /\ y = .int i /\ SqT K H p xs /\ atI xs i = some v /\ Q v H
def rIxS : R2 := fun x y H Q => ∃ z i c, x = .str z /\ y = .int i /\ z.length <= sizeLine /\ atI z.cps.toList i = some c /\ Q (.str ⟨#[c]⟩) H
theorem ix_list : IxR X (rIxL X.K) := by
  intro value slice pins s σ H x y v u Q I rx ry h hs
  obtain ⟨p, xs, i, z, rfl, rfl, hq, he, q⟩ := h
  cases rx
  obtain ⟨t, rfl⟩ := ry
  obtain ⟨its, r, pl, hz⟩ := I.list hq
  obtain ⟨j, h1, h2, h3, h4, h5⟩ := atI_get he
  obtain ⟨w, ew, rw'⟩ := r.get h2
  have hl := r.length
  have hn := line63
  have fin : EP X pins σ Q w s := ⟨z, H, I, rw', q⟩
  by_cases h0 : 0 <= i
  · have hj : i.toNat = j := by
      rw [seqIndex_of h0 h5] at h1
      exact Option.some.inj h1
    exact item_listR pl.isList h0 (by omega) (by rw [hj]; simpa using ew) fin hs
  · have hj : (i + (its.toArray.size : Int)).toNat = j := by
      rw [seqIndex_neg (by omega) h4] at h1
      rw [List.size_toArray, ← hl]
      exact Option.some.inj h1
    exact subscriptTail_builtinR (x := w) pl.isList.typeIs slot_list_getitem.lookup
      (wpAny_getItem_list_neg (Q := fun r s' => r = w /\ EP X pins σ Q r s') pl.isList (by omega) (by rw [List.size_toArray] <;> omega) (by omega) (by rw [hj]; simpa using ew) ⟨rfl, fin⟩) hs
theorem ix_tup : IxR X (rIxT X.K) := by
  intro value slice pins s σ H x y v u Q I rx ry h hs
  obtain ⟨p, xs, i, z, rfl, rfl, hq, he, q⟩ := h
  cases rx
  obtain ⟨t, rfl⟩ := ry
  obtain ⟨its, r, pl, hz⟩ := I.tuple hq
  obtain ⟨j, h1, h2, h3, h4, h5⟩ := atI_get he
  obtain ⟨w, ew, rw'⟩ := r.get h2
  have hl := r.length
  have hn := line63
  have fin : EP X pins σ Q w s := ⟨z, H, I, rw', q⟩
  exact subscriptTail_builtinR (x := w) pl.typeIs slot_tuple_getitem.lookup
    (getItem_tuple (j := j) (Q := fun r s' => r = w /\ EP X pins σ Q r s') pl (by omega) (by omega) (by rw [List.size_toArray, ← hl]; exact h1) (by simpa using ew) ⟨rfl, fin⟩) hs
def rIx (K : PySem.W.Frag) : R2 := fun x y H Q => rIxL K x y H Q \/ rIxT K x y H Q \/ rIxS x y H Q
/-! ### xs[i] = v, any sign -/
theorem mapSeq_set (its : List Value) (n j : Nat) (u : Value) : Obj.mapSeq (·.setIfInBounds j u) { cls := .type "list", data := .seq its.toArray n } = { cls := .type "list", data := .seq (its.set j u).toArray n } := by
  simp [Obj.mapSeq]
theorem Inv.lst {pins : List (Addr × Obj)} {σ : St} {H : Hp} {s : Shared} {p : Addr} {xs : List V} (I : Inv X pins σ H s) (h : H p = some (.lst xs)) :
    ∃ (its : List Value) (n : Nat), Vals xs its /\ s.heap.get? p = some { cls := .type "list", data := .seq its.toArray n } /\ xs.length <= sizeLine := by
  obtain ⟨z, its, n, r, e⟩ := I.hok p _ h
  exact ⟨its, n, r, e, z⟩
theorem Inv.lstUpd {pins : List (Addr × Obj)} {σ : St} {H : Hp} {s : Shared} {p : Addr} {xs ys : List V} {its its' : List Value} {n n' : Nat} {f : Obj -> Obj} (I : Inv X pins σ H s) (h : H p = some (.lst xs))
    (ho : s.heap.get? p = some { cls := .type "list", data := .seq its.toArray n }) (hf : f { cls := .type "list", data := .seq its.toArray n } = { cls := .type "list", data := .seq its'.toArray n' }) (r : Vals ys its') (hz : ys.length <= sizeLine) (t : Nat) :
    Inv X pins σ (upd H p (.lst ys)) { s with heap := s.heap.update p f, toks := t } := by
  have e : (s.heap.update p f).get? p = some { cls := .type "list", data := .seq its'.toArray n' } := by
    rw [Heap.get?_update_self f ho (by rw [hf] <;> rfl), hf]
  refine I.write (x := p) (e := p) (by rw [h]; trivial) (.inl rfl) (fun b u hb q => (Heap.get?_update_other _ _ (Ne.symm hb)).trans q) ⟨_, e⟩ ?_
  exact ⟨hz, its', n', r, e⟩
def rSetL : V -> V -> V -> Hp -> (Hp -> Prop) -> Prop := fun o i v H Q => ∃ p xs k j, o = .ref p /\ i = .int k /\ H p = some (.lst xs) /\ ixN xs.length k = some j /\ Q (upd H p (.lst (xs.set j v)))
theorem set_list : PSet X rSetL := by
  intro pins s σ H o i v ov iv u Q I ro ri rv h
  obtain ⟨p, xs, k, j, rfl, rfl, hp, hj, q⟩ := h
  cases ro
  obtain ⟨t, rfl⟩ := ri
  obtain ⟨its, n, r, ho, hz⟩ := I.lst hp
  obtain ⟨h1, h2, h3, h4⟩ := ixN_seq hj
  have hl := r.length
  have hn := line63
  have I' : Inv X pins σ (upd H p (.lst (xs.set j v))) { s with heap := s.heap.update p (Obj.mapSeq (·.setIfInBounds j u)) } :=
    I.lstUpd hp ho (mapSeq_set its n j u) (r.set rv j) (by rw [List.length_set]; exact hz) s.toks
  by_cases h0 : 0 <= k
  · have hk : k.toNat = j := by
      rw [seqIndex_of h0 h4] at h1
      exact Option.some.inj h1
    exact PySem.W.ki_setAt ho h0 (by omega) (by rw [List.size_toArray, ← hl]; exact h4) (by rw [hk]; exact ⟨_, I', q⟩)
  · have hk : (k + (its.toArray.size : Int)).toNat = j := by
      rw [seqIndex_neg (by omega) h3] at h1
      rw [List.size_toArray, ← hl]
      exact Option.some.inj h1
    exact PySem.W.ki_setBack ho (by omega) (by rw [List.size_toArray, ← hl]; exact h3) (by omega) (by rw [hk]; exact ⟨_, I', q⟩)

/-! ### slices -/
theorem slice_bounds (lo hi : Option Int) (n : Nat) : (sliceBounds lo hi none n).1 = ((HT.sIx n 0 lo : Nat) : Int) /\ (sliceBounds lo hi none n).2.1 = ((HT.sIx n n hi : Nat) : Int) /\ (sliceBounds lo hi none n).2.2 = 1 := by
  refine ⟨?_, ?_, rfl⟩
  · cases lo with
    | none => simp [sliceBounds, HT.sIx]
    | some i =>
      simp only [sliceBounds, HT.sIx, Option.getD_none, show (1 : Int) > 0 by decide, if_true]
      by_cases h : i < 0
      · simp only [h, if_true] <;> omega
      · simp only [h, if_false] <;> omega
  · cases hi with
    | none => simp [sliceBounds, HT.sIx]
    | some i =>
      simp only [sliceBounds, HT.sIx, Option.getD_none, show (1 : Int) > 0 by decide, if_true]
      by_cases h : i < 0
      · simp only [h, if_true] <;> omega
      · simp only [h, if_false] <;> omega
theorem slicePick_cut (its : List Value) (lo hi : Option Int) : slicePick its.toArray lo hi none = ((its.drop (HT.sIx its.length 0 lo)).take (HT.sIx its.length its.length hi - HT.sIx its.length 0 lo)).toArray := by
  obtain ⟨h1, h2, h3⟩ := slice_bounds lo hi its.toArray.size
  unfold slicePick
  rw [h1, h2, h3]
  simp only [sliceRange_one, pick_run, List.size_toArray] <;> rfl
def rSlL (K : PySem.W.Frag) : V -> Option Int -> Option Int -> Hp -> VK -> Prop := fun x lo hi H Q => ∃ a xs, x = .ref a /\ SqL K H a xs /\ ∀ p, H p = none -> Q (.ref p) (upd H p (.lst (cutV xs lo hi)))
theorem sl_list : SlR X (rSlL X.K) := by
  intro pins s σ H x v vl vu lo hi sl Q I rx hs pl pu h
  obtain ⟨a, xs, rfl, hx, q⟩ := h
  cases rx
  obtain ⟨its, r, ht, hz⟩ := I.list hx
  have hlen := r.length
  refine ⟨"list", _, slot_list_getitem.lookup, ht.isList.typeIs, ?_⟩
  refine wpAny_getItem_list_slice ht.isList hs pl pu .none (by simp) ?_ (by rw [List.size_toArray] <;> omega)
  rw [slicePick_cut, ← hlen]
  refine ⟨.ref s.heap.objs.size, _, I.laid (t' := s.toks) (o := .lst (cutV xs lo hi)) (fun b ob q => Heap.get?_push_of_some _ q) (Nat.le_refl _) ?_, rfl, q _ (I.hok.fresh (Nat.le_refl _))⟩
  exact ⟨Nat.le_trans (cutV_length xs lo hi) hz, _, 0, (r.drop (HT.sIx xs.length 0 lo)).take (HT.sIx xs.length xs.length hi - HT.sIx xs.length 0 lo), Heap.get?_push_size _ rfl⟩

/-! ### in, not in: flat items -/
def flatV : V -> Bool
  | .non => true
  | .bl _ => true
  | .int _ => true
  | .str _ => true
  | _ => false
def eqV : V -> V -> Bool
  | .non, .non => true
  | .bl a, .bl b => a == b
  | .bl a, .int b => (if a then 1 else 0) == b
  | .int a, .bl b => a == (if b then 1 else 0)
  | .int a, .int b => a == b
  | .str a, .str b => a == b
  | _, _ => false
def eqU (x : V) (u : Value) : Bool := match u with
  | .none => eqV .non x
  | .bool b => eqV (.bl b) x
  | .int i _ => eqV (.int i) x
  | .str z _ => eqV (.str z) x
  | _ => false
def inV (x : V) (xs : List V) : Bool := xs.any fun y => eqV y x
def rIn (K : PySem.W.Frag) (neg : Bool) : R2 := fun x y H Q => ∃ p xs, y = .ref p /\ (SqL K H p xs \/ SqT K H p xs) /\ flatV x = true /\ xs.all flatV = true /\ Q (.bl (if neg then !inV x xs else inV x xs)) H
/-! ### len, list(x), tuple(x) of any list or tuple that is read -/
theorem call_len_seq : CallR X (.builtin "len") (fun xs H Q => ∃ p ys, xs = [.ref p] /\ (SqL X.K H p ys \/ SqT X.K H p ys) /\ Q (.int ys.length) H) := by
  intro pins s σ H xs us Q I r h
  obtain ⟨p, ys, rfl, hq, q⟩ := h
  obtain ⟨u, rfl, rx⟩ := vals1 r
  cases rx
  have hn := line63
  rcases hq with hq | hq
  · obtain ⟨its, r', pl, hz⟩ := I.list hq
    have hlen := r'.length
    exact Calls.call_len_list pl.isList (by simp only [List.size_toArray] <;> omega) ⟨.int ys.length, H, I.tok _, ⟨s.toks + 1, by rw [List.size_toArray, hlen]⟩, q⟩
  · obtain ⟨its, r', pl, hz⟩ := I.tuple hq
    have hlen := r'.length
    exact len_tuple pl (by simp only [List.size_toArray] <;> omega) ⟨.int ys.length, H, I.tok _, ⟨s.toks + 1, by rw [List.size_toArray, hlen]⟩, q⟩
theorem CallR.or {f : Value} {r r' : List V -> Hp -> VK -> Prop} (h : CallR X f r) (h' : CallR X f r') : CallR X f (fun xs H Q => r xs H Q \/ r' xs H Q) := by
  intro pins s σ H xs us Q I rs q
  rcases q with q | q
  · exact h pins s σ H xs us Q I rs q
  · exact h' pins s σ H xs us Q I rs q
theorem call_list_of : CallR X (.type "list") (fun xs H Q => ∃ p ys, xs = [.ref p] /\ (SqL X.K H p ys \/ SqT X.K H p ys) /\ ∀ l, H l = none -> Q (.ref l) (upd H l (.lst ys))) := by
  intro pins s σ H xs us Q I r h
  obtain ⟨p, ys, rfl, hq, q⟩ := h
  obtain ⟨u, rfl, rx⟩ := vals1 r
  cases rx
  have fin : ∀ (its : List Value), Vals ys its -> ys.length <= sizeLine -> ∀ (h' : Heap) (c' : Nat), (∀ b o', s.heap.get? b = some o' -> h'.get? b = some o') ->
      h'.get? s.heap.objs.size = some { cls := .type "list", dict := none, data := .seq its.toArray c', slots := #[] } -> EP X pins σ Q (.ref s.heap.objs.size) { s with heap := h' } := fun its r' hz h' c' kp e =>
    ⟨.ref s.heap.objs.size, _, I.laid (t' := s.toks) kp (Nat.le_refl _) (show ObjOk X.prog X.w _ h' _ (.lst ys) from ⟨hz, its, c', r', e⟩), rfl, q _ (I.hok.fresh (Nat.le_refl _))⟩
  rcases hq with hq | hq
  · obtain ⟨its, r', pl, hz⟩ := I.list hq
    have hlen := r'.length
    obtain ⟨o, ho, hc, n, hd⟩ := pl.isList
    exact call_list_seq p (.inl rfl) ho hc hd (fun h' c' kp e => fin its r' hz h' c' kp e) (by simp only [List.size_toArray] <;> omega)
  · obtain ⟨its, r', pl, hz⟩ := I.tuple hq
    have hlen := r'.length
    obtain ⟨o, ho, hc, n, hd⟩ := pl
    exact call_list_seq p (.inr rfl) ho hc hd (fun h' c' kp e => fin its r' hz h' c' kp e) (by simp only [List.size_toArray] <;> omega)
/-! ### the call of a builtin's method: o.m(..) -/
def tyV (K : PySem.W.Frag) (T : String) (x : V) (H : Hp) : Prop := match x with
  | .str _ => T = "str"
  | .int _ => T = "int"
  | .ref p => (T = "list" /\ ∃ xs, SqL K H p xs) \/ (T = "tuple" /\ ∃ o, K.lookup p = some o /\ o.cls = .type "tuple" /\ o.dict = none) \/
      (T = "dict" /\ ((∃ kvs, H p = some (.dK kvs)) \/ ∃ kvs, H p = some (.dT kvs))) \/ (T = "set" /\ ∃ S n, H p = some (.set S n))
  | _ => False
theorem tyV_is {pins : List (Addr × Obj)} {σ : St} {H : Hp} {s : Shared} {T : String} {x : V} {v : Value} (I : Inv X pins σ H s) (r : RelV x v) (ty : tyV X.K T x H) :
    s.TypeIs v T /\ ∀ a, v = .ref a -> ∃ ob, s.heap.get? a = some ob /\ ob.dict = none := by
  cases x with
  | str z =>
    obtain ⟨t, rfl⟩ := r
    cases (show T = "str" from ty)
    exact ⟨typeIs_str s z t, fun _ e => nomatch e⟩
  | int i =>
    obtain ⟨t, rfl⟩ := r
    cases (show T = "int" from ty)
    exact ⟨typeIs_int s i t, fun _ e => nomatch e⟩
  | ref p =>
    cases r
    rcases ty with ⟨rfl, xs, hq⟩ | ⟨rfl, o, hk, hc, hd⟩ | ⟨rfl, hk⟩ | ⟨rfl, S, n, hk⟩
    · obtain ⟨its, _, pl, _⟩ := I.list hq
      refine ⟨pl.isList.typeIs, fun a e => ?_⟩
      cases e
      obtain ⟨o, n, e, c, hd, _⟩ := pl
      exact ⟨o, e, hd⟩
    · refine ⟨⟨o, I.kIn p o hk, hc⟩, fun a e => ?_⟩
      cases e
      exact ⟨o, I.kIn _ o hk, hd⟩
    · have z : ∃ o, s.heap.get? p = some o /\ o.ExactDict := by
        rcases hk with ⟨kvs, hk⟩ | ⟨kvs, hk⟩
        · obtain ⟨_, _, _, _, o, _, _, e, ex, _⟩ := I.hok p _ hk
          exact ⟨o, e, ex⟩
        · obtain ⟨_, _, _, _, o, _, _, e, ex, _⟩ := I.hok p _ hk
          exact ⟨o, e, ex⟩
      obtain ⟨o, e, ex⟩ := z
      refine ⟨⟨o, e, ex.1⟩, fun a e2 => ?_⟩
      cases e2
      exact ⟨o, e, ex.2.1⟩
    · obtain ⟨o, _, _, _, e, ex, _⟩ := I.hok p _ hk
      refine ⟨⟨o, e, ex.1⟩, fun a e2 => ?_⟩
      cases e2
      exact ⟨o, e, ex.2.1⟩
  | _ => exact False.elim ty
def tBM0 (K : PySem.W.Frag) (T : String) (r : V -> List V -> Hp -> VK -> Prop) (to : TE) : TE := fun σ H Q => to σ H fun x H1 => tyV K T x H1 /\ r x [] H1 Q
def tBM (K : PySem.W.Frag) (T : String) (r : V -> List V -> Hp -> VK -> Prop) (to : TE) (t : TA) : TE := fun σ H Q => to σ H fun x H1 => tyV K T x H1 /\ t σ H1 fun xs H2 => r x xs H2 Q
variable {o e : Expr} {es : List Expr} {to : TE} {t : TA} {name : Str} {apos cpos : Pos} {T id : String} {r : V -> List V -> Hp -> VK -> Prop}
theorem pe_bm (pa : PlainAttrs T) (slot : Slot T name id) (hty : typeOf (.builtin id) = pure (.type "method_descriptor")) (hm : MtR X id r) (ho : PE X o to) (ha : PA X (e :: es) t)
    (hbase : attributeBase o name X.env (eval o X.env) = eval o X.env := by rfl)
    (hfew : ((backTo cpos (starEach (e :: es) X.env)).all (fun x => !x.1) && (backToKw cpos (keywordEach [] X.env)).all (fun x => x.1.isSome)
      && decide ((e :: es).length + ([] : List Keyword).length + (if ([] : List Keyword).isEmpty then 0 else 1) < 30)) = true := by rfl)
    (hline : (apos.endLine == cpos.line) = true := by rfl) (hs : starEach (e :: es) X.env = (false, eval e X.env) :: starEach es X.env := by rfl) (hplain : (backTo cpos (starEach es X.env)).any (·.1) = false := by rfl) :
    PE X (.Call (.Attribute o name apos) (e :: es) [] cpos) (tBM X.K T r to t) := by
  intro pins s σ H Q I h
  refine wpAny_Call_method_late hbase hfew hline rfl (thn (ho pins s σ H _ I h) fun v s1 ⟨x, H1, I1, r1, ty, q1⟩ => ?_)
  obtain ⟨h1, h2⟩ := tyV_is I1 r1 ty
  refine ⟨T, id, pa, slot, hty, h1, h2, ?_⟩
  have hA := ha cpos pins s1 σ H1 _ I1 q1
  rw [hs] at hA ⊢
  refine Calls.callWith_builtin (by show (false || (backTo cpos (starEach es X.env)).any (·.1)) = false; rw [hplain] <;> rfl) (Calls.evalArgs_plain ?_)
  exact thn hA fun us s2 ⟨vs, H2, I2, r2, q2⟩ => hm pins s2 σ H2 x vs v us Q I2 r1 r2 q2
end
end L2

namespace L2
open PySem PySem.Spec PyProof.Rows

def MtM (X : Cx) (id : String) (r : V -> List V -> Hp -> VK -> Prop) : Prop :=
  ∀ (pins : List (Addr × Obj)) (s : Shared) (σ : St) (H : Hp) (x : V) (xs : List V) (v : Value) (us : List Value) (Q : VK), Inv X pins σ H s -> RelV x v -> Vals xs us -> r x xs H Q ->
    wpAny (model X.prog X.w) X.A (call (.builtin id) (v :: us)) (EP X pins σ Q) X.xe s

/-! ### lists of values -/
theorem Vals.one : ∀ {x : V} {us : List Value}, Vals [x] us -> ∃ u, us = [u] /\ RelV x u
  | _, _, .cons r .nil => ⟨_, rfl, r⟩
theorem Vals.two : ∀ {x y : V} {us : List Value}, Vals [x, y] us -> ∃ u v, us = [u, v] /\ RelV x u /\ RelV y v
  | _, _, _, .cons r (.cons q .nil) => ⟨_, _, rfl, r, q⟩
theorem Vals.zero : ∀ {us : List Value}, Vals [] us -> us = []
  | _, .nil => rfl
theorem Vals.dropLast {xs : List V} {us : List Value} (h : Vals xs us) : Vals xs.dropLast us.dropLast := by
  induction h with
  | nil => exact .nil
  | cons r t ih =>
    cases t with
    | nil => exact .nil
    | cons q t' => exact .cons r ih
theorem Vals.eraseIdx : ∀ {xs : List V} {us : List Value} (i : Nat), Vals xs us -> Vals (xs.eraseIdx i) (us.eraseIdx i)
  | _, _, _, .nil => .nil
  | _, _, 0, .cons _ t => t
  | _, _, i + 1, .cons r t => .cons r (Vals.eraseIdx i t)
theorem Vals.reverse {xs : List V} {us : List Value} (h : Vals xs us) : Vals xs.reverse us.reverse := by
  induction h with
  | nil => exact .nil
  | cons r t ih => rw [List.reverse_cons, List.reverse_cons]; exact Vals.append ih (.cons r .nil)
theorem len_erase {α : Type} : ∀ (l : List α) (i : Nat), (l.eraseIdx i).length <= l.length
  | [], _ => Nat.le_refl _
  | _ :: _, 0 => Nat.le_succ _
  | _ :: r, i + 1 => Nat.succ_le_succ (len_erase r i)
section
variable {X : Cx} {pins : List (Addr × Obj)} {σ : St} {H : Hp} {s : Shared} {l b : Addr} {xs ys zs : List V}

/-! ### the two steps: a tracked list is rewritten, a new list is laid -/
theorem Inv.lset {its its' : List Value} {n : Nat} {f : Array Value -> Array Value} {t' : Nat} (I : Inv X pins σ H s) (hH : H l = some (.lst xs))
    (e : s.heap.get? l = some { cls := .type "list", data := .seq its.toArray n }) (hf : f its.toArray = its'.toArray) (hv : Vals ys its') (hz : ys.length <= sizeLine) :
    Inv X pins σ (upd H l (.lst ys)) { s with heap := s.heap.update l (Obj.mapSeq f), toks := t' } := by
  have q := PySem.IsL.update e f
  rw [hf] at q
  refine I.write (x := l) (e := l) (by rw [hH]; exact trivial) (.inl rfl) (fun b' u hb hu => (Heap.get?_update_other s.heap (Obj.mapSeq f) (Ne.symm hb)).trans hu) ⟨_, q⟩ ?_
  exact ⟨hz, its', _, hv, q⟩
theorem Inv.lnew {its : List Value} {t' : Nat} (I : Inv X pins σ H s) (hv : Vals ys its) (hz : ys.length <= sizeLine) :
    Inv X pins σ (upd H s.heap.objs.size (.lst ys)) { s with heap := s.heap.push { cls := .type "list", data := .seq its.toArray }, toks := t' } :=
  I.laid (fun _ _ q => Heap.get?_push_of_some _ q) (Nat.le_refl _) ⟨hz, its, 0, hv, Heap.get?_push_size _ rfl⟩
theorem Inv.fresh (I : Inv X pins σ H s) : H s.heap.objs.size = none := I.hok.fresh (Nat.le_refl _)
theorem Inv.lstM (I : Inv X pins σ H s) (hH : H l = some (.lst xs)) : xs.length <= sizeLine /\ ∃ (its : List Value) (n : Nat), Vals xs its /\ xs.length = its.length /\ s.heap.get? l = some { cls := .type "list", data := .seq its.toArray n } := by
  obtain ⟨z, its, n, r, e⟩ := I.hok l _ hH
  exact ⟨z, its, n, r, r.length, e⟩

end

section
variable {X : Cx}

/-! ### methods -/
def rAppend : V -> List V -> Hp -> VK -> Prop := fun x vs H Q => ∃ l xs y, x = .ref l /\ vs = [y] /\ H l = some (.lst xs) /\ xs.length < sizeLine /\ Q .non (upd H l (.lst (xs ++ [y])))
theorem mt_append : MtM X "list.append" rAppend := by
  intro pins s σ H x vs v us Q I rx rv h
  obtain ⟨l, xs, y, rfl, rfl, hH, hz, q⟩ := h
  cases rx
  obtain ⟨u, rfl, ru⟩ := rv.one
  obtain ⟨z, its, n, r, hl, e⟩ := I.lstM hH
  refine call_meets F.slot_list_append ⟨_, e, rfl⟩ F.entry_list_append (F.args_list_append_2 _ _) (PySem.list_append l its.toArray n u (by rw [List.size_toArray]; omega)) ⟨e, ?_⟩
  refine ⟨.non, _, I.lset (its' := its ++ [u]) hH e (by simp) (r.append (.cons ru .nil)) ?_, rfl, q⟩
  rw [List.length_append, List.length_singleton]
  omega

def rExtend : V -> List V -> Hp -> VK -> Prop := fun x vs H Q => ∃ l b xs zs, x = .ref l /\ vs = [.ref b] /\ H l = some (.lst xs) /\ H b = some (.lst zs) /\ xs.length + zs.length <= sizeLine /\ Q .non (upd H l (.lst (xs ++ zs)))
def rPop : V -> List V -> Hp -> VK -> Prop := fun x vs H Q => ∃ l xs y, x = .ref l /\ vs = [] /\ H l = some (.lst xs) /\ xs[xs.length - 1]? = some y /\ Q y (upd H l (.lst xs.dropLast))
def rPopAt : V -> List V -> Hp -> VK -> Prop := fun x vs H Q => ∃ l xs i k y, x = .ref l /\ vs = [.int i] /\ H l = some (.lst xs) /\ -(2 ^ 63) <= i /\ i < 2 ^ 63 /\ seqIndex? i xs.length = some k /\ xs[k]? = some y /\ Q y (upd H l (.lst (xs.eraseIdx k)))
theorem mt_popAt : MtM X "list.pop" rPopAt := by
  intro pins s σ H x vs v us Q I rx rv h
  obtain ⟨l, xs, i, k, y, rfl, rfl, hH, h1, h2, hk, hy, q⟩ := h
  cases rx
  obtain ⟨u, rfl, ru⟩ := rv.one
  obtain ⟨t, rfl⟩ := ru
  obtain ⟨z, its, n, r, hl, e⟩ := I.lstM hH
  obtain ⟨w, hw, rw'⟩ := r.get hy
  refine call_meets F.slot_list_pop ⟨_, e, rfl⟩ F.entry_list_pop (F.args_list_pop_2 _ _)
    (MeetsSeq.list_pop_at l its.toArray n i t k w (fitsIndex_both h1 h2) (by rw [List.size_toArray, ← hl]; exact hk) (by rw [← Array.getElem?_toList]; exact hw) (by rw [List.size_toArray]; omega)) ⟨e, ?_⟩
  refine ⟨y, _, I.lset (its' := its.eraseIdx k) hH e ?_ (r.eraseIdx k) ?_, rw', q⟩
  · show its.toArray.eraseIdxIfInBounds k = (its.eraseIdx k).toArray
    rw [List.eraseIdxIfInBounds_toArray]
  · have := len_erase xs k
    omega

def rReverse : V -> List V -> Hp -> VK -> Prop := fun x vs H Q => ∃ l xs, x = .ref l /\ vs = [] /\ H l = some (.lst xs) /\ Q .non (upd H l (.lst xs.reverse))
def rClear : V -> List V -> Hp -> VK -> Prop := fun x vs H Q => ∃ l xs, x = .ref l /\ vs = [] /\ H l = some (.lst xs) /\ Q .non (upd H l (.lst []))
/-! ### list + list, list += list, list * int -/
def rCat : R2 := fun x y H Q => ∃ l b xs zs, x = .ref l /\ y = .ref b /\ H l = some (.lst xs) /\ H b = some (.lst zs) /\ xs.length + zs.length <= sizeLine /\ ∀ p, H p = none -> Q (.ref p) (upd H p (.lst (xs ++ zs)))
theorem op_cat : OpR X (binaryOp .Add) rCat := by
  intro pins s σ H x y v u Q I rx ry h
  obtain ⟨l, b, xs, zs, rfl, rfl, hH, hB, hz, q⟩ := h
  cases rx
  cases ry
  obtain ⟨z, its, n, r, hl, e⟩ := I.lstM hH
  obtain ⟨z2, its2, n2, r2, hl2, e2⟩ := I.lstM hB
  refine PySem.P.add_list e e2 ?_ (by rw [List.size_toArray, List.size_toArray]; omega)
  have ea : its.toArray ++ its2.toArray = (its ++ its2).toArray := by simp
  rw [ea]
  exact ⟨.ref _, _, I.lnew (t' := s.toks) (r.append r2) (by rw [List.length_append]; omega), rfl, q _ I.fresh⟩
def rRep : R2 := fun x y H Q => ∃ l k xs, x = .ref l /\ y = .int k /\ H l = some (.lst xs) /\ -(2 ^ 63) <= k /\ k < 2 ^ 63 /\ xs.length * k.toNat <= sizeLine /\
  ∀ p, H p = none -> Q (.ref p) (upd H p (.lst (List.replicate k.toNat xs).flatten))
/-! ### del xs[i] -/
end

/-! ### xs[a:b] = ys -/
section
variable {prog : Program} {w : World} {A : Around} {E : Value -> Shared -> Prop} {s : Shared}
end

section
variable {X : Cx}
end
end L2

namespace L2
open PySem PySem.Spec PyProof.Rows

/-! ### lists of pairs as tables -/
section
variable {κ : Type} [DecidableEq κ]
def valV (kvs : List (κ × V)) (k : κ) : Option V := (kvs.find? fun kv => decide (kv.1 = k)).map (·.2)
def putK (kvs : List (κ × V)) (k : κ) (v : V) : List (κ × V) :=
  if (kvs.any fun kv => decide (kv.1 = k)) = true then kvs.map (fun kv => if kv.1 = k then (kv.1, v) else kv) else kvs ++ [(k, v)]
def dropK (kvs : List (κ × V)) (k : κ) : List (κ × V) := kvs.filter fun kv => decide (kv.1 ≠ k)

theorem valV_nil {k : κ} : valV ([] : List (κ × V)) k = none := rfl
theorem valV_pos {p : κ × V} {r : List (κ × V)} {k : κ} (e : p.1 = k) : valV (p :: r) k = some p.2 := by simp [valV, List.find?_cons, e]
theorem valV_neg {p : κ × V} {r : List (κ × V)} {k : κ} (e : ¬ p.1 = k) : valV (p :: r) k = valV r k := by simp [valV, List.find?_cons, e]
theorem valV_any (k : κ) : ∀ kvs : List (κ × V), (kvs.any fun kv => decide (kv.1 = k)) = (valV kvs k).isSome
  | [] => rfl
  | p :: r => by
    rw [List.any_cons]
    by_cases e : p.1 = k
    · simp only [valV_pos e, decide_eq_true e, Bool.true_or, Option.isSome_some]
    · rw [valV_neg e, decide_eq_false e, Bool.false_or]; exact valV_any k r
theorem length_putK (kvs : List (κ × V)) (k : κ) (v : V) : (putK kvs k v).length <= kvs.length + 1 := by
  unfold putK
  split
  · rw [List.length_map]; omega
  · rw [List.length_append, List.length_cons, List.length_nil]; omega
theorem putK_new {kvs : List (κ × V)} {k : κ} (v : V) (h : valV kvs k = none) : putK kvs k v = kvs ++ [(k, v)] := by
  unfold putK
  rw [valV_any, h]
  exact if_neg (by decide)

theorem RelO.isSome_eq {o : Option V} {u : Option Value} (r : RelO o u) : o.isSome = u.isSome := by
  cases o with
  | none => cases u with
    | none => rfl
    | some _ => exact (show False from r).elim
  | some _ => cases u with
    | none => exact (show False from r).elim
    | some _ => rfl
theorem RelO.getD {o : Option V} {u : Option Value} {d : V} {d' : Value} (r : RelO o u) (rd : RelV d d') : RelV (o.getD d) (u.getD d') := by
  cases o with
  | none => cases u with
    | none => exact rd
    | some _ => exact (show False from r).elim
  | some _ => cases u with
    | none => exact (show False from r).elim
    | some _ => exact r

theorem KV.val {kvs : List (κ × V)} {vs : List (κ × Value)} (r : KV kvs vs) (k : κ) : RelO (valV kvs k) (valueAt vs k) := by
  unfold KV at r
  induction r with
  | nil => exact True.intro
  | @cons p q ps qs h t ih =>
    obtain ⟨h1, h2⟩ := h
    by_cases e : p.1 = k
    · have e' : q.1 = k := h1.symm.trans e
      have b : valueAt (q :: qs) k = some q.2 := by simp [valueAt, List.find?_cons, e']
      rw [valV_pos e, b]; exact h2
    · have e' : ¬ q.1 = k := fun z => e (h1.trans z)
      have b : valueAt (q :: qs) k = valueAt qs k := by simp [valueAt, List.find?_cons, e']
      rw [valV_neg e, b]; exact ih
theorem KV.any {kvs : List (κ × V)} {vs : List (κ × Value)} (r : KV kvs vs) (k : κ) : (kvs.any fun kv => decide (kv.1 = k)) = vs.any fun kv => decide (kv.1 = k) := by
  unfold KV at r
  induction r with
  | nil => rfl
  | cons h t ih => rw [List.any_cons, List.any_cons, ih, h.1]
theorem KV.repl {kvs : List (κ × V)} {vs : List (κ × Value)} (r : KV kvs vs) (k : κ) {y : V} {u : Value} (ry : RelV y u) :
    KV (kvs.map fun kv => if kv.1 = k then (kv.1, y) else kv) (vs.map fun kv => if kv.1 = k then (kv.1, u) else kv) := by
  unfold KV at r ⊢
  induction r with
  | nil => exact .nil
  | @cons p q ps qs h t ih =>
    rw [List.map_cons, List.map_cons]
    refine .cons ?_ ih
    obtain ⟨h1, h2⟩ := h
    by_cases e : p.1 = k
    · rw [if_pos e, if_pos (h1.symm.trans e)]; exact ⟨h1, ry⟩
    · rw [if_neg e, if_neg (fun z => e (h1.trans z))]; exact ⟨h1, h2⟩
theorem KV.put {kvs : List (κ × V)} {vs : List (κ × Value)} (r : KV kvs vs) (k : κ) {y : V} {u : Value} (ry : RelV y u) : KV (putK kvs k y) (stored vs k u) := by
  unfold putK stored
  rw [r.any k]
  by_cases e : (vs.any fun kv => decide (kv.1 = k)) = true
  · rw [if_pos e, if_pos e]; exact r.repl k ry
  · rw [if_neg e, if_neg e]; exact Paired.snoc r ⟨rfl, ry⟩
theorem KV.drop {kvs : List (κ × V)} {vs : List (κ × Value)} (r : KV kvs vs) (k : κ) : KV (dropK kvs k) (without vs k) := by
  unfold KV at r ⊢
  unfold dropK without
  induction r with
  | nil => exact .nil
  | @cons p q ps qs h t ih =>
    obtain ⟨h1, h2⟩ := h
    rw [List.filter_cons, List.filter_cons]
    by_cases e : p.1 = k
    · have a : ¬ decide (p.1 ≠ k) = true := by simp [e]
      have b : ¬ decide (q.1 ≠ k) = true := by simp [h1.symm.trans e]
      rw [if_neg a, if_neg b]; exact ih
    · have e' : ¬ q.1 = k := fun z => e (h1.trans z)
      have a : decide (p.1 ≠ k) = true := by simp [e]
      have b : decide (q.1 ≠ k) = true := by simp [e']
      rw [if_pos a, if_pos b]; exact .cons ⟨h1, h2⟩ ih
theorem KV.keys {kvs : List (κ × V)} {vs : List (κ × Value)} (r : KV kvs vs) : kvs.map (·.1) = vs.map (·.1) := by
  unfold KV at r
  induction r with
  | nil => rfl
  | cons h t ih => rw [List.map_cons, List.map_cons, ih, h.1]
theorem KV.length {kvs : List (κ × V)} {vs : List (κ × Value)} (r : KV kvs vs) : kvs.length = vs.length := Paired.length r
end


/-! ### a tracked dict, its keys ints and texts or tuples of these -/
theorem kV_is {P : Program} {w : World} {k : Key} {u : Value} (r : RelV (kV k) u) : (mixKind P w).is k u = true := by
  cases k with
  | inl i => obtain ⟨t, e⟩ := (show ∃ t, u = Value.int i t from r); subst e; exact mixKind_int P w i t
  | inr x => obtain ⟨t, e⟩ := (show ∃ t, u = Value.str x t from r); subst e; exact mixKind_str P w x t
theorem items_are {P : Program} {w : World} : ∀ {ks : List Key} {us : List Value}, Vals (ks.map kV) us -> ItemsAre (mixKind P w) ks us
  | [], _, r => by rw [List.map_nil] at r; cases r; exact .nil
  | k :: ks, _, r => by
    rw [List.map_cons] at r
    cases r with
    | cons h t => exact .cons (kV_is h) (items_are t)

abbrev KT (H : Hp) : List (List Key × V) -> List (List Key × Addr × Value) -> Prop := Paired fun p q => p.1 = q.1 /\ H q.2.1 = some (.tup (p.1.map kV)) /\ RelV p.2 q.2.2
theorem KT.val {H : Hp} {kvs : List (List Key × V)} {xs : List (List Key × Addr × Value)} (r : KT H kvs xs) (k : List Key) : RelO (valV kvs k) ((atKey xs k).map (·.2)) := by
  induction r with
  | nil => exact True.intro
  | @cons p q ps qs h t ih =>
    obtain ⟨h1, _, h2⟩ := h
    by_cases e : p.1 = k
    · have e' : q.1 = k := h1.symm.trans e
      have b : atKey (q :: qs) k = some q.2 := by simp [atKey, List.find?_cons, e']
      rw [valV_pos e, b]; exact h2
    · have e' : ¬ q.1 = k := fun z => e (h1.trans z)
      have b : atKey (q :: qs) k = atKey qs k := by simp [atKey, List.find?_cons, e']
      rw [valV_neg e, b]; exact ih
theorem KT.repl {H : Hp} {kvs : List (List Key × V)} {xs : List (List Key × Addr × Value)} (r : KT H kvs xs) (k : List Key) {y : V} {u : Value} (ry : RelV y u) :
    KT H (kvs.map fun kv => if kv.1 = k then (kv.1, y) else kv) (xs.map (putAt k u)) := by
  induction r with
  | nil => exact .nil
  | @cons p q ps qs h t ih =>
    rw [List.map_cons, List.map_cons]
    refine .cons ?_ ih
    obtain ⟨h1, h2, h3⟩ := h
    unfold putAt
    by_cases e : p.1 = k
    · rw [if_pos e, if_pos (h1.symm.trans e)]; exact ⟨h1, h2, ry⟩
    · rw [if_neg e, if_neg (fun z => e (h1.trans z))]; exact ⟨h1, h2, h3⟩
theorem KT.put {H : Hp} {kvs : List (List Key × V)} {xs : List (List Key × Addr × Value)} (r : KT H kvs xs) (k : List Key) {b : Addr} {y : V} {u : Value} (hb : H b = some (.tup (k.map kV))) (ry : RelV y u) :
    KT H (putK kvs k y) (storedH xs k b u) := by
  have e : (kvs.any fun kv => decide (kv.1 = k)) = (atKey xs k).isSome := by
    rw [valV_any, (r.val k).isSome_eq, Option.isSome_map]
  unfold putK storedH
  rw [e]
  by_cases q : (atKey xs k).isSome = true
  · rw [if_pos q, if_pos q]; exact r.repl k ry
  · rw [if_neg q, if_neg q]; exact Paired.snoc r ⟨rfl, hb, ry⟩
theorem KT.keeps {H H' : Hp} {kvs : List (List Key × V)} {xs : List (List Key × Addr × Value)} (r : KT H kvs xs) (ht : ∀ b ys, H b = some (.tup ys) -> H' b = some (.tup ys)) : KT H' kvs xs :=
  Paired.mapP r fun _ _ z => ⟨z.1, ht _ _ z.2.1, z.2.2⟩

section
variable {P : Program} {w : World} {H : Hp} {h : Heap} {a : Addr}
theorem rd_of {u : HO} (ok : HOk P w H h) (e : Rd H a u) : ObjOk P w H h a u := e.ok ok
theorem dk_rd {kvs : List (Key × V)} (ok : HOk P w H h) (e : Rd H a (.dK kvs)) : kvs.length <= sizeLine /\ (a == sysModules) = false /\ ∃ vs, KV kvs vs /\ h.DictOf (mixKind P w) a vs :=
  show ObjOk P w H h a (.dK kvs) from rd_of ok e
theorem dk_of {kvs : List (Key × V)} (ok : HOk P w H h) (e : H a = some (.dK kvs)) : kvs.length <= sizeLine /\ (a == sysModules) = false /\ ∃ vs, KV kvs vs /\ h.DictOf (mixKind P w) a vs := dk_rd ok (.inl e)
theorem key_of {ks : List Key} (ok : HOk P w H h) (e : H a = some (.tup (ks.map kV))) : (tupleKind (mixKind P w)).is h ks a := by
  obtain ⟨_, its, r, o, h1, h2, n, h3⟩ := (show ObjOk P w H h a (.tup (ks.map kV)) from ok a _ e)
  exact ⟨o, its.toArray, n, h1, h2, h3, by simpa using items_are r⟩
theorem dt_rd {kvs : List (List Key × V)} (ok : HOk P w H h) (e : Rd H a (.dT kvs)) : kvs.length <= sizeLine /\ (a == sysModules) = false /\
    ∃ xs, KT H kvs xs /\ h.DictOfH (tupleKind (mixKind P w)) a xs := by
  obtain ⟨z, y, xs, r, o, es, ep, h1, h2, h3, h4, h5⟩ := (show ObjOk P w H h a (.dT kvs) from rd_of ok e)
  refine ⟨z, y, xs, r, o, es, ep, h1, h2, h3, h4, fun x hx => ?_, h5⟩
  have all : ∀ {l : List (List Key × V)} {m : List (List Key × Addr × Value)}, KT H l m -> ∀ x ∈ m, (tupleKind (mixKind P w)).is h x.1 x.2.1 := by
    intro l m q
    induction q with
    | nil => intro x hx; exact nomatch hx
    | @cons p q ps qs hq t ih =>
      intro x hx
      rcases List.mem_cons.mp hx with e | hx
      · subst e
        exact key_of ok (by rw [← hq.1]; exact hq.2.1)
      · exact ih x hx
  exact all r x hx
end

def DGet (H : Hp) (a : Addr) (y : V) (r : Option V) : Prop :=
  (∃ kvs k, Rd H a (.dK kvs) /\ y = kV k /\ r = valV kvs k) \/ ∃ kvs k b, Rd H a (.dT kvs) /\ y = .ref b /\ H b = some (.tup (k.map kV)) /\ r = valV kvs k
def DPut (H : Hp) (a : Addr) (y v : V) (H' : Hp) : Prop :=
  (∃ kvs k, H a = some (.dK kvs) /\ y = kV k /\ kvs.length < sizeLine /\ H' = upd H a (.dK (putK kvs k v))) \/
  ∃ kvs k b, H a = some (.dT kvs) /\ y = .ref b /\ H b = some (.tup (k.map kV)) /\ kvs.length < sizeLine /\ H' = upd H a (.dT (putK kvs k v))
theorem DGet.k {H : Hp} {a : Addr} {kvs : List (Key × V)} {k : Key} (e : H a = some (.dK kvs)) : DGet H a (kV k) (valV kvs k) := .inl ⟨kvs, k, .inl e, rfl, rfl⟩
theorem DGet.t {H : Hp} {a b : Addr} {kvs : List (List Key × V)} {k : List Key} (e : H a = some (.dT kvs)) (eb : H b = some (.tup (k.map kV))) : DGet H a (.ref b) (valV kvs k) := .inr ⟨kvs, k, b, .inl e, rfl, eb, rfl⟩
theorem DPut.k {H : Hp} {a : Addr} {kvs : List (Key × V)} {k : Key} {v : V} (e : H a = some (.dK kvs)) (hl : kvs.length < sizeLine) : DPut H a (kV k) v (upd H a (.dK (putK kvs k v))) := .inl ⟨kvs, k, e, rfl, hl, rfl⟩
theorem DPut.t {H : Hp} {a b : Addr} {kvs : List (List Key × V)} {k : List Key} {v : V} (e : H a = some (.dT kvs)) (eb : H b = some (.tup (k.map kV))) (hl : kvs.length < sizeLine) :
    DPut H a (.ref b) v (upd H a (.dT (putK kvs k v))) := .inr ⟨kvs, k, b, e, rfl, eb, hl, rfl⟩


section
variable {X : Cx} {pins : List (Addr × Obj)} {σ : St} {H : Hp} {s : Shared} {a : Addr} {y v : V} {u r : Value} {o : Option V} {A : Around} {E : Value -> Shared -> Prop}

theorem Inv.big (I : Inv X pins σ H s) : sysModules < s.heap.objs.size := by
  have h : mainGlobals < s.heap.objs.size := (I.mod.glob.keeps I.bk).lt
  exact Nat.lt_trans (by decide) h

theorem d_getItem {Q : Value -> Shared -> Prop} (hu : A.units + 1 < cLine) (I : Inv X pins σ H s) (g : DGet H a y (some v)) (ry : RelV y u) (h : ∀ w' s', Inv X pins σ H s' -> RelV v w' -> Q w' s') :
    wpAny (model X.prog X.w) A (getItem (.ref a) u) Q E s := by
  rcases g with ⟨kvs, k, e, ey, l⟩ | ⟨kvs, k, b, e, ey, eb, l⟩
  · subst ey
    obtain ⟨z, hd, vs, rel, dd⟩ := dk_rd I.hok e
    obtain ⟨w', hw, rw'⟩ := RelO.some_of (v := v) (o := valueAt vs k) (by rw [l]; exact rel.val k)
    exact wpAny_getItem_of (kV_is ry) dd.mapOf hw (h w' _ (I.tok _) rw')
  · subst ey
    cases (show u = Value.ref b from ry)
    obtain ⟨z, hd, xs, rel, dd⟩ := dt_rd I.hok e
    obtain ⟨w', hw, rw'⟩ := RelO.some_of (v := v) (o := (atKey xs k).map (·.2)) (by rw [l]; exact rel.val k)
    obtain ⟨p, hp, hp2⟩ := Option.map_eq_some_iff.mp hw
    refine wpAny_getItem_heap (tupleKind_room_in1 hu) (key_of I.hok eb) dd hp ?_
    rw [hp2]
    exact h w' _ (I.tok _) rw'
theorem d_write {h' : Heap} {t' : Nat} {ob : HO} (I : Inv X pins σ H s) (mu : Mut (H a)) (hs : Heap.SameBut a s.heap h') (he : ∃ q, h'.get? a = some q) (new : ObjOk X.prog X.w (upd H a ob) h' a ob) :
    Inv X pins σ (upd H a ob) { s with heap := h', toks := t' } :=
  I.write (x := a) (e := a) mu (.inl rfl) (fun b q hb z => (hs.2 b hb).trans z) he new
theorem dk_new {P : Program} {w : World} {H' : Hp} {h' : Heap} {kvs : List (Key × V)} {vs : List (Key × Value)} (z : kvs.length <= sizeLine) (hd : (a == sysModules) = false) (rel : KV kvs vs) (dd : h'.DictOf (mixKind P w) a vs) :
    ObjOk P w H' h' a (.dK kvs) := ⟨z, hd, vs, rel, dd⟩
end

section
variable {X : Cx} {pins : List (Addr × Obj)} {σ : St} {H : Hp} {s : Shared} {a : Addr} {kvs : List (Key × V)} {k : Key} {u : Value} {A : Around} {E : Value -> Shared -> Prop}
end


/-! ### readings and rules -/
def NoSl (i : Expr) : Prop := ∀ ov iv, subscripted i false ov iv = operate [ov, iv] (getItem ov iv)
theorem subD_of {prog : Program} {w : World} {A : Around} {E : Value -> Shared -> Prop} {s : Shared} {env : Env} {value slice : Expr} {pos : Pos} {T id : String} {Q : Value -> Shared -> Prop}
    (hl : typeLookup (.type T) "__getitem__" = pure (some (.builtin id))) (hs : NoSl slice)
    (h : wpAny (model prog w) A (eval value env) (fun o s₁ => wpAny (model prog w) A (eval slice env) (fun i s₂ => s₂.TypeIs o T /\ wpAny (model prog w) A (getItem o i) Q E s₂) E s₁) E s) :
    wpAny (model prog w) A (eval (.Subscript value slice pos) env) Q E s := by
  refine Subscript_ (wpAny_mono h (fun o s₁ h₁ => wpAny_mono h₁ (fun i s₂ h₂ => ?_) fun _ _ x => x) fun _ _ x => x)
  obtain ⟨hT, h₂⟩ := h₂
  unfold subscriptTail
  refine wpAny_bind ?_
  rw [getitemInPython_of_ne hT.not_modules]
  refine wpAny_bind (wpAny_specialOf hT hl ?_)
  have fin : wpAny (model prog w) A (subscripted slice false o i) (fun r s₃ => wpAny (model prog w) A (letTemporaryGo value o r >>= fun _ => pure r) Q E s₃) E s₂ := by
    rw [hs o i]
    exact wpAny_operating (wpAny_mono h₂ (fun r s₃ h₃ => wpAny_bind (wpAny_letTemporaryGo (wpAny_pure h₃))) fun _ _ x => x)
  first
    | exact wpAny_pure (wpAny_bind fin)
    | exact wpAny_bind (wpAny_pure (wpAny_bind fin))
    | exact wpAny_bind fin

theorem dict_typeIs {X : Cx} {pins : List (Addr × Obj)} {σ : St} {H : Hp} {s : Shared} {a : Addr} {y : V} {o : Option V} (I : Inv X pins σ H s) (g : DGet H a y o) : s.TypeIs (.ref a) "dict" := by
  rcases g with ⟨kvs, k, e, _, _⟩ | ⟨kvs, k, b, e, _, _, _⟩
  · obtain ⟨_, _, vs, _, dd⟩ := dk_rd I.hok e
    exact dd.typeIs
  · obtain ⟨_, _, xs, _, dd⟩ := dt_rd I.hok e
    exact dd.typeIs
def tDGet (td ty : TE) : TE := fun σ H Q => td σ H fun x H1 => ty σ H1 fun y H2 => ∃ a v, x = .ref a /\ DGet H2 a y (some v) /\ Q v H2
def tDIn (ty td : TE) : TE := fun σ H Q => ty σ H fun y H1 => td σ H1 fun x H2 => ∃ a o, x = .ref a /\ DGet H2 a y o /\ Q (.bl o.isSome) H2
def tDNotIn (ty td : TE) : TE := fun σ H Q => ty σ H fun y H1 => td σ H1 fun x H2 => ∃ a o, x = .ref a /\ DGet H2 a y o /\ Q (.bl (!o.isSome)) H2
def sDPut (td ty tv : TE) : TS := fun D σ H => tv σ H fun v H1 => td σ H1 fun x H2 => ty σ H2 fun y H3 => ∃ a H4, x = .ref a /\ DPut H3 a y v H4 /\ D.nx σ H4
def sDAug (td ty tv : TE) (rd : V -> V -> Hp -> VK -> Prop) : TS := fun D σ H => td σ H fun x H1 => ty σ H1 fun y H2 => ∃ a v, x = .ref a /\ DGet H2 a y (some v) /\
  tv σ H2 fun y2 H3 => rd v y2 H3 fun z H4 => ∃ H5, DPut H4 a y z H5 /\ D.nx σ H5
def sDDel (td ty : TE) : TS := fun D σ H => td σ H fun x H1 => ty σ H1 fun y H2 => ∃ a kvs k, x = .ref a /\ H2 a = some (.dK kvs) /\ y = kV k /\ (valV kvs k).isSome = true /\ D.nx σ (upd H2 a (.dK (dropK kvs k)))

section
variable {X : Cx} {o i e value : Expr} {pos pos' tpos : Pos} {td ty tv : TE}
theorem pe_dget (hu : X.A.units + 1 < cLine) (ho : PE X o td) (hi : PE X i ty) (hs : NoSl i) : PE X (.Subscript o i pos) (tDGet td ty) := by
  intro pins s σ H Q I h
  refine subD_of PySem.F.slot_dict_getitem.lookup hs (thn (ho pins s σ H _ I h) fun u s1 ⟨x, H1, I1, rx, q1⟩ => thn (hi pins s1 σ H1 _ I1 q1) fun iv s2 ⟨y, H2, I2, ry, a, v, ex, g, q2⟩ => ?_)
  subst ex
  obtain rfl : u = Value.ref a := rx
  exact ⟨dict_typeIs I2 g, d_getItem hu I2 g ry fun w' s3 I3 rw' => ⟨v, H2, I3, rw', q2⟩⟩
end


/-! ### displays -/
theorem dk_empty {P : Program} {w : World} {H : Hp} (h : Heap) (hb : sysModules < h.objs.size) : ObjOk P w H (h.push { cls := .type "dict", data := .dict #[] }) h.objs.size (.dK []) :=
  ⟨Nat.zero_le _, beq_eq_false_iff_ne.mpr (Ne.symm (Nat.ne_of_lt hb)), [], .nil, Heap.DictOf.new h⟩
def tDNewK : TE := fun _ H Q => ∀ p, H p = none -> Q (.ref p) (upd H p (.dK []))
def tDNewT : TE := fun _ H Q => ∀ p, H p = none -> Q (.ref p) (upd H p (.dT []))
section
variable {X : Cx} {pos : Pos}
end

def tPairs : List (TE × TE) -> St -> Hp -> (List (V × V) -> Hp -> Prop) -> Prop
  | [], _, H, Q => Q [] H
  | (tk, tv) :: r, σ, H, Q => tk σ H fun x H1 => tv σ H1 fun y H2 => tPairs r σ H2 fun ps H3 => Q ((x, y) :: ps) H3
abbrev VV : List (V × V) -> List (Value × Value) -> Prop := Paired fun p q => RelV p.1 q.1 /\ RelV p.2 q.2
def PPs (X : Cx) (pos : Pos) (keys : List (Option Expr)) (values : List Expr) (trs : List (TE × TE)) : Prop :=
  ∀ (pins : List (Addr × Obj)) (s : Shared) (σ : St) (H : Hp) (Q : List (V × V) -> Hp -> Prop), Inv X pins σ H s -> tPairs trs σ H Q ->
    wpAny (model X.prog X.w) X.A (evalPairs (pairTrees keys values X.env pos)) (fun vs s' => ∃ ps H', Inv X pins σ H' s' /\ VV ps vs /\ Q ps H') X.xe s
theorem pps_nil {X : Cx} {pos : Pos} : PPs X pos [] [] [] := fun pins s σ H Q I h => pairTrees_nil_walk ⟨[], H, I, .nil, h⟩
theorem pps_cons {X : Cx} {pos : Pos} {k v : Expr} {ks : List (Option Expr)} {vs : List Expr} {tk tv : TE} {trs : List (TE × TE)} (hk : PE X k tk) (hv : PE X v tv) (hr : PPs X pos ks vs trs) :
    PPs X pos (some k :: ks) (v :: vs) ((tk, tv) :: trs) := fun pins s σ H Q I h =>
  pairTrees_cons_walk (thn (hk pins s σ H _ I h) fun u s1 ⟨x, H1, I1, rx, q1⟩ => thn (hv pins s1 σ H1 _ I1 q1) fun w2 s2 ⟨y, H2, I2, ry, q2⟩ =>
    thn (hr pins s2 σ H2 _ I2 q2) fun ws s3 ⟨ps, H3, I3, rel, q3⟩ => ⟨(x, y) :: ps, H3, I3, .cons ⟨rx, ry⟩ rel, q3⟩)

def mergeK (kvs more : List (Key × V)) : List (Key × V) := more.foldl (fun acc kv => putK acc kv.1 kv.2) kvs
theorem KV.merge : ∀ {more : List (Key × V)} {rs : List (Key × Value)} {kvs : List (Key × V)} {vs : List (Key × Value)}, KV more rs -> KV kvs vs -> KV (mergeK kvs more) (merged vs rs) := by
  intro more rs kvs vs r
  unfold KV at r
  induction r generalizing kvs vs with
  | nil => intro q; exact q
  | @cons p q ps qs h t ih =>
    intro r0
    have e : KV (putK kvs p.1 p.2) (stored vs q.1 q.2) := by
      have := r0.put p.1 h.2
      rw [← h.1]; exact this
    exact ih e
theorem length_mergeK : ∀ (more kvs : List (Key × V)), (mergeK kvs more).length <= kvs.length + more.length
  | [], kvs => by show kvs.length <= kvs.length + 0; omega
  | p :: r, kvs => by
    have h1 := length_mergeK r (putK kvs p.1 p.2)
    have h2 := length_putK kvs p.1 p.2
    show (mergeK (putK kvs p.1 p.2) r).length <= _
    rw [List.length_cons]; omega
theorem carries_of {P : Program} {w : World} : ∀ {kvs : List (Key × V)} {ws : List (Value × Value)}, VV (kvs.map fun kv => (kV kv.1, kv.2)) ws -> ∃ rs, Carries (mixKind P w) ws rs /\ KV kvs rs
  | [], _, r => by rw [List.map_nil] at r; cases r; exact ⟨[], True.intro, .nil⟩
  | p :: kvs, _, r => by
    rw [List.map_cons] at r
    cases r with
    | @cons a b as bs h t =>
      obtain ⟨rs, c, q⟩ := carries_of (P := P) (w := w) t
      obtain ⟨b1, b2⟩ := b
      exact ⟨(p.1, b2) :: rs, ⟨kV_is h.1, rfl, c⟩, .cons ⟨rfl, h.2⟩ q⟩
def tDisp (trs : List (TE × TE)) : TE := fun σ H Q => ∀ p, H p = none -> tPairs trs σ (upd H p (.dK [])) fun ps H2 => H2 p = some (.dK []) /\ ∃ kvs : List (Key × V), ps = kvs.map (fun kv => (kV kv.1, kv.2)) /\ kvs.length <= 15 /\ Q (.ref p) (upd H2 p (.dK (mergeK [] kvs)))
theorem pe_disp {X : Cx} {pos : Pos} {keys : List (Option Expr)} {values : List Expr} {trs : List (TE × TE)} (h : PPs X pos keys values trs) (hall : keys.all (·.isSome) = true) (hl : keys.length = values.length) (h0 : keys ≠ [])
    (h15 : keys.length <= 15) : PE X (.Dict keys values pos) (tDisp trs) := by
  intro pins s σ H Q I q
  have hn := I.hok.fresh (Nat.le_refl s.heap.objs.size)
  have I1 := I.laid (a := s.heap.objs.size) (o := .dK []) (h' := s.heap.push { cls := .type "dict", data := .dict #[] }) (t' := s.toks) (fun _ _ q => Heap.get?_push_of_some _ q) (Nat.le_refl _) (dk_empty s.heap I.big)
  refine wpAny_Dict_walk (knd := mixKind X.prog X.w) hall hl h0 h15 (thn (h pins _ σ _ _ I1 (q _ hn)) fun ws s2 ⟨ps, H2, I2, rel, e, kvs, ep, lk, q2⟩ => ?_)
  subst ep
  obtain ⟨rs, c, rk⟩ := carries_of (P := X.prog) (w := X.w) rel
  obtain ⟨z, hd, vs0, r0, dd⟩ := dk_of I2.hok e
  cases r0
  refine ⟨rs, c, dd, fun h' dd' hs => ⟨.ref s.heap.objs.size, _, ?_, rfl, q2⟩⟩
  have hz : (mergeK [] kvs).length <= sizeLine := by
    have h1 := length_mergeK kvs []
    rw [List.length_nil] at h1
    rw [sizeLine_eq]; omega
  have he : ∃ q, h'.get? s.heap.objs.size = some q := let ⟨q, _, _, hq, _⟩ := dd'; ⟨q, hq⟩
  exact d_write I2 (by rw [e]; exact True.intro) hs he (dk_new hz hd (rk.merge .nil) dd')


/-! ### methods -/
structure M1 (X : Cx) (o : Expr) (m : Str) (apos : Pos) (e : Expr) (cpos : Pos) : Prop where
  base : attributeBase o m X.env (eval o X.env) = eval o X.env
  few : ((backTo cpos (starEach [e] X.env)).all (fun x => !x.1) && (backToKw cpos (keywordEach [] X.env)).all (fun x => x.1.isSome)
    && decide (([e] : List Expr).length + ([] : List Keyword).length + (if ([] : List Keyword).isEmpty then 0 else 1) < 30)) = true
  line : (apos.endLine == cpos.line) = true
  trees : backTo cpos (starEach [e] X.env) = [(false, eval e X.env)]
structure M2 (X : Cx) (o : Expr) (m : Str) (apos : Pos) (e f : Expr) (cpos : Pos) : Prop where
  base : attributeBase o m X.env (eval o X.env) = eval o X.env
  few : ((backTo cpos (starEach [e, f] X.env)).all (fun x => !x.1) && (backToKw cpos (keywordEach [] X.env)).all (fun x => x.1.isSome)
    && decide (([e, f] : List Expr).length + ([] : List Keyword).length + (if ([] : List Keyword).isEmpty then 0 else 1) < 30)) = true
  line : (apos.endLine == cpos.line) = true
  trees : backTo cpos (starEach [e, f] X.env) = [(false, eval e X.env), (false, eval f X.env)]

def IsD (H : Hp) (a : Addr) : Prop := (∃ kvs, Rd H a (.dK kvs)) \/ ∃ kvs, Rd H a (.dT kvs)
section
variable {X : Cx} {pins : List (Addr × Obj)} {σ : St} {H : Hp} {s : Shared} {a : Addr} {y d : V} {u r : Value} {o : Option V} {A : Around} {E : Value -> Shared -> Prop}
end

def tDGet1 (td ty : TE) : TE := fun σ H Q => td σ H fun x H1 => ∃ a, x = .ref a /\ IsD H1 a /\ ty σ H1 fun y H2 => ∃ o, DGet H2 a y o /\ Q (o.getD .non) H2
def tDGet2 (td ty tx : TE) : TE := fun σ H Q => td σ H fun x H1 => ∃ a, x = .ref a /\ IsD H1 a /\ ty σ H1 fun y H2 => tx σ H2 fun z H3 => ∃ o, DGet H3 a y o /\ Q (o.getD z) H3
def tDPop1 (td ty : TE) : TE := fun σ H Q => td σ H fun x H1 => ∃ a, x = .ref a /\ IsD H1 a /\ ty σ H1 fun y H2 => ∃ kvs k v, H2 a = some (.dK kvs) /\ y = kV k /\ valV kvs k = some v /\ Q v (upd H2 a (.dK (dropK kvs k)))
def tDPop2 (td ty tx : TE) : TE := fun σ H Q => td σ H fun x H1 => ∃ a, x = .ref a /\ IsD H1 a /\ ty σ H1 fun y H2 => tx σ H2 fun z H3 => ∃ kvs k, H3 a = some (.dK kvs) /\ y = kV k /\
  (∀ v, valV kvs k = some v -> Q v (upd H3 a (.dK (dropK kvs k)))) /\ (valV kvs k = none -> Q z H3)
section
variable {X : Cx} {o e f : Expr} {apos cpos : Pos} {td ty tx : TE}
end

/-! ### dict(d): a copy -/
section
variable {X : Cx} {pins : List (Addr × Obj)} {σ : St} {H : Hp} {s : Shared} {a : Addr} {kvs : List (Key × V)} {A : Around} {E : Value -> Shared -> Prop}
end


section
variable {X : Cx} {pins : List (Addr × Obj)} {σ : St} {H : Hp} {s : Shared} {a : Addr} {y : V} {u : Value} {A : Around} {E : Value -> Shared -> Prop}
end
end L2

namespace Att
open PySem PySem.W PySem.Calls PyProof.Rows

/-! ### the script -/
theorem ints_of_wellAll {P : Params} {h : Heap} : ∀ (ns : List Int) (vs : List Value), WellAll P h vs (ns.map WData.int) -> IntsAre vs ns := by
  intro ns
  induction ns with
  | nil =>
    intro vs w
    rw [List.map_nil] at w
    cases w
    exact .nil
  | cons n ns ih =>
    intro vs w
    rw [List.map_cons] at w
    cases w with
    | cons a b =>
      cases a
      exact .cons _ _ (ih _ b)

theorem script_of {l : OpenLaw} {n : Nat} (hn : l.most = some n) {P : Params} {h : Heap} {args : List WData} {vals : List Value}
    (hpre : l.row.toRowW.claim.pre args = true) (hwl : WellAll P h vals args) :
    ∃ a vs ns, vals = [Value.ref a] /\ args = [WData.list (ns.map WData.int)] /\ h.get? a = some { cls := .type "list", data := .seq vs.toArray } /\ IntsAre vs ns /\ ns.length <= n := by
  have hsh : WShape.hasAll [] args [.list .int] = true := (pre_splitW hpre).1
  have hc : l.pre.holds [] { args := args } = true := (pre_splitW hpre).2
  obtain ⟨d, r, rfl, h1, h2⟩ := hasAllW_cons hsh
  obtain rfl := hasAllW_nil h2
  obtain ⟨xs, rfl, h3⟩ := hasW_list h1
  obtain ⟨ns, rfl⟩ := items_int h3
  have hlen : ns.length <= n := by
    unfold OpenLaw.pre at hc
    have h4 : (WTm.not (.lt (.lit (.int (n : Int))) (.len (.arg 0)))).holds [] { args := [.list (ns.map .int)] } = true := by
      have h4 := (holds_andW hc).1
      rw [hn] at h4
      exact h4
    have h5 := condW_of h4 (w_not (w_lt w_lit (w_len_list (w_arg rfl))))
    rw [List.length_map] at h5
    refine Nat.le_of_not_lt fun q => ?_
    have q' : (n : Int) < ((ns.length : Nat) : Int) := by omega
    first
      | (rw [decide_eq_true q'] at h5; exact absurd h5 (by decide))
      | (simp at h5; omega)
  cases hwl with
  | cons w1 w2 =>
    cases w2
    cases w1 with
    | list ho hall => exact ⟨_, _, ns, rfl, rfl, ho, ints_of_wellAll ns _ hall, hlen⟩

theorem post_true (l : OpenLaw) (args : List WData) : l.row.toRowW.claim.post args (.bool true) args = true :=
  postW_of (r := l.row.toRowW) (X := (true == true))
    (show WShape.has [] (.bool true) .bool = true by first | rfl | decide | simp [WShape.has, WShape.arms, WShape.armsAll])
    (show (WTm.eq .res (.lit (.bool true))).value [] { args := args, res := some (.bool true), after := args } = some (.bool (true == true)) from w_eq_bool (w_res rfl) w_lit) rfl

/-! ### the attachment: holds_open's last premise (the goal 'hc' behind k_head) from a wpAny of the law's body -/
theorem attach_call {l : OpenLaw} {n : Nat} {q : Program} {loose : List Str} {XP : (Str -> Option Value) -> Heap -> Prop} {YP : World -> Heap -> Prop} {d : DefRec}
    (hn : l.most = some n) (hdf : d.params.defaults = [])
    (call : ∀ (w : World) (s₀ s₁ : Shared) (mg mb : Str -> Option Value) (fa : Addr) (o : Obj) (pm cd doc : Value) (a : Addr) (vs : List Value) (ns : List Int),
      Ground q loose [] XP w s₀ mg mb s₁.heap -> YP w s₁.heap ->
      s₁.heap.get? fa = some o -> o.data = .func (docDef d.name d.params d.body d.scope pm cd doc) -> s₁.heap.CodeRec cd d.name -> mg d.name = some (.ref fa) ->
      s₁.heap.get? a = some { cls := .type "list", data := .seq vs.toArray } -> IntsAre vs ns -> ns.length <= n -> s₁.gens = #[] ->
      codeAny (model l.prog w) callerA (.call (.ref fa) ⟨[.ref a], []⟩) (fun r s' => r = .ok (.ret (.bool true)) /\ OldK s₁.heap s'.heap /\ s'.os = s₁.os /\ AllBare s'.gens) s₁) :
    WalkO q loose XP YP l.row.toRowW d [] (fun f vs => PySem.call f vs) := by
  intro w s₀ s₁ mg mb G Y fa o pm cd doc dV kV ho hd hcd hD hmg hg args vals as hpre hlay hrd hwl hlo
  obtain rfl : dV = .none := Dflts.none hD hdf
  obtain rfl : kV = .none := Dflts.noKw hD
  obtain ⟨a, vs, ns, rfl, rfl, hobj, hints, hlen⟩ := script_of hn hpre hwl
  refine enter_call (codeAny_mono (call w s₀ s₁ mg mb fa o pm cd doc a vs ns G Y ho (fd_plain hd) hcd hmg hobj hints hlen hg) fun r s' hq => ?_)
  obtain ⟨rfl, h2, h3, h4⟩ := hq
  exact ⟨.inl ⟨.bool true, .bool true, [], rfl, fun _ => rfl, .bool true, post_true l _, fun _ => ⟨List.Pairwise.nil, fun _ hm => (nomatch hm)⟩⟩, h2, h3, h4⟩

/-! ### rules over ANY heap (no ledger) from facts about the written part K: the library's own take a ledger (News) for what they write -/
section
variable {prog : Program} {w : World} {A : Around} {E : Value -> Shared -> Prop} {s : Shared} {K : Frag}

/-! the whole heap as the ledger: makes every rule that writes through a ledger a rule over any heap -/
def noObjs (h : Heap) : Heap := { h with objs := #[] }
def ledger (h : Heap) (L d : Addr) : List (Addr × Obj) := (List.range h.objs.size).filterMap fun a => if a = L \/ a = d then none else (h.get? a).map fun o => (a, o)
end
end Att

namespace L2
open PySem PySem.Spec PyProof.Rows

theorem vals_ints : ∀ {vs : List Value} {ns : List Int}, IntsAre vs ns -> Vals (ns.map V.int) vs
  | _, _, .nil => .nil
  | _, _, .cons n t h => .cons ⟨t, rfl⟩ (vals_ints h)

def Only (H : Hp) : Prop := ∀ b, H b = none \/ ∃ o xs, H b = some (.frz o (.lst xs))

theorem law_call {P : Program} {w : World} {K : PySem.W.Frag} {mg mb : Str -> Option Value} {CX : CXT} {k : Nat} {fa a : Addr} {fd : FuncData} {x : Str} {sp : Sp} {s₁ : Shared} {vs : List Value} {ns : List Int}
    (KX : K.In s₁.heap) (hns : s₁.heap.Ns mainGlobals mg) (hb : s₁.heap.Ns builtinsNs mb) (hbb : ∀ x : Str, x ≠ "__name__" -> mb x = bootBuiltins x) (hlim : s₁.heap.NoLimit) (hg : s₁.gens = #[])
    (ha : s₁.heap.get? a = some { cls := .type "list", data := .seq vs.toArray }) (hi : IntsAre vs ns) (hl : ns.length <= sizeLine) (hr : Room k callerA)
    (F : ∀ base : Heap, K.In base -> base.Ns mainGlobals mg -> FnOk P w K mg base CX k fa fd [x] sp) (hbind : ∀ (s : Shared) (u : Value), BindsTo s fd ⟨[u], []⟩ [(x, u)])
    (hsp : ∀ H : Hp, Only H -> SqL K H a (ns.map V.int) -> sp [.ref a] H (fun v _ => v = .bl true) fun _ _ _ => False)
    (hCX : ∀ H e s', CX [] H s₁ (fun _ _ _ => False) e s' -> False) :
    codeAny (model P w) callerA (.call (.ref fa) ⟨[.ref a], []⟩) (fun r s' => r = .ok (.ret (.bool true)) /\ OldK s₁.heap s'.heap /\ s'.os = s₁.os /\ AllBare s'.gens) s₁ := by
  have rv := vals_ints hi
  have lenV := hi.length
  have core : ∀ H : Hp, Only H -> SqL K H a (ns.map V.int) -> HOk P w H s₁.heap -> (∀ b, H b ≠ none -> b = a) -> (H a ≠ none -> K.lookup a = none) ->
      codeAny (model P w) callerA (.call (.ref fa) ⟨[.ref a], []⟩) (fun r s' => r = .ok (.ret (.bool true)) /\ OldK s₁.heap s'.heap /\ s'.os = s₁.os /\ AllBare s'.gens) s₁ := by
    intro H hO hS hok hA hK
    have base_of : ∀ {b : Addr} {o : Obj}, s₁.heap.get? b = some o -> H b = none -> (hidT s₁.heap H).get? b = some o := fun e n => hidT_get e n
    have noA : ∀ {b : Addr} {o : Obj} {es : Array DictEntry} {ep : Nat}, s₁.heap.get? b = some o -> o.data = .dict es ep -> H b = none := fun {b o es ep} e d => by
      cases q : H b with
      | none => rfl
      | some u =>
        have e' : b = a := hA b (by rw [q]; simp)
        subst e'
        rw [ha] at e; cases e
        have d' : Data.seq vs.toArray _ = Data.dict es ep := d
        cases d'
    have nsK : ∀ {b : Addr} {m : Str -> Option Value}, s₁.heap.Ns b m -> (hidT s₁.heap H).Ns b m := fun {b m} ⟨o, es, ep, e, d, r⟩ => ⟨o, es, ep, base_of e (noA e d), d, r⟩
    have hKb : K.In (hidT s₁.heap H) := fun b o e => base_of (KX b o e) (by
      cases q : H b with
      | none => rfl
      | some u =>
        have e' : b = a := hA b (by rw [q]; simp)
        subst e'
        rw [hK (by rw [q]; simp)] at e; cases e)
    have hM : Mod K mg (hidT s₁.heap H) := ⟨hKb, nsK hns, ⟨mb, nsK hb, hbb⟩, let ⟨mc, h1, h2⟩ := hlim; ⟨mc, nsK h1, h2⟩⟩
    have e0 : Env0 P w K mg (hidT s₁.heap H) callerA [] s₁ H := ⟨rfl, hM, fun b o e => of_hidT e, Nat.le_of_eq (hidT_size _ _), trivial, fun b hb => absurd (show b ∈ ([] : List Addr) from hb) (by simp), hok, .of_eq hg⟩
    refine codeAny_mono ((F _ hKb (nsK hns)).run callerA [] s₁ H ⟨[.ref a], []⟩ [.ref a] [.ref a] _ _ hr e0 (hbind s₁ (.ref a)) (.cons rfl .nil) (hsp H hO hS)) fun r s' h => ?_
    cases r with
    | error e => exact (hCX H e s' h).elim
    | ok fl =>
      cases fl with
      | next => exact False.elim h
      | brk => exact False.elim h
      | cont => exact False.elim h
      | ret u =>
        obtain ⟨v, H', os, bare, un, hok', r', q⟩ := h
        have q' : v = .bl true := q
        subst q'
        obtain rfl : u = Value.bool true := r'
        refine ⟨rfl, OldK.of_keep fun b o e => ?_, os, bare⟩
        cases q : H b with
        | none => exact un.keep b o e q (by intro z; exact absurd (show b ∈ ([] : List Addr) from z) (by simp)) (by simp)
        | some u =>
          rcases hO b with z | ⟨ob, xs, z⟩
          · rw [q] at z; cases z
          · have z2 := un.frzs b ob _ z
            obtain ⟨e1, _⟩ := hok b _ z
            obtain ⟨e2, _⟩ := hok' b _ z2
            rw [e] at e1; cases e1
            exact e2
  cases hk : K.lookup a with
  | some o =>
    have e := KX a o hk
    rw [ha] at e
    cases e
    refine core (fun _ => none) (fun _ => .inl rfl) (.inr ⟨_, vs.toArray, _, hk, rfl, rfl, rfl, by rw [List.size_toArray, lenV]; exact hl, by simpa using rv⟩) (fun b u z => by have z' : (none : Option HO) = some u := z; cases z') (fun b z => absurd rfl z) fun z => absurd rfl z
  | none =>
    refine core (fun b => if b = a then some (.frz { cls := .type "list", data := .seq vs.toArray } (.lst (ns.map V.int))) else none) (fun b => ?_) (.inl (.inr ⟨{ cls := .type "list", data := .seq vs.toArray }, if_pos rfl⟩)) (fun b u z => ?_) (fun b z => ?_) fun _ => hk
    · by_cases hb : b = a
      · exact .inr ⟨_, _, if_pos hb⟩
      · exact .inl (if_neg hb)
    · by_cases hb : b = a
      · have z' := (if_pos hb).symm.trans z
        cases z'
        subst hb
        exact ⟨ha, by rw [List.length_map]; exact hl, vs, _, rv, ha⟩
      · have z' := (if_neg hb).symm.trans z
        cases z'
    · by_cases hb : b = a
      · exact hb
      · exact absurd (if_neg hb) z
end L2

namespace L2
open PySem PySem.Spec PyProof.Rows

abbrev KOf {K : PySem.W.Frag} {h : Heap} (_ : K.In h) : PySem.W.Frag := K

theorem walk_of {l : PySem.W.OpenLaw} {n k : Nat} {q : Program} {loose : List Str} {XP : (Str -> Option Value) -> Heap -> Prop} {YP : World -> Heap -> Prop} {d : DefRec} {K : Params -> PySem.W.Frag} {CX : World -> CXT} {sp : World -> Sp} {x : Str}
    (hn : l.most = some n) (hn2 : n <= sizeLine) (hdf : d.params.defaults = []) (hr : Room k callerA)
    (hY : ∀ (w : World) (h : Heap), YP w h -> (K w.params).In h)
    (F : ∀ (w : World) (mg : Str -> Option Value) (fa : Addr) (h : Heap), (K w.params).In h -> h.Ns mainGlobals mg -> mg d.name = some (.ref fa) ->
      ∃ fd : FuncData, (∀ (s : Shared) (u : Value), BindsTo s fd ⟨[u], []⟩ [(x, u)]) /\
        ∀ base : Heap, (K w.params).In base -> base.Ns mainGlobals mg -> FnOk l.prog w (K w.params) mg base (CX w) k fa fd [x] (sp w))
    (hsp : ∀ (w : World) (H : Hp) (a : Addr) (ns : List Int), ns.length <= n -> Only H -> SqL (K w.params) H a (ns.map V.int) -> sp w [.ref a] H (fun v _ => v = .bl true) fun _ _ _ => False)
    (hCX : ∀ (w : World) (H : Hp) (s : Shared) (e : Value) (s' : Shared), CX w [] H s (fun _ _ _ => False) e s' -> False) :
    PySem.W.WalkO q loose XP YP l.row.toRowW d [] (fun f vs => PySem.call f vs) := by
  refine Att.attach_call hn hdf fun w s₀ s₁ mg mb fa o pm cd doc a vs ns G Y ho hd hcd hmg hobj hints hlen hg => ?_
  have KX := hY w _ Y
  obtain ⟨fd, hb, hF⟩ := F w mg fa _ KX G.T.g hmg
  exact law_call KX G.T.g G.T.b G.T.builtins G.T.nolimit hg hobj hints (Nat.le_trans hlen hn2) hr hF hb (fun H hO hS => hsp w H a ns hlen hO hS) fun H e s' => hCX w H s₁ e s'
end L2

namespace L2
open PySem PySem.Spec PyProof.Rows

/-! ### the text by places -/
def inClass (s : Stmt) (j : Nat) : Stmt := match s with
  | .ClassDef _ _ _ body _ _ _ _ _ _ _ => body.getD j (.Pass ⟨0, 0, 0, 0⟩)
  | _ => .Pass ⟨0, 0, 0, 0⟩
def defArgs (s : Stmt) : Arguments := match s with
  | .FunctionDef _ a _ _ _ _ _ _ _ _ => a
  | _ => { posonlyargs := [], args := [], vararg := none, kwonlyargs := [], kw_defaults := [], kwarg := none, defaults := [] }
def defBody (s : Stmt) : List Stmt := match s with
  | .FunctionDef _ _ b _ _ _ _ _ _ _ => b
  | _ => []
def defScope (s : Stmt) : Scope := match s with
  | .FunctionDef _ _ _ _ _ _ sc _ _ _ => sc
  | _ => { kind := .function, names := [], isGenerator := false, isCoroutine := false }

/-! ### no exception leaves a def -/
abbrev CX0 : CXT := fun _ _ _ _ _ _ => False
abbrev E0 : XK := fun _ _ _ => False
theorem pass0 {X : Cx} : Passes CX0 X E0 := fun _ _ _ _ _ _ _ h => h.elim

/-! ### a def (or method) of the text as it stands behind the top -/
structure Fun (K : PySem.W.Frag) (x qual : Str) (st : Stmt) (f : Addr) (fd : FuncData) : Prop where
  ex : ∃ (oc : Value) (od : Option Addr) (kV doc pm : Value) (an : Option Addr) (cdv ct : Value) (osl : Array (Option Value)),
    fd = PySem.W.fnOf x qual (defArgs st) (defBody st) (defScope st) .none kV doc pm an cdv ct /\ K.lookup f = some ⟨oc, od, .func fd, osl⟩ /\ PySem.W.codeIn K cdv qual = true
  kp : PySem.W.keepIn K (.ref f) = true
section
variable {P : Program} {w : World} {K : PySem.W.Frag} {mg : Str -> Option Value} {base : Heap}
theorem Fun.ok {x qual : Str} {st : Stmt} {f : Addr} {fd : FuncData} {N ps : List Str} {k : Nat} {sp : Sp} (F : Fun K x qual st f fd) (S : FnScope N ps (defScope st)) (len : ∀ vs H Q E, sp vs H Q E -> vs.length = ps.length)
    (hbody : ∀ (cdv : Value) (A : Around) (outer : List Env) (s : Shared) (H : Hp) (vs : List V) (Q : VK) (E : XK), Room k (A.deeper (envOfC qual (defScope st) s.heap.objs.size f cdv)) -> sp vs H Q E ->
      ∃ t, PSs (cxOf CX0 P w K mg base N qual (defScope st) f cdv A outer s H E).nox (defBody st) t /\ t { nx := fun _ H' => Q .non H', rt := Q } (start N vs) H) : FnOk P w K mg base CX0 (k + 1) f fd ps sp := by
  obtain ⟨oc, od, kV, doc, pm, an, cdv, ct, osl, rfl, lk, hcd⟩ := F.ex
  refine fn_of lk hcd S len fun A outer s H vs Q E hr hsp => ?_
  obtain ⟨t, h, q⟩ := hbody cdv A outer s H vs Q E hr hsp
  exact ⟨t, h.nox, q⟩
theorem Fun.binds {x qual : Str} {st : Stmt} {f : Addr} {fd : FuncData} {ps : List Str} (F : Fun K x qual st f fd)
    (h : ∀ (kV doc pm : Value) (an : Option Addr) (cdv ct : Value) (us : List Value), us.length = ps.length -> bindArgs (PySem.W.fnOf x qual (defArgs st) (defBody st) (defScope st) .none kV doc pm an cdv ct) ⟨us, []⟩ = pure (ps.zip us)) : Binds K fd ps [] := by
  obtain ⟨oc, od, kV, doc, pm, an, cdv, ct, osl, rfl, lk, hcd⟩ := F.ex
  exact .all (h kV doc pm an cdv ct)
theorem fun_mk {x qual : Str} {st : Stmt} {f : Addr} {oc : Value} {od an : Option Addr} {osl : Array (Option Value)} {kV doc pm cdv ct : Value} (l : K.lookup f = some ⟨oc, od, .func (PySem.W.fnOf x qual (defArgs st) (defBody st) (defScope st) .none kV doc pm an cdv ct), osl⟩)
    (c : PySem.W.codeIn K cdv qual = true) (k : PySem.W.keepIn K (.ref f) = true) : Fun K x qual st f (PySem.W.fnOf x qual (defArgs st) (defBody st) (defScope st) .none kV doc pm an cdv ct) := ⟨⟨oc, od, kV, doc, pm, an, cdv, ct, osl, rfl, l, c⟩, k⟩
end
theorem hu_of {A : Around} {k : Nat} (hr : Room k A) : A.units + 1 < cLine := Nat.lt_of_le_of_lt (Nat.add_le_add_left (by decide : 1 <= 64) _) hr.units
/-! ### expressions in short: the name that stands in the i-th slot -/
section
variable {X : Cx}
theorem pv (i : Nat) {x : Str} {pos : Pos} (hN : X.N[i]? = some x := by rfl) (hv : Vis X.env.scope x := by first | exact Or.inl rfl | exact Or.inr (Or.inl rfl) | exact Or.inr (Or.inr rfl)) (hd : (x == ("__debug__" : Str)) = false := by decide)
    (hcd : (x == ("__classdict__" : Str)) = false := by decide) : PE X (.Name x pos) (tVar i) := pe_var hN hv hd hcd
end

/-! ### tests -/
theorem iteF {A B : Prop} (h : B) : if false = true then A else B := by
  rw [if_neg Bool.false_ne_true]
  exact h
theorem iteT {A B : Prop} (h : A) : if true = true then A else B := by
  rw [if_pos rfl]
  exact h
theorem ite2 {c A B : Prop} [Decidable c] (h1 : c -> A) (h2 : ¬ c -> B) : if c then A else B := by
  by_cases h : c
  · rw [if_pos h]
    exact h1 h
  · rw [if_neg h]
    exact h2 h
/-! ### heaps -/
def Same (H H' : Hp) : Prop := ∀ b o, H b = some o -> H' b = some o
theorem Same.refl (H : Hp) : Same H H := fun _ _ h => h
theorem Same.trans {H H1 H2 : Hp} (a : Same H H1) (b : Same H1 H2) : Same H H2 := fun c o h => b c o (a c o h)
theorem Same.free {H H' : Hp} (e : Same H H') {l : Addr} (h : H' l = Option.none) : H l = Option.none := by
  cases q : H l with
  | none => rfl
  | some o =>
    rw [e l o q] at h
    cases h
theorem Same.seq {K : PySem.W.Frag} {H H' : Hp} {a : Addr} {xs : List V} (e : Same H H') (h : SqL K H a xs) : SqL K H' a xs := by
  rcases h with (h | ⟨o, h⟩) | h
  · exact .inl (.inl (e _ _ h))
  · exact .inl (.inr ⟨o, e _ _ h⟩)
  · exact .inr h

end L2

namespace L2
open PySem PySem.Spec PyProof.Rows
section
variable {X : Cx}
end
/-! ### a dict's pairs: keys that differ -/
section
variable {κ : Type} [DecidableEq κ]
end
end L2


namespace L2
open PySem PySem.Spec PyProof.Rows
theorem bt_int : bootBuiltins "int" = some (.type "int") := by decide +kernel
theorem bt_list : bootBuiltins "list" = some (.type "list") := by decide +kernel
theorem bt_reversed : bootBuiltins "reversed" = some (.type "reversed") := by decide +kernel
theorem bt_len : bootBuiltins "len" = some (.builtin "len") := by decide +kernel
section
variable {X : Cx}
def CDivB (_i j : Int) : Prop := 0 < j /\ j < 2 ^ 40
theorem op_fdivB : OpR X (binaryOp .FloorDiv) (rI CDivB fun i j => .int (i / j)) := opI fun i j _ _ _ _ _ hc q => by
  have h1 : (0 : Int) < j := hc.1
  have h2 : j < 2 ^ 40 := hc.2
  refine floordiv_int (by omega) (by rw [Int.fdiv_eq_ediv_of_nonneg i (by omega)]; exact q) (.inl (PyProof.noPylong_of_log2 ?_))
  have h3 : j.natAbs ≠ 0 := by omega
  have h4 : j.natAbs.log2 < 40 := (Nat.log2_lt h3).mpr (by omega)
  omega
end
theorem cmul_nn {i j : Int} (h0 : 0 <= i) (h1 : i < 4294967296) : CMul i j := .inl ⟨Int.lt_of_lt_of_le (by decide) h0, Int.lt_trans h1 (by decide)⟩
theorem len3 {x y z : V} : [x, y, z].length <= sizeLine := by show 3 <= sizeLine; decide
theorem at_in {xs : List V} {i : Int} (h0 : 0 <= i) (h1 : i < xs.length) : ∃ v, atI xs i = some v /\ v ∈ xs := by
  obtain ⟨n, rfl⟩ := Int.eq_ofNat_of_zero_le h0
  have hn : n < xs.length := by omega
  exact ⟨xs[n], atI_nat (List.getElem?_eq_getElem hn), List.getElem_mem hn⟩
theorem same_new {H : Hp} {p : Addr} {o : HO} (h : H p = none) : Same H (upd H p o) := fun b u e => by
  rw [upd_ne (ne_of_none e h)]; exact e
end L2
namespace L2
open PySem PySem.Spec PyProof.Rows
section
variable {X : Cx}
def rCatS (K : PySem.W.Frag) : R2 := fun x y H Q => ∃ l b xs zs, x = .ref l /\ y = .ref b /\ SqL K H l xs /\ SqL K H b zs /\ xs.length + zs.length <= sizeLine /\ ∀ p, H p = none -> Q (.ref p) (upd H p (.lst (xs ++ zs)))
theorem op_catS : OpR X (binaryOp .Add) (rCatS X.K) := by
  intro pins s σ H x y v u Q I rx ry h
  obtain ⟨l, b, xs, zs, rfl, rfl, h1, h2, hz, q⟩ := h
  cases rx
  cases ry
  obtain ⟨its, r1, ⟨⟨c1, d1, dt1, sl1⟩, n1, g1, k1, w1, e1⟩, z1⟩ := I.list h1
  obtain ⟨its2, r2, ⟨⟨c2, d2, dt2, sl2⟩, n2, g2, k2, w2, e2⟩, z2⟩ := I.list h2
  simp only at k1 w1 e1 k2 w2 e2
  subst k1 w1 e1 k2 w2 e2
  have l1 := r1.length
  have l2 := r2.length
  have ea : its.toArray ++ its2.toArray = (its ++ its2).toArray := by simp
  refine concat_meets ⟨_, g1, rfl⟩ ⟨_, g2, rfl⟩ noFill_list_add seq_list_add PySem.F.slot_list_add PySem.F.entry_list_add (PySem.F.args_list_add_2 _ _) (list_addW l b its.toArray its2.toArray n1 n2 _ _ sl1 sl2 (by simp; omega)) ⟨g1, g2, ?_⟩
  rw [ea]
  exact ⟨.ref _, _, I.lnew (t' := s.toks) (r1.append r2) (by rw [List.length_append]; omega), rfl, q _ I.fresh⟩
end
end L2

set_option Elab.async false
set_option maxRecDepth 100000
set_option maxHeartbeats 4000000
namespace MX
open PySem PySem.W
/-! data that may stand as a key: ints, texts, tuples of these -/
mutual
def kd : PyData -> Bool
  | .int _ => true
  | .str x => PyData.strOk x
  | .tuple xs => kds xs
  | .none => false
  | .bool _ => false
  | .list _ => false
  | .dict _ => false
def kds : List PyData -> Bool
  | [] => true
  | x :: xs => kd x && kds xs
end
mutual
def hashD (w : World) : PyData -> Int
  | .int i => hashInt i
  | .str x => hashStr w x
  | .tuple xs => reduceHash (Builtin.Tuple.tupleHashOf (hashDs w xs))
  | .none => 0
  | .bool _ => 0
  | .list _ => 0
  | .dict _ => 0
def hashDs (w : World) : List PyData -> List Int
  | [] => []
  | x :: xs => hashD w x :: hashDs w xs
end
mutual
theorem kd_lay : ∀ d : PyData, kd d = true -> d.canLay0 = true
  | .int _, _ => rfl
  | .str _, h => h
  | .tuple xs, h => kds_lay xs h
  | .none, h => by cases h
  | .bool _, h => by cases h
  | .list _, h => by cases h
  | .dict _, h => by cases h
theorem kds_lay : ∀ xs : List PyData, kds xs = true -> PyData.canLayAll0 xs = true
  | [], _ => rfl
  | x :: xs, h => by
    have h' : (kd x && kds xs) = true := h
    rw [Bool.and_eq_true] at h'
    show (x.canLay0 && PyData.canLayAll0 xs) = true
    rw [kd_lay x h'.1, kds_lay xs h'.2]; rfl
end
theorem iffF {p q : Prop} (h1 : ¬ p) (h2 : ¬ q) : p ↔ q := ⟨fun z => (h1 z).elim, fun z => (h2 z).elim⟩
mutual
theorem eqv_iff : ∀ d e : PyData, kd d = true -> kd e = true -> (PyData.eqv d e = true ↔ d = e)
  | .int a, .int b, _, _ => by
    show (a == b) = true ↔ _
    rw [beq_iff_eq]; exact ⟨fun z => by rw [z], fun z => by injection z⟩
  | .str a, .str b, _, _ => by
    show (a == b) = true ↔ _
    rw [beq_iff_eq]; exact ⟨fun z => by rw [z], fun z => by injection z⟩
  | .tuple xs, .tuple ys, h1, h2 => by
    have q := eqvs_iff xs ys h1 h2
    show PyData.eqvAll xs ys = true ↔ _
    rw [q]; exact ⟨fun z => by rw [z], fun z => by injection z⟩
  | .int _, .str _, _, _ => iffF (fun z => by cases z) (fun z => by cases z)
  | .int _, .tuple _, _, _ => iffF (fun z => by cases z) (fun z => by cases z)
  | .str _, .int _, _, _ => iffF (fun z => by cases z) (fun z => by cases z)
  | .str _, .tuple _, _, _ => iffF (fun z => by cases z) (fun z => by cases z)
  | .tuple _, .int _, _, _ => iffF (fun z => by cases z) (fun z => by cases z)
  | .tuple _, .str _, _, _ => iffF (fun z => by cases z) (fun z => by cases z)
theorem eqvs_iff : ∀ xs ys : List PyData, kds xs = true -> kds ys = true -> (PyData.eqvAll xs ys = true ↔ xs = ys)
  | [], [], _, _ => ⟨fun _ => rfl, fun _ => rfl⟩
  | [], _ :: _, _, _ => iffF (fun z => by cases z) (fun z => by cases z)
  | _ :: _, [], _, _ => iffF (fun z => by cases z) (fun z => by cases z)
  | x :: xs, y :: ys, h1, h2 => by
    have h1' : (kd x && kds xs) = true := h1
    have h2' : (kd y && kds ys) = true := h2
    rw [Bool.and_eq_true] at h1' h2'
    show (PyData.eqv x y && PyData.eqvAll xs ys) = true ↔ _
    rw [Bool.and_eq_true, eqv_iff x y h1'.1 h2'.1, eqvs_iff xs ys h1'.2 h2'.2]
    exact ⟨fun z => by rw [z.1, z.2], fun z => by injection z with a b; exact ⟨a, b⟩⟩
end
section
variable {prog : Program} {w : World} {E : Value -> Shared -> Prop}
mutual
theorem hash_go : ∀ (k : PyData) (v : Value) (as : List Addr) (A : Around) (s : Shared) (Q : Int -> Shared -> Prop), kd k = true -> Reads s.heap v k as -> A.units + k.depth < cLine ->
    (∀ tk, Q (hashD w k) { s with toks := tk }) -> wpAny (model prog w) A (pyHash v) Q E s
  | .int i, _, _, A, s, Q, _, x, _, h => by cases x; exact wpAny_pyHash_int (h _)
  | .str y, _, _, A, s, Q, _, x, _, h => by cases x; exact wpAny_pyHash_str (h _)
  | .tuple xs, _, _, A, s, Q, hk, x, hu, h => by
    cases x with
    | @tuple a o vs n _ _ hg hc hdt hw =>
      refine pyHash_slot (T := "tuple") ⟨_, hg, hc⟩ F.slot_tuple_hash F.entry_tuple_hash (F.args_tuple_hash_1 _) (beq_builtin_none _) (.inr (Nat.lt_of_le_of_lt (Nat.le_add_right _ _) hu)) ?_
      show wpAny _ _ (Builtin.Tuple.tupleItemsOf (.ref a) >>= _) _ _ s
      refine wpAny_bind (wpAny_tupleItemsOf hg hdt (wpAny_bind ?_))
      rw [← Array.forIn_toList]
      refine hashs_go xs _ _ A.in1 s #[] _ hk hw (by simp only [PyData.depth, Around.in1_units] at hu ⊢; omega) fun tk b hb => ?_
      show wpAny _ _ (retInt (Builtin.Tuple.tupleHashOf b.toList)) _ _ _
      rw [hb]
      exact wpAny_bind (wpAny_mkInt (wpAny_pure ⟨_, _, rfl, h _⟩))
  | .none, _, _, _, _, _, h, _, _, _ => by cases h
  | .bool _, _, _, _, _, _, h, _, _, _ => by cases h
  | .list _, _, _, _, _, _, h, _, _, _ => by cases h
  | .dict _, _, _, _, _, _, h, _, _, _ => by cases h
theorem hashs_go : ∀ (xs : List PyData) (vs : List Value) (as : List Addr) (A : Around) (s : Shared) (b : Array Int) (Q : Array Int -> Shared -> Prop), kds xs = true -> ReadsAll s.heap vs xs as -> A.units + PyData.depthAll xs < cLine ->
    (∀ tk b', b'.toList = b.toList ++ hashDs w xs -> Q b' { s with toks := tk }) ->
    wpAny (model prog w) A (forIn vs b fun x r => do let h ← pyHash x; pure PUnit.unit; pure (ForInStep.yield (r.push h))) Q E s
  | [], _, _, A, s, b, Q, _, x, _, h => by cases x; exact wpAny_pure (h s.toks b (by simp [hashDs]))
  | k :: xs, _, _, A, s, b, Q, hk, x, hu, h => by
    cases x with
    | cons x1 x2 =>
      have hk' : (kd k && kds xs) = true := hk
      rw [Bool.and_eq_true] at hk'
      simp only [PyData.depthAll] at hu
      rw [List.forIn_cons]
      refine wpAny_bind (wpAny_bind (hash_go k _ _ A s _ hk'.1 x1 (by omega) fun tk => wpAny_bind (wpAny_pure (wpAny_pure ?_))))
      exact hashs_go xs _ _ A _ _ Q hk'.2 x2 (by omega) fun tk' b' hb => h tk' b' (by simp [hb, hashDs])
end
theorem quiet_go : ∀ (n : Nat) (k : PyData) (v : Value) (as : List Addr) (A : Around) (s : Shared) (Q : Bool -> Shared -> Prop), kd k = true -> Reads s.heap v k as -> k.depth <= n ->
    Q true s -> wpAny (model prog w) A (eqIsQuiet n v) Q E s := by
  intro n
  induction n with
  | zero =>
    intro k v as A s Q hk x hu h
    cases x with
    | int i t => rw [eqIsQuiet_byValue 0 rfl]; exact wpAny_pure h
    | str i t => rw [eqIsQuiet_byValue 0 rfl]; exact wpAny_pure h
    | tuple => simp only [PyData.depth] at hu; omega
    | none => cases hk
    | bool => cases hk
    | list => cases hk
    | dict => cases hk
  | succ n ih =>
    intro k v as A s Q hk x hu h
    cases x with
    | int i t => rw [eqIsQuiet_byValue _ rfl]; exact wpAny_pure h
    | str i t => rw [eqIsQuiet_byValue _ rfl]; exact wpAny_pure h
    | none => cases hk
    | bool => cases hk
    | list => cases hk
    | dict => cases hk
    | @tuple a o vs m xs _ hg hc hdt hw =>
      have hT : s.TypeIs (.ref a) "tuple" := ⟨_, hg, hc⟩
      unfold eqIsQuiet
      refine wpAny_bind (wpAny_specialOf hT F.slot_tuple_eq.lookup ?_)
      show wpAny _ _ (isInstance (.ref a) (.type "tuple") >>= _) _ _ s
      refine wpAny_bind (wpAny_isInstance hT isSubtype_tuple_tuple ?_)
      simp only [Bool.not_true, Bool.false_eq_true, if_false]
      refine wpAny_bind (wpAny_seqItems hg hdt (wpAny_bind ?_))
      show wpAny _ _ (forIn vs _ _) _ _ s
      rw [← Array.forIn_toList]
      refine wpAny_forIn_list _ (fun rest r s' => r.1 = none /\ s' = s /\ ∃ ys bs, ReadsAll s.heap rest ys bs /\ kds ys = true /\ PyData.depthAll ys <= n) _ ?_ ?_ _ _
        ⟨rfl, rfl, xs, _, hw, hk, by simp only [PyData.depth] at hu; omega⟩
      · rintro y rest r s' ⟨hr, rfl, ys, bs, rd, hks, hdp⟩
        cases rd with
        | @cons _ _ d ds _ _ r1 r2 =>
          have hks' : (kd d && kds ds) = true := hks
          rw [Bool.and_eq_true] at hks'
          simp only [PyData.depthAll] at hdp
          refine wpAny_bind (ih d _ _ A _ _ hks'.1 r1 (by omega) ?_)
          simp only [Bool.not_true, Bool.false_eq_true, if_false]
          exact wpAny_pure ⟨rfl, rfl, ds, _, r2, hks'.2, by omega⟩
      · rintro ⟨r1, r2⟩ s' ⟨hr, rfl, _⟩
        simp only at hr
        subst hr
        exact wpAny_pure h
def Ent (w : World) (h : Heap) (k : PyData) (e : DictEntry) : Prop := kd k = true /\ k.depth <= 8 /\ (∃ as, Reads h e.key k as) /\ e.hash = hashD w k
def Ask (h : Heap) (k : PyData) (v : Value) : Prop := kd k = true /\ k.depth <= 8 /\ (∃ as, Reads h v k as) /\ ((∃ x t, v = .str x t) \/ ∃ a, v = .ref a)
abbrev Ents (w : World) (h : Heap) (ks : List PyData) (es : List DictEntry) : Prop := Paired (Ent w h) ks es
theorem f2_get {α β : Type} {R : α -> β -> Prop} : ∀ {xs : List α} {ys : List β}, Paired R xs ys -> ∀ (j : Nat) (y : β), ys[j]? = some y -> ∃ x, xs[j]? = some x /\ R x y
  | _, _, .nil, j, y, h => by simp at h
  | _, _, .cons r t, 0, y, h => by simp at h; subst h; exact ⟨_, rfl, r⟩
  | _, _, .cons r t, j + 1, y, h => by
    obtain ⟨x, e, q⟩ := f2_get t j y (by simpa using h)
    exact ⟨x, by simpa using e, q⟩
theorem f2_get' {α β : Type} {R : α -> β -> Prop} : ∀ {xs : List α} {ys : List β}, Paired R xs ys -> ∀ (j : Nat) (x : α), xs[j]? = some x -> ∃ y, ys[j]? = some y /\ R x y
  | _, _, .nil, j, y, h => by simp at h
  | _, _, .cons r t, 0, y, h => by simp at h; subst h; exact ⟨_, rfl, r⟩
  | _, _, .cons r t, j + 1, y, h => by
    obtain ⟨x, e, q⟩ := f2_get' t j y (by simpa using h)
    exact ⟨x, by simpa using e, q⟩
theorem mem_places {n : Nat} {f : Nat -> Option Int} {h : Int} {j : Nat} (hj : j < n) (e : f j = some h) : j ∈ placesWithHash n f h := by
  unfold placesWithHash
  exact List.mem_filter.mpr ⟨List.mem_range.mpr hj, by rw [e]; simp⟩
theorem places_lt {n : Nat} {f : Nat -> Option Int} {h : Int} {j : Nat} (hj : j ∈ placesWithHash n f h) : j < n := by
  unfold placesWithHash at hj
  exact List.mem_range.mp (List.mem_filter.mp hj).1
theorem places_nd {n : Nat} {f : Nat -> Option Int} {h : Int} : (placesWithHash n f h).Nodup := by
  unfold placesWithHash
  exact List.Nodup.sublist List.filter_sublist List.nodup_range
theorem nd_ix {α : Type} {xs : List α} (hn : xs.Nodup) {i j : Nat} {k : α} (hi : xs[i]? = some k) (hj : xs[j]? = some k) : i = j :=
  (List.getElem?_inj (List.getElem?_eq_some_iff.mp hi).1 hn).mp (hi.trans hj.symm)
variable {A : Around} {s : Shared}
theorem find_D {d : Addr} {o : Obj} {es : Array DictEntry} {ep : Nat} {ks : List PyData} {k : PyData} {key : Value} {Q : Option Nat -> Shared -> Prop} (hu : A.units + 8 < cLine) (hk : Ask s.heap k key)
    (ho : s.heap.get? d = some o) (hd : o.data = .dict es ep) (hes : Ents w s.heap ks es.toList) (hn : ks.Nodup) (hnone : k ∉ ks -> Q none s) (hsome : ∀ j : Nat, ks[j]? = some k -> Q (some j) s) :
    wpAny (model prog w) A (dictFind d key (hashD w k)) Q E s := by
  obtain ⟨kk, kdp, ⟨as, kr⟩, ksh⟩ := hk
  have hget : ∀ (j : Nat) (e : DictEntry), es[j]? = some e -> ∃ k', ks[j]? = some k' /\ Ent w s.heap k' e := fun j e h => f2_get hes j e (by rw [Array.getElem?_toList]; exact h)
  have hget' : ∀ (j : Nat) (k' : PyData), ks[j]? = some k' -> ∃ e, es[j]? = some e /\ Ent w s.heap k' e := fun j k' h => by
    obtain ⟨e, h1, h2⟩ := f2_get' hes j k' h
    exact ⟨e, by rw [← Array.getElem?_toList]; exact h1, h2⟩
  have hplace : ∀ j : Nat, ks[j]? = some k -> j ∈ placesWithHash es.size (fun i => es[i]?.map (·.hash)) (hashD w k) := fun j h => by
    obtain ⟨e, h1, _, _, _, h2⟩ := hget' j k h
    exact mem_places (Array.getElem?_eq_some_iff.mp h1).1 (by rw [h1, ← h2]; rfl)
  have heq : ∀ (k' : PyData) (e : DictEntry) (R : Bool -> Shared -> Prop), Ent w s.heap k' e -> (k' = k -> R true s) -> (k' ≠ k -> R false s) -> wpAny (model prog w) A (eqBool e.key key) R E s := fun k' e R h h1 h2 => by
    obtain ⟨ek, ed, ⟨bs, er⟩, _⟩ := h
    refine SeqAt.eqAt_reads k' k A s _ _ _ _ er kr (kd_lay _ ek) (kd_lay _ kk) (by omega) prog w E R ?_
    by_cases z : k' = k
    · rw [(eqv_iff k' k ek kk).mpr z]; exact h1 z
    · have : PyData.eqv k' k = false := by
        cases q : PyData.eqv k' k with
        | false => rfl
        | true => exact absurd ((eqv_iff k' k ek kk).mp q) z
      rw [this]; exact h2 z
  have none_of : (∀ j : Nat, ks[j]? = some k -> j ∈ ([] : List Nat)) -> Q none s := fun h => hnone fun m => by
    obtain ⟨j, hj⟩ := List.mem_iff_getElem?.mp m
    exact absurd (h j hj) (by simp)
  have plain : wpAny (model prog w) A (dictWalkPlain d key (hashD w k) es (placesWithHash es.size (fun i => es[i]?.map (·.hash)) (hashD w k))) Q E s := by
    refine wpAny_bind ?_
    refine wpAny_forIn_list _ (fun rest b s' => s' = s /\ b = (none, ()) /\ (∀ j : Nat, ks[j]? = some k -> j ∈ rest) /\ ∀ j ∈ rest, j < es.size) _ ?_ ?_ _ _ ⟨rfl, rfl, hplace, fun j => places_lt⟩
    · rintro x rest b s' ⟨rfl, rfl, hin, hlt⟩
      have hx := hlt x List.mem_cons_self
      have hlt' : ∀ j ∈ rest, j < es.size := fun j hj => hlt j (List.mem_cons_of_mem _ hj)
      obtain ⟨k', hk', he⟩ := hget x es[x] (Array.getElem?_eq_getElem hx)
      have next : k' ≠ k -> ∀ j : Nat, ks[j]? = some k -> j ∈ rest := fun z j hj => by
        rcases List.mem_cons.mp (hin j hj) with q | q
        · subst q; rw [hk'] at hj; exact absurd (Option.some.inj hj) z
        · exact q
      simp only [Array.getElem?_eq_getElem hx]
      by_cases hh : (es[x].hash == hashD w k) = true
      · rw [if_pos hh]
        refine wpAny_bind (wpAny_dictEpoch ho hd (wpAny_bind (heq k' es[x] _ he (fun z => wpAny_bind (wpAny_dictEpoch ho hd ?_)) (fun z => wpAny_bind (wpAny_dictEpoch ho hd ?_)))))
        · show wpAny _ _ (if (ep != ep) = true then _ else _) _ E _
          rw [if_neg (by simp)]
          exact wpAny_bind (wpAny_rule (wpAny_pure (wpAny_pure (hsome x (z ▸ hk')))))
        · show wpAny _ _ (if (ep != ep) = true then _ else _) _ E _
          rw [if_neg (by simp)]
          exact wpAny_bind (wpAny_rule (wpAny_pure ⟨rfl, rfl, next z, hlt'⟩))
      · rw [if_neg hh]
        refine wpAny_pure ⟨rfl, rfl, next fun z => hh ?_, hlt'⟩
        rw [he.2.2.2, z]; simp
    · rintro b s' ⟨rfl, rfl, hin, _⟩
      exact wpAny_pure (none_of hin)
  have hstored : ∀ v ∈ (placesWithHash es.size (fun i => es[i]?.map (·.hash)) (hashD w k)).filterMap (fun i => es[i]?.map (·.key)), ∃ k' bs, kd k' = true /\ k'.depth <= 8 /\ Reads s.heap v k' bs := fun v hv => by
    obtain ⟨i, _, hi⟩ := List.mem_filterMap.mp hv
    cases q : es[i]? with
    | none => rw [q] at hi; cases hi
    | some e =>
      rw [q] at hi
      have z : e.key = v := by simpa using hi
      obtain ⟨k', _, h1, h2, ⟨bs, h3⟩, _⟩ := hget i e q
      exact ⟨k', bs, h1, h2, z ▸ h3⟩
  have htell : ∀ (R : Bool -> Shared -> Prop), R false s -> wpAny (model prog w) A (tableMayTell key ((placesWithHash es.size (fun i => es[i]?.map (·.hash)) (hashD w k)).filterMap (fun i => es[i]?.map (·.key)))) R E s := fun R h => by
    unfold tableMayTell
    split
    · exact wpAny_pure h
    · refine wpAny_bind (quiet_go 8 k key _ A s _ kk kr kdp ?_)
      simp only [Bool.not_true, Bool.false_eq_true, if_false]
      refine wpAny_bind ?_
      refine wpAny_forIn_list _ (fun rest r s' => s' = s /\ r = (none, ()) /\ ∀ v ∈ rest, ∃ k' bs, kd k' = true /\ k'.depth <= 8 /\ Reads s.heap v k' bs) _ ?_ ?_ _ _ ⟨rfl, rfl, hstored⟩
      · rintro x rest r s' ⟨rfl, rfl, hr⟩
        obtain ⟨k', bs, h1, h2, h3⟩ := hr x List.mem_cons_self
        refine wpAny_bind (quiet_go 8 k' x _ A _ _ h1 h3 h2 ?_)
        simp only [Bool.not_true, Bool.false_eq_true, if_false]
        exact wpAny_pure ⟨rfl, rfl, fun v hv => hr v (List.mem_cons_of_mem _ hv)⟩
      · rintro r s' ⟨rfl, rfl, _⟩
        exact wpAny_pure h
  have hany : ∀ a : Addr, key = .ref a -> ¬ (es.any fun e => e.key == Value.ref a && e.hash != hashD w k) = true := by
    rintro a rfl h
    rw [← Array.any_toList, List.any_eq_true] at h
    obtain ⟨e, hin, hc⟩ := h
    obtain ⟨j, hj⟩ := List.mem_iff_getElem?.mp hin
    obtain ⟨k', hk', h1, h2, ⟨bs, h3⟩, h4⟩ := hget j e (by rw [← Array.getElem?_toList]; exact hj)
    rw [Bool.and_eq_true] at hc
    have z1 : e.key = .ref a := beq_iff_eq.mp hc.1
    rw [z1] at h3
    have z2 := SeqAt.Reads.unique k' k _ _ _ (kd_lay _ h1) h3 kr
    rw [h4, z2] at hc
    simp at hc
  unfold dictFind
  refine wpAny_holding ?_
  refine wpAny_bind (wpAny_dictEntries ho hd ?_)
  dsimp only
  rcases ksh with ⟨x, t, rfl⟩ | ⟨a, rfl⟩
  · dsimp only
    by_cases hstr : (es.all fun e => isExactStrKey e.key) = true
    · rw [if_pos hstr]
      unfold foundByValue
      have kx : k = .str x := by cases kr; rfl
      have hkey : ∀ (j : Nat) (e : DictEntry), es[j]? = some e -> ∃ k', ks[j]? = some k' /\ Ent w s.heap k' e /\ (e.key.isStr x = true ↔ k' = k) := fun j e h => by
        obtain ⟨k', h1, h2⟩ := hget j e h
        refine ⟨k', h1, h2, ?_⟩
        have hs : isExactStrKey e.key = true := by
          have q := Array.all_eq_true.mp hstr
          obtain ⟨hl, he⟩ := Array.getElem?_eq_some_iff.mp h
          have := q j hl
          rw [he] at this; exact this
        obtain ⟨_, _, ⟨bs, h3⟩, _⟩ := h2
        cases hv : e.key with
        | str y u =>
          rw [hv] at h3
          cases h3
          show (y == x) = true ↔ _
          rw [kx, beq_iff_eq]
          exact ⟨fun z => by rw [z], fun z => by injection z⟩
        | _ => rw [hv] at hs; cases hs
      cases hf : es.findIdx? (fun e => e.key.isStr x) with
      | none =>
        refine wpAny_pure (hnone fun m => ?_)
        obtain ⟨j, hj⟩ := List.mem_iff_getElem?.mp m
        obtain ⟨e, he, _⟩ := hget' j k hj
        obtain ⟨k', h1, _, h2⟩ := hkey j e he
        rw [hj] at h1
        have h3 := Array.findIdx?_eq_none_iff.mp hf e (Array.mem_of_getElem? he)
        rw [h2.mpr (Option.some.inj h1).symm] at h3
        cases h3
      | some i =>
        obtain ⟨hlt, hi, _⟩ := Array.findIdx?_eq_some_iff_getElem.mp hf
        obtain ⟨k', h1, h2, h3⟩ := hkey i es[i] (Array.getElem?_eq_getElem hlt)
        have z : k' = k := h3.mp hi
        simp only [Array.getElem?_eq_getElem hlt]
        refine wpAny_bind (wpAny_dictEpoch ho hd (wpAny_bind (heq k' es[i] _ h2 (fun _ => wpAny_bind (wpAny_dictEpoch ho hd ?_)) (fun q => absurd z q))))
        rw [if_neg (by simp)]
        simp only [if_true]
        exact wpAny_bind (wpAny_rule (wpAny_pure (hsome i (z ▸ h1))))
    · rw [if_neg hstr]
      by_cases hall : ((Value.str x t :: (placesWithHash es.size (fun i => es[i]?.map (·.hash)) (hashD w k)).filterMap (fun i => es[i]?.map (·.key))).all carriedByValue) = true
      · rw [if_pos hall]
        exact plain
      · rw [if_neg hall]
        by_cases hone : (((placesWithHash es.size (fun i => es[i]?.map (·.hash)) (hashD w k)).filterMap (fun i => es[i]?.map (·.key))) == [Value.str x t]) = true
        all_goals
          first
            | (rw [if_pos hone]; refine wpAny_bind (wpAny_pure ?_))
            | (rw [if_neg hone]; refine wpAny_bind (htell _ ?_))
          rw [if_neg (by simp)]
          refine wpAny_bind (wpAny_forIn_list _ (fun rest b s' => s' = s /\ ∃ hit, b = (none, hit) /\ ((hit = none /\ ∀ j : Nat, ks[j]? = some k -> j ∈ rest) \/ ∃ j, hit = some j /\ ks[j]? = some k /\ j ∉ rest) /\ (∀ j ∈ rest, j < es.size) /\ rest.Nodup) _ ?_ ?_ _ _
            ⟨rfl, none, rfl, .inl ⟨rfl, hplace⟩, fun j => places_lt, places_nd⟩)
          · rintro x rest b s' ⟨rfl, hit, rfl, hin, hlt, hnd⟩
            have hx := hlt x List.mem_cons_self
            have hlt' : ∀ j ∈ rest, j < es.size := fun j hj => hlt j (List.mem_cons_of_mem _ hj)
            obtain ⟨hxr, hnd'⟩ := List.nodup_cons.mp hnd
            obtain ⟨k', hk', he⟩ := hget x es[x] (Array.getElem?_eq_getElem hx)
            have next : k' ≠ k -> ((hit = none /\ ∀ j : Nat, ks[j]? = some k -> j ∈ rest) \/ ∃ j, hit = some j /\ ks[j]? = some k /\ j ∉ rest) := fun z => by
              rcases hin with ⟨h0, hin⟩ | ⟨j, h0, hj, hjr⟩
              · refine .inl ⟨h0, fun j hj => ?_⟩
                rcases List.mem_cons.mp (hin j hj) with q | q
                · subst q; rw [hk'] at hj; exact absurd (Option.some.inj hj) z
                · exact q
              · exact .inr ⟨j, h0, hj, fun q => hjr (List.mem_cons_of_mem _ q)⟩
            simp only [Array.getElem?_eq_getElem hx]
            by_cases hh : (es[x].hash == hashD w k) = true
            · rw [if_pos hh]
              refine wpAny_bind (wpAny_dictEpoch ho hd (wpAny_bind (heq k' es[x] _ he (fun z => wpAny_bind (wpAny_dictEpoch ho hd ?_)) (fun z => wpAny_bind (wpAny_dictEpoch ho hd ?_)))))
              · rw [if_neg (by simp)]
                have hkx : ks[x]? = some k := z ▸ hk'
                rcases hin with ⟨rfl, hin⟩ | ⟨j, _, hj, hjr⟩
                · simp only [Option.isSome_none, Bool.false_eq_true, if_false, if_true]
                  refine wpAny_bind (wpAny_rule ?_)
                  split
                  · exact wpAny_pure (wpAny_pure (hsome x hkx))
                  · exact wpAny_pure ⟨rfl, some x, rfl, .inr ⟨x, rfl, hkx, hxr⟩, hlt', hnd'⟩
                · exact absurd (nd_ix hn hj hkx ▸ List.mem_cons_self) hjr
              · rw [if_neg (by simp)]
                simp only [Bool.false_eq_true, if_false]
                refine wpAny_bind (wpAny_rule ?_)
                try rw [if_neg (by simp)]
                exact wpAny_pure ⟨rfl, hit, rfl, next z, hlt', hnd'⟩
            · rw [if_neg hh]
              refine wpAny_pure ⟨rfl, hit, rfl, next fun z => hh ?_, hlt', hnd'⟩
              rw [he.2.2.2, z]; simp
          · rintro b s' ⟨rfl, hit, rfl, hin, _⟩
            rcases hin with ⟨rfl, hin⟩ | ⟨j, rfl, hj, _⟩
            · exact wpAny_pure (none_of hin)
            · exact wpAny_pure (hsome j hj)
  · dsimp only
    rw [if_neg (show ¬ ((Value.ref a :: (placesWithHash es.size (fun i => es[i]?.map (·.hash)) (hashD w k)).filterMap (fun i => es[i]?.map (·.key))).all carriedByValue) = true from by simp [carriedByValue]), if_neg (hany a rfl)]
    by_cases hone : (((placesWithHash es.size (fun i => es[i]?.map (·.hash)) (hashD w k)).filterMap (fun i => es[i]?.map (·.key))) == [Value.ref a]) = true
    all_goals
      first
        | (rw [if_pos hone]; refine wpAny_bind (wpAny_pure ?_))
        | (rw [if_neg hone]; refine wpAny_bind (htell _ ?_))
      rw [if_neg (by simp)]
      refine wpAny_bind (wpAny_forIn_list _ (fun rest b s' => s' = s /\ ∃ hit, b = (none, hit) /\ ((hit = none /\ ∀ j : Nat, ks[j]? = some k -> j ∈ rest) \/ ∃ j, hit = some j /\ ks[j]? = some k /\ j ∉ rest) /\ (∀ j ∈ rest, j < es.size) /\ rest.Nodup) _ ?_ ?_ _ _
        ⟨rfl, none, rfl, .inl ⟨rfl, hplace⟩, fun j => places_lt, places_nd⟩)
      · rintro x rest b s' ⟨rfl, hit, rfl, hin, hlt, hnd⟩
        have hx := hlt x List.mem_cons_self
        have hlt' : ∀ j ∈ rest, j < es.size := fun j hj => hlt j (List.mem_cons_of_mem _ hj)
        obtain ⟨hxr, hnd'⟩ := List.nodup_cons.mp hnd
        obtain ⟨k', hk', he⟩ := hget x es[x] (Array.getElem?_eq_getElem hx)
        have next : k' ≠ k -> ((hit = none /\ ∀ j : Nat, ks[j]? = some k -> j ∈ rest) \/ ∃ j, hit = some j /\ ks[j]? = some k /\ j ∉ rest) := fun z => by
          rcases hin with ⟨h0, hin⟩ | ⟨j, h0, hj, hjr⟩
          · refine .inl ⟨h0, fun j hj => ?_⟩
            rcases List.mem_cons.mp (hin j hj) with q | q
            · subst q; rw [hk'] at hj; exact absurd (Option.some.inj hj) z
            · exact q
          · exact .inr ⟨j, h0, hj, fun q => hjr (List.mem_cons_of_mem _ q)⟩
        simp only [Array.getElem?_eq_getElem hx]
        by_cases hh : (es[x].hash == hashD w k) = true
        · rw [if_pos hh]
          refine wpAny_bind (wpAny_dictEpoch ho hd (wpAny_bind (heq k' es[x] _ he (fun z => wpAny_bind (wpAny_dictEpoch ho hd ?_)) (fun z => wpAny_bind (wpAny_dictEpoch ho hd ?_)))))
          · rw [if_neg (by simp)]
            have hkx : ks[x]? = some k := z ▸ hk'
            rcases hin with ⟨rfl, hin⟩ | ⟨j, _, hj, hjr⟩
            · simp only [Option.isSome_none, Bool.false_eq_true, if_false, if_true]
              refine wpAny_bind (wpAny_rule ?_)
              split
              · exact wpAny_pure (wpAny_pure (hsome x hkx))
              · exact wpAny_pure ⟨rfl, some x, rfl, .inr ⟨x, rfl, hkx, hxr⟩, hlt', hnd'⟩
            · exact absurd (nd_ix hn hj hkx ▸ List.mem_cons_self) hjr
          · rw [if_neg (by simp)]
            simp only [Bool.false_eq_true, if_false]
            refine wpAny_bind (wpAny_rule ?_)
            try rw [if_neg (by simp)]
            exact wpAny_pure ⟨rfl, hit, rfl, next z, hlt', hnd'⟩
        · rw [if_neg hh]
          refine wpAny_pure ⟨rfl, hit, rfl, next fun z => hh ?_, hlt', hnd'⟩
          rw [he.2.2.2, z]; simp
      · rintro b s' ⟨rfl, hit, rfl, hin, _⟩
        rcases hin with ⟨rfl, hin⟩ | ⟨j, rfl, hj, _⟩
        · exact wpAny_pure (none_of hin)
        · exact wpAny_pure (hsome j hj)
def DictE (h : Heap) (d : Addr) (es : List DictEntry) (ep : Nat) : Prop := ∃ o, h.get? d = some o /\ o.ExactDict /\ o.data = .dict es.toArray ep
def DictEs (h : Heap) (d : Addr) (es : List DictEntry) : Prop := ∃ o ep, h.get? d = some o /\ o.ExactDict /\ o.data = .dict es.toArray ep
theorem DictEs.ep {h : Heap} {d : Addr} {es : List DictEntry} (x : DictEs h d es) : ∃ ep, DictE h d es ep := let ⟨o, ep, e⟩ := x; ⟨ep, o, e⟩
theorem DictE.es {h : Heap} {d : Addr} {es : List DictEntry} {ep : Nat} (x : DictE h d es ep) : DictEs h d es := let ⟨o, e⟩ := x; ⟨o, ep, e⟩
theorem DictE.typeIs {s : Shared} {d : Addr} {es : List DictEntry} {ep : Nat} (x : DictE s.heap d es ep) : s.TypeIs (.ref d) "dict" := let ⟨o, ho, hc, _⟩ := x; ⟨o, ho, hc.1⟩
theorem DictEs.typeIs {s : Shared} {d : Addr} {es : List DictEntry} (x : DictEs s.heap d es) : s.TypeIs (.ref d) "dict" := let ⟨o, _, ho, hc, _⟩ := x; ⟨o, ho, hc.1⟩
theorem DictEs.toks {s : Shared} {d : Addr} {es : List DictEntry} (x : DictEs s.heap d es) (tk : Nat) : DictEs ({ s with toks := tk } : Shared).heap d es := x
theorem get_D {d : Addr} {es : List DictEntry} {ks : List PyData} {k : PyData} {key : Value} {Q : Option Value -> Shared -> Prop} (hu : A.units + 8 < cLine) (hk : Ask s.heap k key)
    (hm : DictEs s.heap d es) (hes : Ents w s.heap ks es) (hn : ks.Nodup) (hnone : k ∉ ks -> ∀ tk, Q none { s with toks := tk })
    (hsome : ∀ (j : Nat) (e : DictEntry), ks[j]? = some k -> es[j]? = some e -> ∀ tk, Q (some e.val) { s with toks := tk }) : wpAny (model prog w) A (dictGet d key) Q E s := by
  obtain ⟨o, ep, ho, hc, hd⟩ := hm
  obtain ⟨kk, kdp, ⟨as, kr⟩, ksh⟩ := id hk
  unfold dictGet
  refine wpAny_holding (wpAny_bind (hash_go k key as A s _ kk kr (by omega) fun tk => wpAny_bind (find_D (s := { s with toks := tk }) hu hk ho hd hes hn ?_ ?_)))
  · exact fun h => wpAny_pure (hnone h tk)
  · intro j hj
    refine wpAny_bind (wpAny_dictEntries (s := { s with toks := tk }) ho hd ?_)
    obtain ⟨e, he, _⟩ := f2_get' hes j k hj
    have q : es.toArray[j]? = some e := by rw [List.getElem?_toArray]; exact he
    rw [q]
    exact wpAny_pure (hsome j e hj he tk)
theorem set_D {d : Addr} {es : List DictEntry} {ks : List PyData} {k : PyData} {key v : Value} {Q : Unit -> Shared -> Prop} (hu : A.units + 8 < cLine) (hk : Ask s.heap k key)
    (hm : DictEs s.heap d es) (hes : Ents w s.heap ks es) (hn : ks.Nodup) (hsz : es.length <= sizeLine)
    (hQ : ∀ (h' : Heap) (tk : Nat) (es' : List DictEntry), DictEs h' d es' -> Heap.SameBut d s.heap h' -> ((k ∉ ks /\ es' = es ++ [⟨hashD w k, key, v⟩]) \/ ∃ j : Nat, ks[j]? = some k /\ es' = es.modify j fun e => { e with val := v }) ->
      Q () { s with heap := h', toks := tk }) : wpAny (model prog w) A (dictSet d key v) Q E s := by
  obtain ⟨o, ep, ho, hc, hd⟩ := hm
  obtain ⟨kk, kdp, ⟨as, kr⟩, ksh⟩ := id hk
  unfold dictSet
  refine wpAny_holding (wpAny_bind (hash_go k key as A s _ kk kr (by omega) fun tk => ?_))
  unfold dictSetHashed
  refine wpAny_holding (wpAny_bind (find_D (s := { s with toks := tk }) hu hk ho hd hes hn ?_ ?_))
  · intro h
    refine wpAny_bind (wpAny_rule (wpAny_updateDictKeys (hz := by simpa using hsz) (s := { s with toks := tk }) ho hd (hQ _ tk (es ++ [⟨hashD w k, key, v⟩]) ⟨_, ep + 1, Heap.get?_update_self _ ho (Obj.isFreed_of_dict (Obj.data_mapDictKeys hd _)), hc.mapDictKeys _, ?_⟩ (Heap.SameBut.update ..) (.inl ⟨h, rfl⟩))))
    rw [Obj.data_mapDictKeys hd _]
    simp
  · intro j hj
    refine wpAny_bind (wpAny_rule (wpAny_bind (wpAny_updateDict (s := { s with toks := tk }) ho hd (wpAny_point (hQ _ tk (es.modify j fun e => { e with val := v }) ⟨_, ep, Heap.get?_update_self _ ho (Obj.isFreed_of_dict (Obj.data_mapDict hd _)), hc.mapDict _, ?_⟩ (Heap.SameBut.update ..) (.inr ⟨j, hj, rfl⟩))))))
    rw [Obj.data_mapDict hd _]
    simp
theorem meets_D (d : Addr) (key dflt : Value) (hd : (d == sysModules) = false) :
    MeetsIn prog w (Builtin.«dict.get» ⟨[.ref d, key, dflt], []⟩) (fun A R s => A.in1.units + 8 < cLine /\ ∃ k ks es, Ask s.heap k key /\ DictEs s.heap d es /\ Ents w s.heap ks es /\ ks.Nodup /\
      (k ∉ ks -> ∀ tk, R (.ok (.ret dflt)) { s with toks := tk }) /\ ∀ (j : Nat) (e : DictEntry), ks[j]? = some k -> es[j]? = some e -> ∀ tk, R (.ok (.ret e.val)) { s with toks := tk }) :=
  .of_wp fun A R s ⟨hu, k, ks, es, hk, hm, hes, hn, h1, h2⟩ => by
    show wpAny _ _ (dictGet d key >>= _) _ _ s
    refine wpAny_bind (get_D hu hk hm hes hn (fun h tk => ?_) fun j e hj he tk => wpAny_pure ⟨_, rfl, h2 j e hj he tk⟩)
    show wpAny _ _ (Builtin.Dict.missed d key >>= _) _ _ _
    exact wpAny_bind (wpAny_missed_other hd (wpAny_pure ⟨dflt, rfl, h1 h tk⟩))
theorem put_D {d : Addr} {es : List DictEntry} {ks : List PyData} {k : PyData} {key v : Value} {Q : Unit -> Shared -> Prop} (hu : A.in1.units + 8 < cLine) (hk : Ask s.heap k key)
    (hm : DictEs s.heap d es) (hes : Ents w s.heap ks es) (hn : ks.Nodup) (hsz : es.length <= sizeLine)
    (hQ : ∀ (h' : Heap) (tk : Nat) (es' : List DictEntry), DictEs h' d es' -> Heap.SameBut d s.heap h' -> ((k ∉ ks /\ es' = es ++ [⟨hashD w k, key, v⟩]) \/ ∃ j : Nat, ks[j]? = some k /\ es' = es.modify j fun e => { e with val := v }) ->
      Q () { s with heap := h', toks := tk }) : wpAny (model prog w) A (setItem (.ref d) key v) Q E s := by
  unfold setItem
  refine wpAny_holding (wpAny_bind (wpAny_sequenceKey hm.typeIs (by decide) (wpAny_bind (wpAny_callSpecial?_slot (name := Str.ofString "__setitem__") hm.typeIs slot_dict_setitem
    (wpAny_call_entry slot_dict_setitem hm.typeIs entry_dict_setitem ?_ (args_dict_setitem _ _ _))))))
  show wpAny _ _ (Builtin.Dict.notOrdered "__setitem__" ⟨[.ref d, key, v], []⟩ >>= _) _ _ s
  refine wpAny_bind (wpAny_notOrdered_dict hm.typeIs ?_)
  show wpAny _ _ (dictSet d key v >>= _) _ _ s
  exact wpAny_bind (set_D hu hk hm hes hn hsz fun h' tk es' a b c => wpAny_pure ⟨.none, rfl, wpAny_pure (hQ h' tk es' a b c)⟩)
/-! ### its keys, walked -/
end
end MX

namespace L2
open PySem PySem.Spec PyProof.Rows
/-! ### data: what a value is worth, over the abstract heap -/
mutual
def DV (H : Hp) : PyData -> V -> Prop
  | .none, x => x = .non
  | .bool b, x => x = .bl b
  | .int i, x => x = .int i
  | .str t, x => x = .str t
  | .list ds, x => ∃ (a : Addr) (vs : List V), x = .ref a /\ H a = some (.lst vs) /\ DVs H ds vs
  | .tuple ds, x => ∃ (a : Addr) (vs : List V), x = .ref a /\ H a = some (.tup vs) /\ DVs H ds vs
  | .dict _, _ => False
def DVs (H : Hp) : List PyData -> List V -> Prop
  | [], vs => vs = []
  | d :: ds, vs => ∃ (v : V) (r : List V), vs = v :: r /\ DV H d v /\ DVs H ds r
end
section
variable {P : Program} {w : World} {H H' : Hp} {h : Heap}
mutual
theorem DV.reads (ok : HOk P w H h) : ∀ (d : PyData) (x : V) (u : Value), DV H d x -> RelV x u -> ∃ as, Reads h u d as
  | .none, _, _, e, r => by cases e; cases r; exact ⟨_, .none⟩
  | .bool b, _, _, e, r => by cases e; cases r; exact ⟨_, .bool b⟩
  | .int i, _, _, e, r => by cases e; obtain ⟨t, rfl⟩ := r; exact ⟨_, .int i t⟩
  | .str y, _, _, e, r => by cases e; obtain ⟨t, rfl⟩ := r; exact ⟨_, .str y t⟩
  | .list ds, _, _, e, r => by
    obtain ⟨a, vs, rfl, ha, hv⟩ := e
    cases r
    obtain ⟨_, its, n, rv, hg⟩ := ok a _ ha
    obtain ⟨as, q⟩ := DVs.reads ok ds vs its hv rv
    exact ⟨_, .list hg rfl rfl (by simpa using q)⟩
  | .tuple ds, _, _, e, r => by
    obtain ⟨a, vs, rfl, ha, hv⟩ := e
    cases r
    obtain ⟨_, its, rv, o, hg, hc, n, hd⟩ := ok a _ ha
    obtain ⟨as, q⟩ := DVs.reads ok ds vs its hv rv
    exact ⟨_, .tuple hg hc hd (by simpa using q)⟩
  | .dict _, _, _, e, _ => False.elim e
theorem DVs.reads (ok : HOk P w H h) : ∀ (ds : List PyData) (vs : List V) (us : List Value), DVs H ds vs -> Vals vs us -> ∃ as, ReadsAll h us ds as
  | [], _, _, e, r => by cases e; cases r; exact ⟨_, .nil⟩
  | d :: ds, _, _, e, r => by
    obtain ⟨v, vs, rfl, h1, h2⟩ := e
    cases r with
    | cons r1 r2 =>
      obtain ⟨as, q1⟩ := DV.reads ok d _ _ h1 r1
      obtain ⟨bs, q2⟩ := DVs.reads ok ds _ _ h2 r2
      exact ⟨_, .cons q1 q2⟩
end
mutual
theorem DV.mono (hs : ∀ b vs, H b = some (.lst vs) -> H' b = some (.lst vs)) (ht : ∀ b vs, H b = some (.tup vs) -> H' b = some (.tup vs)) : ∀ (d : PyData) (x : V), DV H d x -> DV H' d x
  | .none, _, e => e
  | .bool _, _, e => e
  | .int _, _, e => e
  | .str _, _, e => e
  | .list ds, _, ⟨a, vs, e, ha, hv⟩ => ⟨a, vs, e, hs _ _ ha, DVs.mono hs ht ds vs hv⟩
  | .tuple ds, _, ⟨a, vs, e, ha, hv⟩ => ⟨a, vs, e, ht _ _ ha, DVs.mono hs ht ds vs hv⟩
  | .dict _, _, e => e
theorem DVs.mono (hs : ∀ b vs, H b = some (.lst vs) -> H' b = some (.lst vs)) (ht : ∀ b vs, H b = some (.tup vs) -> H' b = some (.tup vs)) : ∀ (ds : List PyData) (vs : List V), DVs H ds vs -> DVs H' ds vs
  | [], _, e => e
  | d :: ds, _, ⟨v, r, e, h1, h2⟩ => ⟨v, r, e, DV.mono hs ht d v h1, DVs.mono hs ht ds r h2⟩
end
mutual
theorem DV.keep (ht : ∀ b vs, H b = some (.tup vs) -> H' b = some (.tup vs)) : ∀ (d : PyData) (x : V), MX.kd d = true -> DV H d x -> DV H' d x
  | .int _, _, _, e => e
  | .str _, _, _, e => e
  | .tuple ds, _, k, ⟨a, vs, e, ha, hv⟩ => ⟨a, vs, e, ht _ _ ha, DVs.keep ht ds vs k hv⟩
  | .none, _, k, _ => by cases k
  | .bool _, _, k, _ => by cases k
  | .list _, _, k, _ => by cases k
  | .dict _, _, k, _ => by cases k
theorem DVs.keep (ht : ∀ b vs, H b = some (.tup vs) -> H' b = some (.tup vs)) : ∀ (ds : List PyData) (vs : List V), MX.kds ds = true -> DVs H ds vs -> DVs H' ds vs
  | [], _, _, e => e
  | d :: ds, _, k, ⟨v, r, e, h1, h2⟩ => by
    have k' : (MX.kd d && MX.kds ds) = true := k
    rw [Bool.and_eq_true] at k'
    exact ⟨v, r, e, DV.keep ht d v k'.1 h1, DVs.keep ht ds r k'.2 h2⟩
end
theorem DVs.length : ∀ {ds : List PyData} {vs : List V}, DVs H ds vs -> vs.length = ds.length
  | [], _, e => by cases e; rfl
  | d :: ds, _, ⟨v, r, e, _, h2⟩ => by subst e; rw [List.length_cons, List.length_cons, DVs.length h2]
theorem DVs.get : ∀ {ds : List PyData} {vs : List V} {j : Nat} {v : V}, DVs H ds vs -> vs[j]? = some v -> ∃ d, ds[j]? = some d /\ DV H d v
  | [], _, j, v, e, g => by cases e; simp at g
  | d :: ds, _, 0, v, ⟨v', r, e, h1, h2⟩, g => by subst e; simp at g; subst g; exact ⟨d, rfl, h1⟩
  | d :: ds, _, j + 1, v, ⟨v', r, e, h1, h2⟩, g => by
    subst e
    obtain ⟨d', a, b⟩ := DVs.get (j := j) (v := v) h2 (by simpa using g)
    exact ⟨d', by simpa using a, b⟩
theorem DVs.snoc : ∀ {ds : List PyData} {vs : List V} {d : PyData} {v : V}, DVs H ds vs -> DV H d v -> DVs H (ds ++ [d]) (vs ++ [v])
  | [], _, d, v, e, h => by cases e; exact ⟨v, [], rfl, h, rfl⟩
  | c :: ds, _, d, v, ⟨v', r, e, h1, h2⟩, h => by subst e; exact ⟨v', r ++ [v], rfl, h1, DVs.snoc h2 h⟩
end
def LayD (d : PyData) : Prop := d.canLay0 = true /\ d.depth <= 16
theorem LayD.key {d : PyData} (h : MX.kd d = true) (h2 : d.depth <= 8) : LayD d := ⟨MX.kd_lay d h, by omega⟩
theorem LayD.int (i : Int) : LayD (.int i) := ⟨rfl, by show 0 <= 16; decide⟩
def rEqD (neg : Bool) : R2 := fun x y H Q => ∃ d e, DV H d x /\ DV H e y /\ LayD d /\ LayD e /\ Q (.bl (if neg then !PyData.eqv d e else PyData.eqv d e)) H
section
variable {X : Cx}
theorem op_eqD (hu : X.A.units + 64 < cLine) : OpR X (compareOp .Eq) (rEqD false) := by
  intro pins s σ H x y v u Q I rx ry h
  obtain ⟨d, e, h1, h2, l1, l2, q⟩ := h
  obtain ⟨as, r1⟩ := DV.reads I.hok d x v h1 rx
  obtain ⟨bs, r2⟩ := DV.reads I.hok e y u h2 ry
  exact SeqAt.compareEq_reads r1 r2 l1.1 l2.1 (by have := l1.2; omega) ⟨.bl _, H, I, rfl, q⟩
theorem op_neD (hu : X.A.units + 64 < cLine) : OpR X (compareOp .NotEq) (rEqD true) := by
  intro pins s σ H x y v u Q I rx ry h
  obtain ⟨d, e, h1, h2, l1, l2, q⟩ := h
  obtain ⟨as, r1⟩ := DV.reads I.hok d x v h1 rx
  obtain ⟨bs, r2⟩ := DV.reads I.hok e y u h2 ry
  exact SeqAt.neOverData X.prog X.w X.A X.xe s v u d e as bs _ r1 r2 l1.1 l2.1 (by have := l1.2; omega) ⟨.bl _, H, I, rfl, q⟩
end
/-! ### a dict whose keys are texts and tuples -/
def DObj (a : Addr) (es : List DictEntry) (ep : Nat) : HO := .ext fun h => (a == sysModules) = false /\ MX.DictE h a es ep
def KEnt (w : World) (H : Hp) (p : PyData × V) (e : DictEntry) : Prop := MX.kd p.1 = true /\ p.1.depth <= 8 /\ e.hash = MX.hashD w p.1 /\ (∃ x, RelV x e.key /\ DV H p.1 x) /\ RelV p.2 e.val
def MD (w : World) (H : Hp) (a : Addr) (kvs : List (PyData × V)) : Prop := ∃ es ep, H a = some (DObj a es ep) /\ Paired (KEnt w H) kvs es /\ (kvs.map (·.1)).Nodup /\ kvs.length <= sizeLine
def KeyV (H : Hp) (k : PyData) (y : V) : Prop := MX.kd k = true /\ k.depth <= 8 /\ DV H k y /\ ((∃ t, y = .str t) \/ ∃ b, y = .ref b)
def lookD (kvs : List (PyData × V)) (k : PyData) : Option V := (kvs.find? fun p => PyData.eqv p.1 k).map (·.2)
def putD (kvs : List (PyData × V)) (k : PyData) (v : V) : List (PyData × V) :=
  if (kvs.any fun p => PyData.eqv p.1 k) = true then kvs.map (fun p => if PyData.eqv p.1 k = true then (p.1, v) else p) else kvs ++ [(k, v)]
theorem DObj.ok {P : Program} {w : World} {H : Hp} {h : Heap} {a : Addr} {es : List DictEntry} {ep : Nat} (hs : (a == sysModules) = false) (hm : MX.DictE h a es ep) : ObjOk P w H h a (DObj a es ep) := by
  refine ⟨⟨hs, hm⟩, ?_, fun h1 h2 ⟨z, o, e, r⟩ k => ⟨z, o, k o e, r⟩⟩
  obtain ⟨o, e, _⟩ := hm
  exact ⟨o, e⟩
theorem DObj.of {P : Program} {w : World} {H : Hp} {h : Heap} {a : Addr} {es : List DictEntry} {ep : Nat} (ok : HOk P w H h) (e : H a = some (DObj a es ep)) : (a == sysModules) = false /\ MX.DictE h a es ep := by
  obtain ⟨q, _⟩ := ok a _ e
  exact q
theorem Paired.keys {w : World} {H : Hp} : ∀ {kvs : List (PyData × V)} {es : List DictEntry}, Paired (KEnt w H) kvs es -> kvs.length = es.length
  | _, _, .nil => rfl
  | _, _, .cons _ t => by rw [List.length_cons, List.length_cons, Paired.keys t]
theorem ents_of {P : Program} {w : World} {H : Hp} {h : Heap} (ok : HOk P w H h) : ∀ {kvs : List (PyData × V)} {es : List DictEntry}, Paired (KEnt w H) kvs es -> MX.Ents w h (kvs.map (·.1)) es
  | _, _, .nil => .nil
  | _, _, .cons ⟨k1, k2, k3, ⟨x, rx, dx⟩, _⟩ t => .cons ⟨k1, k2, DV.reads ok _ _ _ dx rx, k3⟩ (ents_of ok t)
theorem ask_of {P : Program} {w : World} {H : Hp} {h : Heap} {k : PyData} {y : V} {u : Value} (ok : HOk P w H h) (hk : KeyV H k y) (r : RelV y u) : MX.Ask h k u := by
  obtain ⟨k1, k2, k3, k4⟩ := hk
  refine ⟨k1, k2, DV.reads ok _ _ _ k3 r, ?_⟩
  rcases k4 with ⟨t, rfl⟩ | ⟨b, rfl⟩
  · obtain ⟨tk, rfl⟩ := r; exact .inl ⟨_, _, rfl⟩
  · cases r; exact .inr ⟨_, rfl⟩
section
variable {w : World} {H : Hp}
theorem eqv_false {d e : PyData} (h1 : MX.kd d = true) (h2 : MX.kd e = true) (n : d ≠ e) : PyData.eqv d e = false := by
  cases q : PyData.eqv d e with
  | false => rfl
  | true => exact absurd ((MX.eqv_iff d e h1 h2).mp q) n
theorem eqv_self {d : PyData} (h1 : MX.kd d = true) : PyData.eqv d d = true := (MX.eqv_iff d d h1 h1).mpr rfl
def KK (kvs : List (PyData × V)) : Prop := ∀ p ∈ kvs, MX.kd p.1 = true
theorem KK.of {kvs : List (PyData × V)} {es : List DictEntry} : Paired (KEnt w H) kvs es -> KK kvs := by
  intro r
  induction r with
  | nil => intro p h; cases h
  | cons a _ ih =>
    intro p h
    rcases List.mem_cons.mp h with rfl | h
    · exact a.1
    · exact ih p h
theorem lookD_at {k : PyData} (hk : MX.kd k = true) : ∀ {kvs : List (PyData × V)} {j : Nat}, KK kvs -> (kvs.map (·.1)).Nodup -> (kvs.map (·.1))[j]? = some k -> ∃ v, kvs[j]? = some (k, v) /\ lookD kvs k = some v
  | [], j, _, _, e => by simp at e
  | (a, v) :: r, 0, kk, _, e => by
    simp at e; subst e
    refine ⟨v, rfl, ?_⟩
    unfold lookD
    rw [List.find?_cons, eqv_self hk]; rfl
  | (a, v) :: r, j + 1, kk, nd, e => by
    have nd' : (a :: r.map (·.1)).Nodup := nd
    obtain ⟨n1, n2⟩ := List.nodup_cons.mp nd'
    have e' : (r.map (·.1))[j]? = some k := by simpa using e
    obtain ⟨v', h1, h2⟩ := lookD_at hk (fun p h => kk p (List.mem_cons_of_mem _ h)) n2 e'
    refine ⟨v', by simpa using h1, ?_⟩
    have ne : a ≠ k := fun z => n1 (by rw [z]; exact List.mem_of_getElem? e')
    unfold lookD at h2 ⊢
    rw [List.find?_cons, eqv_false (kk _ List.mem_cons_self) hk ne]
    exact h2
theorem lookD_no {k : PyData} (hk : MX.kd k = true) {kvs : List (PyData × V)} (kk : KK kvs) (n : k ∉ kvs.map (·.1)) : lookD kvs k = none := by
  unfold lookD
  rw [List.find?_eq_none.mpr fun p hp => ?_]
  · rfl
  · rw [eqv_false (kk p hp) hk fun z => n (List.mem_map.mpr ⟨p, hp, z⟩)]; decide
theorem putD_no {k : PyData} (hk : MX.kd k = true) {kvs : List (PyData × V)} (kk : KK kvs) (n : k ∉ kvs.map (·.1)) (v : V) : putD kvs k v = kvs ++ [(k, v)] := by
  unfold putD
  rw [if_neg]
  intro h
  obtain ⟨p, hp, e⟩ := List.any_eq_true.mp h
  exact n (List.mem_map.mpr ⟨p, hp, (MX.eqv_iff _ _ (kk p hp) hk).mp e⟩)
theorem map_put_id {k : PyData} (hk : MX.kd k = true) {kvs : List (PyData × V)} (kk : KK kvs) (n : k ∉ kvs.map (·.1)) (v : V) : kvs.map (fun p => if PyData.eqv p.1 k = true then (p.1, v) else p) = kvs := by
  induction kvs with
  | nil => rfl
  | cons p r ih =>
    have hp : p.1 ≠ k := fun z => n (List.mem_map.mpr ⟨p, List.mem_cons_self, z⟩)
    rw [List.map_cons, eqv_false (kk p List.mem_cons_self) hk hp, ih (fun q h => kk q (List.mem_cons_of_mem _ h)) fun h => n (by rw [List.map_cons]; exact List.mem_cons_of_mem _ h)]
    simp
theorem put_at {k : PyData} (hk : MX.kd k = true) {v : V} {u : Value} (rv : RelV v u) : ∀ {kvs : List (PyData × V)} {es : List DictEntry} {j : Nat}, Paired (KEnt w H) kvs es -> (kvs.map (·.1)).Nodup -> (kvs.map (·.1))[j]? = some k ->
    Paired (KEnt w H) (kvs.map (fun p => if PyData.eqv p.1 k = true then (p.1, v) else p)) (es.modify j fun e => { e with val := u })
  | _, _, j, .nil, _, e => by simp at e
  | (a, v') :: r, e0 :: es, 0, .cons q t, nd, e => by
    simp at e; subst e
    have nd' : (a :: r.map (·.1)).Nodup := nd
    rw [List.map_cons, eqv_self hk, map_put_id hk (KK.of t) (List.nodup_cons.mp nd').1]
    exact .cons ⟨q.1, q.2.1, q.2.2.1, q.2.2.2.1, rv⟩ t
  | (a, v') :: r, e0 :: es, j + 1, .cons q t, nd, e => by
    have nd' : (a :: r.map (·.1)).Nodup := nd
    obtain ⟨n1, n2⟩ := List.nodup_cons.mp nd'
    have e' : (r.map (·.1))[j]? = some k := by simpa using e
    have ne : a ≠ k := fun z => n1 (by rw [z]; exact List.mem_of_getElem? e')
    rw [List.map_cons, eqv_false q.1 hk ne]
    exact .cons q (put_at hk rv t n2 e')
theorem any_of {k : PyData} (hk : MX.kd k = true) {kvs : List (PyData × V)} {j : Nat} (e : (kvs.map (·.1))[j]? = some k) : (kvs.any fun p => PyData.eqv p.1 k) = true := by
  obtain ⟨p, hp, z⟩ := List.mem_map.mp (List.mem_of_getElem? e)
  exact List.any_eq_true.mpr ⟨p, hp, by rw [z]; exact eqv_self hk⟩
theorem keys_putD {k : PyData} {v : V} {kvs : List (PyData × V)} : (kvs.map (fun p => if PyData.eqv p.1 k = true then (p.1, v) else p)).map (·.1) = kvs.map (·.1) := by
  rw [List.map_map]
  congr 1
  funext p
  show (if PyData.eqv p.1 k = true then (p.1, v) else p).1 = p.1
  split <;> rfl
theorem len_putD (kvs : List (PyData × V)) (k : PyData) (v : V) : (putD kvs k v).length <= kvs.length + 1 := by
  unfold putD
  split
  · rw [List.length_map]; omega
  · rw [List.length_append]; exact Nat.le_refl _
end
section
variable {w : World} {H H' : Hp} {a : Addr} {kvs : List (PyData × V)}
theorem KEnt.keep (ht : ∀ b vs, H b = some (.tup vs) -> H' b = some (.tup vs)) {p : PyData × V} {e : DictEntry} (q : KEnt w H p e) : KEnt w H' p e := by
  obtain ⟨k1, k2, k3, ⟨x, rx, dx⟩, k5⟩ := q
  exact ⟨k1, k2, k3, ⟨x, rx, DV.keep ht _ _ k1 dx⟩, k5⟩
theorem MD.keep (m : MD w H a kvs) (ha : H' a = H a) (ht : ∀ b vs, H b = some (.tup vs) -> H' b = some (.tup vs)) : MD w H' a kvs := by
  obtain ⟨es, ep, h1, h2, h3⟩ := m
  exact ⟨es, ep, by rw [ha]; exact h1, Paired.mapP h2 fun _ _ q => q.keep ht, h3⟩
end
section
variable {X : Cx} {pins : List (Addr × Obj)} {σ : St} {H : Hp} {s : Shared} {a : Addr} {kvs : List (PyData × V)} {k : PyData} {y v d : V} {u r : Value} {A : Around} {E : Value -> Shared -> Prop}
theorem in1u {A : Around} (hu : A.units + 64 < cLine) : A.in1.units + 8 < cLine := by
  rw [Around.in1_units]; omega
theorem md_get2 {Q : Value -> Shared -> Prop} (hu : A.units + 64 < cLine) (I : Inv X pins σ H s) (m : MD X.w H a kvs) (hk : KeyV H k y) (ry : RelV y u) (rd : RelV d r) (h : ∀ w' s', Inv X pins σ H s' -> RelV ((lookD kvs k).getD d) w' -> Q w' s') :
    wpAny (model X.prog X.w) A (call (.builtin "dict.get") [.ref a, u, r]) Q E s := by
  obtain ⟨es, ep, h1, h2, h3, h4⟩ := m
  obtain ⟨hs, hme⟩ := DObj.of I.hok h1
  have hm := hme.es
  refine call_meetsIn PySem.F.slot_dict_get hm.typeIs PySem.F.entry_dict_get (PySem.F.args_dict_get_3 _ _ _) (MX.meets_D a u r hs) ⟨in1u hu, k, _, es, ask_of I.hok hk ry, hm, ents_of I.hok h2, h3, fun n tk => h _ _ (I.tok _) ?_, fun j e hj he tk => h _ _ (I.tok _) ?_⟩
  · rw [lookD_no hk.1 (KK.of h2) n]; exact rd
  · obtain ⟨v', g1, g2⟩ := lookD_at hk.1 (KK.of h2) h3 hj
    rw [g2]
    obtain ⟨p, e1, e2⟩ := MX.f2_get h2 j e he
    rw [g1] at e1; cases e1
    exact e2.2.2.2.2
theorem md_put {Q : Unit -> Shared -> Prop} (hu : A.units + 64 < cLine) (I : Inv X pins σ H s) (m : MD X.w H a kvs) (hl : kvs.length < sizeLine) (hk : KeyV H k y) (ry : RelV y u) (rv : RelV v r)
    (h : ∀ H' s', Inv X pins σ H' s' -> (∀ b, b ≠ a -> H' b = H b) -> MD X.w H' a (putD kvs k v) -> Q () s') : wpAny (model X.prog X.w) A (setItem (.ref a) u r) Q E s := by
  obtain ⟨es, ep, h1, h2, h3, h4⟩ := m
  obtain ⟨hs, hme⟩ := DObj.of I.hok h1
  have hm := hme.es
  have kk := KK.of h2
  have hz : es.length <= sizeLine := by rw [← Paired.keys h2]; omega
  refine MX.put_D (in1u hu) (ask_of I.hok hk ry) hm (ents_of I.hok h2) h3 hz fun h' tk es' hm' hsb hor => ?_
  obtain ⟨ep', hm2⟩ := hm'.ep
  have I' : Inv X pins σ (upd H a (DObj a es' ep')) { s with heap := h', toks := tk } := d_write I (by rw [h1]; exact True.intro) hsb (let ⟨o, e, _⟩ := hm2; ⟨o, e⟩) (DObj.ok hs hm2)
  refine h _ _ I' (fun b hb => upd_ne hb) ⟨es', ep', upd_same, ?_⟩
  have ht : ∀ b vs, H b = some (.tup vs) -> upd H a (DObj a es' ep') b = some (.tup vs) := fun b vs e => by
    rw [upd_ne (ne_of e h1 (by intro z; cases z))]; exact e
  rcases hor with ⟨n, rfl⟩ | ⟨j, hj, rfl⟩
  · rw [putD_no hk.1 kk n]
    refine ⟨?_, ?_, by rw [List.length_append]; show kvs.length + 1 <= sizeLine; omega⟩
    · refine Paired.snoc (Paired.mapP h2 fun _ _ q => q.keep ht) ⟨hk.1, hk.2.1, rfl, ⟨y, ry, DV.keep ht _ _ hk.1 hk.2.2.1⟩, rv⟩
    · rw [List.map_append]
      exact nd_snocP h3 n
  · have e : putD kvs k v = kvs.map (fun p => if PyData.eqv p.1 k = true then (p.1, v) else p) := by
      unfold putD; rw [if_pos (any_of hk.1 hj)]
    rw [e]
    exact ⟨Paired.mapP (put_at hk.1 rv h2 h3 hj) fun _ _ q => q.keep ht, by rw [keys_putD]; exact h3, by rw [List.length_map]; exact h4⟩
where
  nd_snocP {l : List PyData} {k : PyData} (hn : l.Nodup) (hk : k ∉ l) : (l ++ [k]).Nodup := by
    rw [List.nodup_append]
    exact ⟨hn, by simp, fun x hx y hy => by
      rw [List.mem_singleton.mp hy]; exact fun z => hk (z ▸ hx)⟩
end
end L2

namespace L2
open PySem PySem.Spec PyProof.Rows
/-! ### the mixed dict: rules -/
def tMNew : TE := fun _ H Q => ∀ p, H p = none -> Q (.ref p) (upd H p (DObj p [] 0))
theorem MD.nil {w : World} {H : Hp} {p : Addr} : MD w (upd H p (DObj p [] 0)) p [] := ⟨[], 0, upd_same, .nil, List.nodup_nil, Nat.zero_le _⟩
def sMPut (w : World) (td ty tv : TE) : TS := fun D σ H => tv σ H fun v H1 => td σ H1 fun x H2 => ty σ H2 fun y H3 => ∃ a kvs k, x = .ref a /\ MD w H3 a kvs /\ kvs.length < sizeLine /\ KeyV H3 k y /\
  ∀ H4, (∀ b, b ≠ a -> H4 b = H3 b) -> MD w H4 a (putD kvs k v) -> D.nx σ H4
def tMGet2 (w : World) (td ty tx : TE) : TE := fun σ H Q => td σ H fun x H1 => ∃ a, x = .ref a /\ (∃ kvs, MD w H1 a kvs) /\ ty σ H1 fun y H2 => tx σ H2 fun z H3 => ∃ kvs k, MD w H3 a kvs /\ KeyV H3 k y /\ Q ((lookD kvs k).getD z) H3
def tMItem (w : World) (td ty : TE) : TE := fun σ H Q => td σ H fun x H1 => ty σ H1 fun y H2 => ∃ a kvs k v, x = .ref a /\ MD w H2 a kvs /\ KeyV H2 k y /\ lookD kvs k = some v /\ Q v H2
section
variable {X : Cx} {o i e f value : Expr} {pos pos' apos cpos : Pos} {td ty tv tx : TE}
theorem pe_mnew : PE X (.Dict [] [] pos) tMNew := fun pins s σ H Q I h =>
  wpAny_Dict_empty ⟨.ref s.heap.objs.size, _, I.laid (a := s.heap.objs.size) (o := DObj s.heap.objs.size [] 0) (t' := s.toks) (fun _ _ q => Heap.get?_push_of_some _ q) (Nat.le_refl _)
    (DObj.ok (beq_eq_false_iff_ne.mpr (Ne.symm (Nat.ne_of_lt I.big))) ⟨_, Heap.get?_push_size _ rfl, ⟨rfl, rfl, rfl⟩, rfl⟩), rfl, h _ (I.hok.fresh (Nat.le_refl _))⟩
theorem ps_mput (hu : X.A.units + 64 < cLine) (ho : PE X o td) (hi : PE X i ty) (hv : PE X value tv) (hs : swapsWith value (some (.Subscript o i pos')) pos.line X.env = pure false) :
    PS X (.Assign [.Subscript o i pos'] value pos) (sMPut X.w td ty tv) := by
  intro pins s σ H D I h
  refine wpAny_Assign_Subscript (thn (hv pins s σ H _ I h) fun r s1 ⟨v, H1, I1, rv, q1⟩ => thn (ho pins s1 σ H1 _ I1 q1) fun u s2 ⟨x, H2, I2, rx, q2⟩ => thn (hi pins s2 σ H2 _ I2 q2) fun iv s3 ⟨y, H3, I3, ry, a, kvs, k, ex, m, hl, hk, q3⟩ => ?_) hs
  subst ex
  obtain rfl : u = Value.ref a := rx
  exact md_put hu I3 m hl hk ry rv fun H4 s4 I4 g1 g2 => ⟨σ, H4, I4, q3 H4 g1 g2⟩
theorem pe_mget2 (hu : X.A.units + 64 < cLine) (ho : PE X o td) (he : PE X e ty) (hf : PE X f tx) (m : M2 X o "get" apos e f cpos) : PE X (.Call (.Attribute o "get" apos) [e, f] [] cpos) (tMGet2 X.w td ty tx) := by
  intro pins s σ H Q I h
  refine wpAny_Call_method m.base m.few m.line PySem.F.plainAttrs_dict PySem.F.slot_dict_get PySem.F.type_dict_get (thn (ho pins s σ H _ I h) fun u s1 ⟨x, H1, I1, rx, a, ex, ⟨kv0, es, ep, e1, _⟩, q1⟩ => ?_)
  subst ex
  obtain rfl : u = Value.ref a := rx
  obtain ⟨_, ob, g1, g2, g3⟩ := DObj.of I1.hok e1
  refine ⟨⟨ob, g1, g2.1⟩, fun b eb => by injection eb with eb; subst eb; exact ⟨ob, g1, g2.2.1⟩, ?_⟩
  rw [m.trees]
  refine Calls.callWith_builtin rfl (Calls.evalArgs_plain (Calls.spliced_cons (thn (he pins s1 σ H1 _ I1 q1) fun iv s2 ⟨y, H2, I2, ry, q2⟩ =>
    Calls.spliced_cons (thn (hf pins s2 σ H2 _ I2 q2) fun fv s3 ⟨z, H3, I3, rz, kvs, k, md, hk, q3⟩ => Calls.spliced_nil ?_))))
  exact md_get2 hu I3 md hk ry rz fun w' s4 I4 rw' => ⟨_, H3, I4, rw', q3⟩
end
/-! ### reversed(xs), walked -/
def Itv (K : PySem.W.Frag) (a : Addr) (n : Nat) : It :=
  ⟨fun i H => i < n /\ ∃ xs, SqL K H a xs /\ xs.length = n, fun i H x H' => H' = H /\ ∀ xs, SqL K H a xs -> xs[n - 1 - i]? = some x, fun i _ => i = n⟩
theorem turn_rev {P : Program} {w : World} {K : PySem.W.Frag} {tg : Expr} (a it : Addr) (n : Nat) : Turn P w K tg (Itv K a n) [it] it (fun i h => h.IsRevIter it a ((n : Int) - 1 - i)) where
  mem := List.mem_singleton.mpr rfl
  obj := fun i h st b hb => by
    obtain rfl : b = it := List.mem_singleton.mp hb
    obtain ⟨o, e, c, d⟩ := st
    exact ⟨o, e, fun v z => by rw [d] at z; cases z⟩
  keep := fun i h h' st k => st.at fun o e => k it (List.mem_singleton.mpr rfl) o e
  item := by
    intro X hP hw hK hc i pins s σ H E I hf st hg
    subst hP hw hK
    obtain ⟨hi, xs, hq, hn⟩ := hg
    obtain ⟨its, rv, p, hz⟩ := I.list hq
    have hlt : n - 1 - i < xs.length := by omega
    obtain ⟨u, hu, ru⟩ := rv.get (List.getElem?_eq_getElem hlt)
    obtain ⟨f0, f1, f2, f3, f4, f5⟩ := hf it (List.mem_singleton.mpr rfl)
    have ei : (n : Int) - 1 - i = ((n - 1 - i : Nat) : Int) := by omega
    rw [ei] at st
    refine wpAny_pyNext_rev_item st p.isList (x := u) (by simpa using hu) fun h' st' sb => ?_
    have I1 : Inv X pins σ H { s with heap := h' } := I.turned (t' := s.toks) (fun b o hb e => (sb.2 b hb).trans e) f0 f1 f3 f4 f5
    have ej : ((n - 1 - i : Nat) : Int) - 1 = (n : Int) - 1 - ((i + 1 : Nat) : Int) := by omega
    rw [ej] at st'
    obtain ⟨o, e, c, d⟩ := id st'
    exact ⟨u, rfl, go_of (s := { s with heap := h' }) e c d (by decide) ⟨_, H, I1, ru, ⟨rfl, fun ys hy => by rw [I.list_inj hy hq]; exact List.getElem?_eq_getElem hlt⟩, st', fun b hb => (hf b hb).1⟩⟩
  done := by
    intro X hP hw hK hc i pins s σ H E I hf st hg
    subst hP hw hK
    obtain ⟨f0, f1, f2, f3, f4, f5⟩ := hf it (List.mem_singleton.mpr rfl)
    have hg' : i = n := hg
    have ei : (n : Int) - 1 - i = -1 := by omega
    rw [ei] at st
    exact wpAny_pyNext_rev_end (I.ok.hd hc) st fun h' eb => ⟨rfl, I.turned (t' := s.toks) (fun b o hb e => eb b o hb e) f0 f1 f3 f4 f5⟩
  self := fun _ _ _ _ _ st h => wpAny_pyIter_revIter st h
def iRev (K : PySem.W.Frag) (ta : TA) : TI := fun σ H R => ta σ H fun vs H1 => ∃ a xs, vs = [.ref a] /\ SqL K H1 a xs /\ R (Itv K a xs.length) H1
section
variable {X : Cx} {tg : Expr}
theorem pi_rev {l : Expr} {ta : TA} {p pos : Pos} (hg : Gl X "reversed") (hm : X.mg "reversed" = none) (ha : PA X [l] ta) (hs : starEach [l] X.env = [(false, eval l X.env)] := by rfl) : PI X tg (.Call (.Name "reversed" p) [l] [] pos) (iRev X.K ta) := by
  intro pins s σ H R I h
  refine Call_ (ld_blt I hg hm bt_reversed (PyProof.Rows.callWith_type1 (thn (ha pos pins s σ H _ I h) fun us s1 ⟨vs, H1, I1, r1, a, xs, ev, hq, q⟩ => ?_) hs rfl))
  subst ev
  obtain ⟨u, rfl, ru⟩ := vals1 r1
  cases ru
  obtain ⟨its, rv, pl, hz⟩ := I1.list hq
  have hlen := rv.length
  refine call_reversed_list pl.isList ?_
  have sz : ((its.toArray.size : Nat) : Int) - 1 = (xs.length : Int) - 1 - ((0 : Nat) : Int) := by simp; omega
  rw [sz]
  have st0 : (s1.heap.push (revObj a ((xs.length : Int) - 1 - ((0 : Nat) : Int)))).IsRevIter s1.heap.objs.size a ((xs.length : Int) - 1 - ((0 : Nat) : Int)) := ⟨_, Heap.get?_push_size _ rfl, rfl, rfl⟩
  refine wpAny_pyIter_revIter (s := { s1 with heap := s1.heap.push (revObj a ((xs.length : Int) - 1 - ((0 : Nat) : Int))) }) st0 ?_
  refine ⟨s1.heap.objs.size, [s1.heap.objs.size], _, _, H1, rfl, I1.kept (t' := s1.toks) fun b o e => Heap.get?_push_of_some _ e, turn_rev a _ xs.length, st0, fun b hb => ?_, q⟩
  obtain rfl : b = s1.heap.objs.size := List.mem_singleton.mp hb
  exact I1.fpOk (Nat.le_refl _) (I1.hok.fresh (Nat.le_refl _))
theorem for_rev {K : PySem.W.Frag} {a : Addr} {xs : List V} {g : TG} {tb : TS} {D : Ends} {σ : St} {H : Hp} (Pv : Nat -> St -> Hp -> Prop) (h0 : Pv 0 σ H) (hl : ∀ i σ H, i <= xs.length -> Pv i σ H -> SqL K H a xs)
    (hs : ∀ i x σ H, i < xs.length -> xs[xs.length - 1 - i]? = some x -> Pv i σ H -> g x σ H fun σ2 H2 => tb { D with nx := Pv (i + 1), ct := Pv (i + 1), bk := D.nx } σ2 H2) (hd : ∀ σ H, Pv xs.length σ H -> D.nx σ H) :
    ∃ W : Nat -> Nat -> St -> Hp -> Prop, (∃ m, W 0 m σ H) /\ ∀ i m σ H, W i m σ H -> ((Itv K a xs.length).stop i H /\ D.nx σ H) \/ ((Itv K a xs.length).go i H /\ ∃ N : St -> Hp -> Prop, (∀ σ' H', N σ' H' -> ∃ m', m' < m /\ W (i + 1) m' σ' H') /\
      ∀ x H', (Itv K a xs.length).yld i H x H' -> g x σ H' fun σ2 H2 => tb { D with nx := N, ct := N, bk := D.nx } σ2 H2) := by
  refine ⟨fun i m σ H => Pv i σ H /\ i <= xs.length /\ m = xs.length - i, ⟨_, h0, Nat.zero_le _, rfl⟩, ?_⟩
  rintro i m σ H ⟨hp, hi, rfl⟩
  by_cases z : i = xs.length
  · subst z
    exact .inl ⟨rfl, hd σ H hp⟩
  · have hlt : i < xs.length := by omega
    refine .inr ⟨⟨hlt, xs, hl i σ H hi hp, rfl⟩, Pv (i + 1), fun σ' H' q => ⟨xs.length - (i + 1), by omega, q, hlt, rfl⟩, ?_⟩
    rintro x H' ⟨rfl, hx⟩
    exact hs i x σ H' hlt (hx xs (hl i σ H' hi hp)) hp
end
/-! ### a list against the empty list -/
def rNil (K : PySem.W.Frag) (neg : Bool) : R2 := fun x y H Q => ∃ a b xs, x = .ref a /\ y = .ref b /\ SqL K H a xs /\ SqL K H b [] /\ Q (.bl (if neg then !xs.isEmpty else xs.isEmpty)) H
section
variable {X : Cx}
theorem op_eqNil (hu : X.A.units + 64 < cLine) : OpR X (compareOp .Eq) (rNil X.K false) := by
  intro pins s σ H x y v u Q I rx ry h
  obtain ⟨a, b, xs, rfl, rfl, h1, h2, q⟩ := h
  cases rx
  cases ry
  obtain ⟨its, r1, p1, _⟩ := I.list h1
  obtain ⟨it2, r2, p2, _⟩ := I.list h2
  have e2 : it2 = [] := Vals.zero r2
  subst e2
  have hl := r1.length
  cases xs with
  | nil =>
    have e1 : its = [] := Vals.zero r1
    subst e1
    exact SeqAt.RcAt.lists (e := fun _ => true) p1.isList p2.isList rfl (by omega) (fun j h1 _ => absurd h1 (Nat.not_lt_zero _)) X.prog X.w X.xe _ ⟨.bl true, H, I, rfl, q⟩
  | cons z zs =>
    have hne : (its.toArray.size != ([] : List Value).toArray.size) = true := by
      rw [List.length_cons] at hl
      rw [bne_iff_ne, List.size_toArray, List.size_toArray, List.length_nil]
      omega
    exact SeqAt.RcAt.lists_lengths p1.isList p2.isList hne (by omega) X.prog X.w X.xe _ ⟨.bl false, H, I, rfl, q⟩
theorem op_neNil (hu : X.A.units + 64 < cLine) : OpR X (compareOp .NotEq) (rNil X.K true) := by
  intro pins s σ H x y v u Q I rx ry h
  obtain ⟨a, b, xs, rfl, rfl, h1, h2, q⟩ := h
  cases rx
  cases ry
  obtain ⟨its, r1, p1, _⟩ := I.list h1
  obtain ⟨it2, r2, p2, _⟩ := I.list h2
  have e2 : it2 = [] := Vals.zero r2
  subst e2
  have hl := r1.length
  cases xs with
  | nil =>
    have e1 : its = [] := Vals.zero r1
    subst e1
    exact SeqAt.RcNeAt.lists (e := fun _ => true) p1.isList p2.isList rfl (by omega) (fun j h1 _ => absurd h1 (Nat.not_lt_zero _)) X.prog X.w X.xe _ ⟨.bl false, H, I, rfl, q⟩
  | cons z zs =>
    have hne : (its.toArray.size != ([] : List Value).toArray.size) = true := by
      rw [List.length_cons] at hl
      rw [bne_iff_ne, List.size_toArray, List.size_toArray, List.length_nil]
      omega
    exact SeqAt.RcNeAt.lists_lengths p1.isList p2.isList hne (by omega) X.prog X.w X.xe _ ⟨.bl true, H, I, rfl, q⟩
end
/-! ### the mixed dict's keys, walked -/
def Itm (w : World) (a : Addr) (es : List DictEntry) (ep : Nat) (kvs : List (PyData × V)) : It :=
  ⟨fun i H => H a = some (DObj a es ep) /\ Paired (KEnt w H) kvs es /\ i < kvs.length, fun i H x H' => H' = H /\ ∃ k v, kvs[i]? = some (k, v) /\ KeyV H k x, fun i H => H a = some (DObj a es ep) /\ kvs.length = es.length /\ kvs.length <= i⟩
def TopK (kvs : List (PyData × V)) : Prop := ∀ p ∈ kvs, (∃ t, p.1 = .str t) \/ ∃ ds, p.1 = .tuple ds
def iKeys (w : World) (tl : TE) : TI := fun σ H R => tl σ H fun x H1 => ∃ a es ep kvs, x = .ref a /\ H1 a = some (DObj a es ep) /\ Paired (KEnt w H1) kvs es /\ TopK kvs /\ R (Itm w a es ep kvs) H1
end L2

namespace L2
open PySem PySem.Spec PyProof.Rows
/-! ### a store over the abstract heap -/
theorem nhr : ¬ (("held" : Str) = "rows") := by decide +kernel
def stF (hd rl : Addr) : List (Str × V) := putF "rows" (.ref rl) (putF "held" (.ref hd) [])
theorem stF_held {hd rl : Addr} : (stF hd rl).lookup ("held" : Str) = some (.ref hd) := by
  unfold stF
  rw [lookup_putF, if_neg nhr, lookup_putF, if_pos rfl]
theorem stF_rows {hd rl : Addr} : (stF hd rl).lookup ("rows" : Str) = some (.ref rl) := by
  unfold stF
  rw [lookup_putF, if_pos rfl]
theorem stF_no {hd rl : Addr} {m : Str} (h1 : ¬ m = "rows") (h2 : ¬ m = "held") : (stF hd rl).lookup m = none := by
  unfold stF
  rw [lookup_putF, if_neg h1, lookup_putF, if_neg h2]
  all_goals rfl
def sdI : Bool -> Int
  | false => 0
  | true => 1
theorem sdI_at {l : Bool -> Addr} (b : Bool) : atI [V.ref (l false), V.ref (l true)] (sdI b) = some (.ref (l b)) := by
  cases b <;> rfl
theorem KeyV.keep {H H' : Hp} {k : PyData} {y : V} (h : KeyV H k y) (ht : ∀ b vs, H b = some (.tup vs) -> H' b = some (.tup vs)) : KeyV H' k y :=
  ⟨h.1, h.2.1, DV.keep ht _ _ h.1 h.2.2.1, h.2.2.2⟩
def Wt (H : Hp) (p : PyData × V) (tv : V) : Prop := ∃ t cv, tv = .ref t /\ H t = some (.tup [cv, p.2]) /\ KeyV H p.1 cv
theorem Wt.keep {H H' : Hp} {p : PyData × V} {tv : V} (h : Wt H p tv) (ht : ∀ b vs, H b = some (.tup vs) -> H' b = some (.tup vs)) : Wt H' p tv := by
  obtain ⟨t, cv, e, h1, h2⟩ := h
  exact ⟨t, cv, e, ht _ _ h1, h2.keep ht⟩
def RowAt (H : Hp) (l : Addr) (es : List (PyData × V)) : Prop := ∃ ts : List V, H l = some (.lst ts) /\ Paired (Wt H) es ts
theorem RowAt.keep {H H' : Hp} {l : Addr} {es : List (PyData × V)} (h : RowAt H l es) (hl : ∀ o, H l = some o -> H' l = some o) (ht : ∀ b vs, H b = some (.tup vs) -> H' b = some (.tup vs)) : RowAt H' l es := by
  obtain ⟨ts, h1, h2⟩ := h
  exact ⟨ts, hl _ h1, Paired.mapP h2 fun _ _ q => q.keep ht⟩
theorem pairedLen {α β : Type} {F : α -> β -> Prop} : ∀ {xs : List α} {ys : List β}, Paired F xs ys -> xs.length = ys.length
  | _, _, .nil => rfl
  | _, _, .cons _ t => by rw [List.length_cons, List.length_cons, pairedLen t]
def setR {α : Type} (r : Bool -> α) (b : Bool) (v : α) : Bool -> α := fun c => if c = b then v else r c
theorem setR_same {α : Type} {r : Bool -> α} {b : Bool} {v : α} : setR r b v b = v := if_pos rfl
theorem setR_ne {α : Type} {r : Bool -> α} {b c : Bool} {v : α} (h : c ≠ b) : setR r b v c = r c := if_neg h
structure Sto (w : World) (C : Addr) (H : Hp) (x hd rl : Addr) (l : Bool -> Addr) (M : List (PyData × V)) (r : Bool -> List (PyData × V)) : Prop where
  ob : ∃ dx, H x = some (.ins C dx (stF hd rl))
  me : MD w H hd M
  ro : H rl = some (.lst [.ref (l false), .ref (l true)])
  rw : ∀ b, RowAt H (l b) (r b)
  nl : l false ≠ l true
  nr : ∀ b, l b ≠ rl
def Kp (xs : List Addr) (H H' : Hp) : Prop := ∀ c o, c ∉ xs -> H c = some o -> H' c = some o
theorem Kp.refl (xs : List Addr) (H : Hp) : Kp xs H H := fun _ _ _ e => e
theorem Kp.trans {xs : List Addr} {H H1 H2 : Hp} (a : Kp xs H H1) (b : Kp xs H1 H2) : Kp xs H H2 := fun c o n e => b c o n (a c o n e)
theorem Kp.mono {xs ys : List Addr} {H H' : Hp} (a : Kp xs H H') (h : ∀ c, c ∈ xs -> c ∈ ys) : Kp ys H H' := fun c o n e => a c o (fun z => n (h c z)) e
theorem Kp.same {H H' : Hp} (a : Same H H') (xs : List Addr) : Kp xs H H' := fun c o _ e => a c o e
section
variable {w : World} {C : Addr} {H H' : Hp} {x hd rl : Addr} {l : Bool -> Addr} {M : List (PyData × V)} {r : Bool -> List (PyData × V)}
theorem MD.there (m : MD w H hd M) : ∃ ee : List DictEntry × Nat, H hd = some (DObj hd ee.1 ee.2) := let ⟨es, ep, h, _⟩ := m; ⟨(es, ep), h⟩
theorem MD.keepS (m : MD w H hd M) (ha : ∀ o, H hd = some o -> H' hd = some o) (ht : ∀ b vs, H b = some (.tup vs) -> H' b = some (.tup vs)) : MD w H' hd M := by
  obtain ⟨es, ep, h1, h2⟩ := id m
  exact m.keep ((ha _ h1).trans h1.symm) ht
theorem Sto.keep (S : Sto w C H x hd rl l M r) (h : ∀ c o, (c = x \/ c = hd \/ c = rl \/ ∃ b, c = l b) -> H c = some o -> H' c = some o) (ht : ∀ b vs, H b = some (.tup vs) -> H' b = some (.tup vs)) : Sto w C H' x hd rl l M r := by
  obtain ⟨dx, e⟩ := S.ob
  exact ⟨⟨dx, h _ _ (.inl rfl) e⟩, S.me.keepS (fun o => h _ o (.inr (.inl rfl))) ht, h _ _ (.inr (.inr (.inl rfl))) S.ro, fun b => (S.rw b).keep (fun o => h _ o (.inr (.inr (.inr ⟨b, rfl⟩)))) ht, S.nl, S.nr⟩
theorem Sto.same (S : Sto w C H x hd rl l M r) (h : Same H H') : Sto w C H' x hd rl l M r := S.keep (fun c o _ e => h c o e) fun b vs e => h b _ e
theorem Sto.len (S : Sto w C H x hd rl l M r) : M.length <= sizeLine := let ⟨_, _, _, _, _, h⟩ := S.me; h
def Sto.own (x hd rl : Addr) (l : Bool -> Addr) (c : Addr) : Prop := c = x \/ c = hd \/ c = rl \/ c = l false \/ c = l true
theorem Sto.there (S : Sto w C H x hd rl l M r) {c : Addr} (h : Sto.own x hd rl l c) : ∃ o, H c = some o /\ (∀ xs, o ≠ .tup xs) := by
  rcases h with rfl | rfl | rfl | rfl | rfl
  · obtain ⟨dx, e⟩ := S.ob; exact ⟨_, e, fun _ z => by cases z⟩
  · obtain ⟨es, e⟩ := S.me.there; exact ⟨_, e, fun _ z => by cases z⟩
  · exact ⟨_, S.ro, fun _ z => by cases z⟩
  · obtain ⟨ts, e, _⟩ := S.rw false; exact ⟨_, e, fun _ z => by cases z⟩
  · obtain ⟨ts, e, _⟩ := S.rw true; exact ⟨_, e, fun _ z => by cases z⟩
theorem Sto.fresh (S : Sto w C H x hd rl l M r) {p : Addr} (hp : H p = none) : ¬ Sto.own x hd rl l p := fun h => by
  obtain ⟨o, e, _⟩ := S.there h
  rw [e] at hp; cases hp
end
def drainAll (M : List (PyData × V)) (es : List (PyData × V)) : List (PyData × V) := es.foldl (fun M p => putD M p.1 p.2) M
theorem drainAll_len (es : List (PyData × V)) : ∀ M, (drainAll M es).length <= M.length + es.length := by
  induction es with
  | nil => intro M; exact Nat.le_refl _
  | cons p es ih =>
    intro M
    have h1 := ih (putD M p.1 p.2)
    have h2 := len_putD M p.1 p.2
    show (drainAll (putD M p.1 p.2) es).length <= _
    rw [List.length_cons]; omega
def readV (M es : List (PyData × V)) (k : PyData) : V := match es.reverse.find? (fun p => PyData.eqv p.1 k) with
  | some p => p.2
  | none => (lookD M k).getD (.int 0)
/-! ### what is read, by the last write -/
def lastW (es : List (PyData × V)) (k : PyData) : Option V := (es.reverse.find? fun p => PyData.eqv p.1 k).map (·.2)
theorem lastW_app (xs ys : List (PyData × V)) (k : PyData) : lastW (xs ++ ys) k = (lastW ys k).or (lastW xs k) := by
  unfold lastW
  rw [List.reverse_append, List.find?_append]
  cases ys.reverse.find? (fun p => PyData.eqv p.1 k) <;> rfl
theorem lastW_one (p : PyData × V) (k : PyData) : lastW [p] k = if PyData.eqv p.1 k = true then some p.2 else none := by
  unfold lastW
  show (List.find? (fun p => PyData.eqv p.1 k) [p]).map (·.2) = _
  rw [List.find?_cons]
  cases PyData.eqv p.1 k <;> rfl
theorem lastW_snoc (xs : List (PyData × V)) (p : PyData × V) (k : PyData) : lastW (xs ++ [p]) k = if PyData.eqv p.1 k = true then some p.2 else lastW xs k := by
  rw [lastW_app, lastW_one]
  split <;> rfl
theorem readV_eq (M es : List (PyData × V)) (k : PyData) : readV M es k = ((lastW es k).or (lookD M k)).getD (.int 0) := by
  unfold readV lastW
  cases es.reverse.find? (fun p => PyData.eqv p.1 k) <;> rfl
theorem look_map {k k' : PyData} (h : MX.kd k = true) (h' : MX.kd k' = true) (v : V) : ∀ {M : List (PyData × V)}, KK M -> lookD (M.map fun p => if PyData.eqv p.1 k' = true then (p.1, v) else p) k = (lookD M k).map fun x => if PyData.eqv k' k = true then v else x
  | [], _ => rfl
  | p :: r, kk => by
    have ih := look_map h h' v (M := r) fun q hq => kk q (List.mem_cons_of_mem _ hq)
    have kp := kk p List.mem_cons_self
    unfold lookD at ih ⊢
    rw [List.map_cons, List.find?_cons, List.find?_cons]
    have e1 : (if PyData.eqv p.1 k' = true then (p.1, v) else p).1 = p.1 := by split <;> rfl
    rw [e1]
    cases z : PyData.eqv p.1 k with
    | false => exact ih
    | true =>
      have pk := (MX.eqv_iff _ _ kp h).mp z
      show some (if PyData.eqv p.1 k' = true then (p.1, v) else p).2 = some (if PyData.eqv k' k = true then v else p.2)
      by_cases y : k' = k
      · subst y
        rw [eqv_self h', z]; rfl
      · rw [eqv_false h' h y, pk, eqv_false h h' fun q => y q.symm]; rfl
theorem look_put {M : List (PyData × V)} {k k' : PyData} (kk : KK M) (h' : MX.kd k' = true) (h : MX.kd k = true) (v : V) : lookD (putD M k' v) k = if PyData.eqv k' k = true then some v else lookD M k := by
  by_cases n : k' ∈ M.map (·.1)
  · obtain ⟨p, hp, e⟩ := List.mem_map.mp n
    have ha : (M.any fun p => PyData.eqv p.1 k') = true := List.any_eq_true.mpr ⟨p, hp, by rw [e]; exact eqv_self h'⟩
    unfold putD
    rw [if_pos ha, look_map h h' v kk]
    by_cases y : k' = k
    · subst y
      rw [eqv_self h']
      have : (lookD M k').isSome = true := by
        unfold lookD
        rw [Option.isSome_map, List.find?_isSome]
        exact ⟨p, hp, by rw [e]; exact eqv_self h'⟩
      cases z : lookD M k' with
      | none => rw [z] at this; cases this
      | some x => rfl
    · rw [eqv_false h' h y]
      cases lookD M k <;> rfl
  · rw [putD_no h' kk n]
    unfold lookD
    rw [List.find?_append, List.find?_cons]
    by_cases y : k' = k
    · subst y
      have z := lookD_no h' kk n
      unfold lookD at z
      rw [Option.map_eq_none_iff] at z
      rw [z, eqv_self h']; rfl
    · rw [eqv_false h' h y]
      cases M.find? (fun p => PyData.eqv p.1 k) <;> rfl
theorem KK.put {M : List (PyData × V)} {k : PyData} (kk : KK M) (h : MX.kd k = true) (v : V) : KK (putD M k v) := by
  unfold putD
  split
  · intro p hp
    obtain ⟨q, hq, rfl⟩ := List.mem_map.mp hp
    have := kk q hq
    split <;> exact this
  · intro p hp
    rcases List.mem_append.mp hp with z | z
    · exact kk p z
    · rw [List.mem_singleton.mp z]; exact h
theorem KK.nil : KK ([] : List (PyData × V)) := fun _ h => by cases h
mutual
theorem keyBack {H : Hp} {D : Addr} {o : HO} (hD : H D = none) (ho : ∀ xs, o ≠ .tup xs) : ∀ {k : PyData} {y : V}, MX.kd k = true -> DV (upd H D o) k y -> DV H k y
  | .int _, _, _, e => e
  | .str _, _, _, e => e
  | .tuple ds, _, h, ⟨a, vs, e, ha, hv⟩ => by
    have ne : a ≠ D := fun z => by
      rw [z, upd_same] at ha
      exact ho vs (Option.some.inj ha)
    exact ⟨a, vs, e, by rw [upd_ne ne] at ha; exact ha, keysBack hD ho h hv⟩
  | .none, _, h, _ => by cases h
  | .bool _, _, h, _ => by cases h
  | .list _, _, h, _ => by cases h
  | .dict _, _, h, _ => by cases h
theorem keysBack {H : Hp} {D : Addr} {o : HO} (hD : H D = none) (ho : ∀ xs, o ≠ .tup xs) : ∀ {ds : List PyData} {vs : List V}, MX.kds ds = true -> DVs (upd H D o) ds vs -> DVs H ds vs
  | [], _, _, e => e
  | d :: ds, _, h, ⟨v, r, e, h1, h2⟩ => by
    have h' : (MX.kd d && MX.kds ds) = true := h
    rw [Bool.and_eq_true] at h'
    exact ⟨v, r, e, keyBack hD ho h'.1 h1, keysBack hD ho h'.2 h2⟩
end
end L2

namespace L2
open PySem PySem.Spec PyProof.Rows
/-! ### a list comprehension: a block of its own, within the frame -/
theorem mem_of_lookup {β : Type} {y : Str} {c : β} : ∀ {l : List (Str × β)}, l.lookup y = some c -> (y, c) ∈ l
  | [], h => by cases h
  | (k, v) :: r, h => by
    rw [List.lookup_cons] at h
    cases e : y == k with
    | true =>
      rw [e] at h
      cases h
      rw [beq_iff_eq.mp e]
      exact List.mem_cons_self
    | false =>
      rw [e] at h
      exact List.mem_cons_of_mem _ (mem_of_lookup h)
def cxComp (X : Cx) (scope : Scope) (cl : List (Str × Addr)) (C : Addr) (x : Str) (N' : List Str) (s₃ : Shared) (H₃ : Hp) (pins : List (Addr × Obj)) (ex : List Addr) (E' : Value -> Shared -> Prop) : Cx :=
  { X with N := N', s₀ := s₃, H₀ := H₃, env := compEnvC scope cl C X.env, outer := X.stack, stack := X.stack, ex := ex, fn := fun y => y == x, pn := X.pn ++ pins, xe := E' }
structure CompOk (X : Cx) (scope : Scope) (cl : List (Str × Addr)) (x : Str) : Prop where
  kind : scope.kind = .function
  clos : closureFor scope X.env = pure cl
  nocell : ∀ y ∈ scope.names, y.2 ≠ .cell
  names : ∀ y ∈ scope.names, y.2 = .local -> scope.names.lookup y.1 = some .local
  xloc : scope.names.lookup x = some .local
  sub : ∀ p ∈ cl, X.env.cells.lookup p.1 = some p.2
  has : ∀ p ∈ scope.names, p.2 = .free -> ∃ c, cl.lookup p.1 = some c
  nox : cl.lookup x = none
def PTs (X : Cx) (ifs : List Expr) (t : TT) : Prop :=
  ∀ (pins : List (Addr × Obj)) (s : Shared) (σ : St) (H : Hp) (Q : Bool -> Hp -> Prop), Inv X pins σ H s -> t σ H Q ->
    wpAny (model X.prog X.w) X.A (forIn ifs true fun c r => if r = true then do let ok ← isTrue c X.env (eval c X.env); pure (ForInStep.yield ok) else pure (ForInStep.yield r)) (TP X pins σ Q) X.xe s
def capt (σ : St) (js : List Nat) : St := js.map fun j => (σ[j]?).getD none
def tComp (wi : TI) (js : List Nat) (tc : TT) (te : TE) : TE := fun σ H Q => wi σ H fun J H1 => ∀ D, H1 D = none -> ∃ W : Nat -> Nat -> List V -> Hp -> Prop, (∃ m, W 0 m [] (upd H1 D (.lst []))) /\
  ∀ i m ys H2, W i m ys H2 -> H2 D = some (.lst ys) /\ ys.length < sizeLine /\ ((J.stop i H2 /\ Q (.ref D) H2) \/ (J.go i H2 /\ ∀ x H3, J.yld i H2 x H3 ->
    tc (some x :: capt σ js) H3 fun b H4 => if b = true then te (some x :: capt σ js) H4 fun y H5 => H5 D = some (.lst ys) /\ ∃ m', m' < m /\ W (i + 1) m' (ys ++ [y]) (upd H5 D (.lst (ys ++ [y])))
      else ∃ m', m' < m /\ W (i + 1) m' ys H4))
section
variable {X : Cx} {scope : Scope} {cl : List (Str × Addr)} {x : Str} {N' : List Str}
end
/-! ### what is asked of the text, in short -/
def SubCl (env : Env) : List (Str × Addr) -> Prop
  | [] => True
  | p :: r => env.cells.lookup p.1 = some p.2 /\ SubCl env r
theorem SubCl.all {env : Env} : ∀ {cl : List (Str × Addr)}, SubCl env cl -> ∀ p ∈ cl, env.cells.lookup p.1 = some p.2
  | [], _, p, h => by cases h
  | q :: r, ⟨a, b⟩, p, h => by
    rcases List.mem_cons.mp h with rfl | h
    · exact a
    · exact SubCl.all b p h
end L2

namespace L2
open PySem PySem.Spec PyProof.Rows
/-! ### x in xs, xs a list of data -/
def rInD (neg : Bool) : R2 := fun x y H Q => ∃ d ds, DV H d x /\ DV H (.list ds) y /\ LayD d /\ LayD (.list ds) /\ Q (.bl (if neg then !ds.any (fun z => PyData.eqv z d) else ds.any fun z => PyData.eqv z d)) H
section
variable {X : Cx}
theorem inD_room {ds : List PyData} {d : PyData} {n : Nat} (hu : n + 64 < cLine) (h : d.depth <= 16) : n + 1 + min (PyData.depthAll ds) d.depth < cLine := by omega
theorem op_notInD (hu : X.A.units + 64 < cLine) : OpR X (compareOp .NotIn) (rInD true) := by
  intro pins s σ H x y v u Q I rx ry h
  obtain ⟨d, ds, h1, h2, l1, l2, q⟩ := h
  obtain ⟨as, r1⟩ := DV.reads I.hok d x v h1 rx
  obtain ⟨bs, r2⟩ := DV.reads I.hok (.list ds) y u h2 ry
  exact SeqAt.notIn_list_reads r2 r1 l2.1 l1.1 (inD_room hu l1.2) ⟨.bl _, H, I, rfl, q⟩
end
/-! ### a row of keys as data -/
theorem put_mem {M : List (PyData × V)} {k : PyData} {v : V} (kk : KK M) (hk : MX.kd k = true) {p : PyData × V} (h : p ∈ putD M k v) : p ∈ M \/ p = (k, v) := by
  unfold putD at h
  split at h
  · obtain ⟨q, hq, e⟩ := List.mem_map.mp h
    by_cases z : PyData.eqv q.1 k = true
    · rw [if_pos z] at e
      have := (MX.eqv_iff _ _ (kk q hq) hk).mp z
      exact .inr (by rw [← e, this])
    · rw [if_neg z] at e
      exact .inl (e ▸ hq)
  · rcases List.mem_append.mp h with z | z
    · exact .inl z
    · exact .inr (List.mem_singleton.mp z)
theorem drain_mem : ∀ {es M : List (PyData × V)}, KK M -> KK es -> ∀ {p : PyData × V}, p ∈ drainAll M es -> p ∈ M \/ p ∈ es
  | [], _, _, _, _, h => .inl h
  | e :: es, M, kM, ke, p, h => by
    have he := ke e List.mem_cons_self
    rcases drain_mem (es := es) (M := putD M e.1 e.2) (kM.put he e.2) (fun q hq => ke q (List.mem_cons_of_mem _ hq)) h with z | z
    · rcases put_mem kM he z with y | y
      · exact .inl y
      · exact .inr (by rw [y]; exact List.mem_cons_self)
    · exact .inr (List.mem_cons_of_mem _ z)
end L2

namespace L2
open PySem PySem.Spec PyProof.Rows
def tCut (t u : TS) : TS := fun D σ H => ∃ B : St -> Hp -> Prop, t { D with nx := B } σ H /\ ∀ σ' H', B σ' H' -> u D σ' H'
theorem pss_cut {X : Cx} {st : Stmt} {rest : List Stmt} {t u : TS} (h1 : PS X st t) (h2 : PSs X rest u) : PSs X (st :: rest) (tCut t u) := by
  intro pins s σ H D I h
  obtain ⟨B, h, k⟩ := h
  refine wpAny_execs_cons (thn (h1 pins s σ H { D with nx := B } I h) fun f s1 q => ?_)
  cases f with
  | next =>
    obtain ⟨σ', H', I', q⟩ := q
    exact h2 pins s1 σ' H' D I' (k σ' H' q)
  | ret v => exact q
  | brk => exact q
  | cont => exact q
def tCutT (t : TT) : TT := fun σ H Q => ∃ B : Bool -> Hp -> Prop, t σ H B /\ ∀ b H', B b H' -> Q b H'
theorem pt_cut {X : Cx} {e : Expr} {t : TT} (h : PT X e t) : PT X e (tCutT t) := by
  intro pins s σ H Q I q
  obtain ⟨B, q, k⟩ := q
  exact thn (h pins s σ H B I q) fun b s1 ⟨H1, I1, z⟩ => ⟨H1, I1, k b H1 z⟩
end L2
namespace L2
open PySem PySem.Spec PyProof.Rows
/-! ### data is equal to itself -/
mutual
theorem eqv_refl : ∀ d : PyData, d.canLay0 = true -> PyData.eqv d d = true
  | .none, _ => rfl
  | .bool b, _ => by simp [PyData.eqv]
  | .int i, _ => by simp [PyData.eqv]
  | .str t, _ => by simp [PyData.eqv]
  | .list xs, h => by
    have h' : PyData.canLayAll0 xs = true := by simpa [PyData.canLay0] using h
    simpa [PyData.eqv] using eqvAll_refl xs h'
  | .tuple xs, h => by
    have h' : PyData.canLayAll0 xs = true := by simpa [PyData.canLay0] using h
    simpa [PyData.eqv] using eqvAll_refl xs h'
  | .dict _, h => by simp [PyData.canLay0] at h
theorem eqvAll_refl : ∀ xs : List PyData, PyData.canLayAll0 xs = true -> PyData.eqvAll xs xs = true
  | [], _ => rfl
  | x :: xs, h => by
    have h' : x.canLay0 = true /\ PyData.canLayAll0 xs = true := by simpa [PyData.canLayAll0] using h
    simp [PyData.eqvAll, eqv_refl x h'.1, eqvAll_refl xs h'.2]
end
/-! ### dicts of the same two keys, by their worths -/
def rNeK2 : R2 := fun x y H Q => ∃ a b k1 k2 v1 v2 u1 u2 d1 d2 e1 e2, x = .ref a /\ y = .ref b /\ H a = some (.dK [(k1, v1), (k2, v2)]) /\ H b = some (.dK [(k1, u1), (k2, u2)]) /\ ¬ k1 = k2 /\ (DV H d1 v1 /\ DV H d2 v2 /\ DV H e1 u1 /\ DV H e2 u2) /\ (LayD d1 /\ LayD d2 /\ LayD e1 /\ LayD e2) /\
  Q (.bl (!(PyData.eqv d1 e1 && PyData.eqv d2 e2))) H
theorem op_neK2 {X : Cx} (hu : X.A.units + 64 < cLine) : OpR X (compareOp .NotEq) rNeK2 := by
  intro pins s σ H x y v u Q I rx ry h
  obtain ⟨a, b, k1, k2, v1, v2, u1, u2, d1, d2, e1, e2, rfl, rfl, ha, hb, nk, ⟨h1, h2, h3, h4⟩, ⟨l1, l2, l3, l4⟩, q⟩ := h
  cases rx
  cases ry
  obtain ⟨_, sa, vs, kv, da⟩ := I.hok a _ ha
  obtain ⟨_, sb, us, ku, db⟩ := I.hok b _ hb
  cases kv with
  | @cons _ p1 _ vs1 a1 t1 =>
    cases t1 with
    | @cons _ p2 _ vs2 a2 t2 =>
      cases t2
      cases ku with
      | @cons _ q1 _ us1 b1 w1 =>
        cases w1 with
        | @cons _ q2 _ us2 b2 w2 =>
          cases w2
          obtain ⟨f1, f2⟩ := p1
          obtain ⟨g1, g2⟩ := p2
          obtain ⟨f3, f4⟩ := q1
          obtain ⟨g3, g4⟩ := q2
          obtain ⟨rfl, r1⟩ := a1
          obtain ⟨rfl, r2⟩ := a2
          obtain ⟨rfl, r3⟩ := b1
          obtain ⟨rfl, r4⟩ := b2
          obtain ⟨_, R1⟩ := DV.reads I.hok d1 _ _ h1 r1
          obtain ⟨_, R2⟩ := DV.reads I.hok d2 _ _ h2 r2
          obtain ⟨_, R3⟩ := DV.reads I.hok e1 _ _ h3 r3
          obtain ⟨_, R4⟩ := DV.reads I.hok e2 _ _ h4 r4
          have y1 : valueAt [(k1, f4), (k2, g4)] k1 = some f4 := by simp [valueAt]
          have y2 : valueAt [(k1, f4), (k2, g4)] k2 = some g4 := by simp [valueAt, List.find?_cons, nk]
          have z1 := l1.2
          have z2 := l2.2
          have q1 := SeqAt.eqAt_reads d1 e1 X.A.in1 s _ _ _ _ R1 R3 l1.1 l3.1 (by rw [Around.in1_units]; omega)
          have q2 := SeqAt.eqAt_reads d2 e2 X.A.in1 s _ _ _ _ R2 R4 l2.1 l4.1 (by rw [Around.in1_units]; omega)
          refine PySem.W.keq_ne (knd := mixKind X.prog X.w) sa sb da db (by omega) (fun _ => .hit y1 q1 (.hit y2 q2 .nil)) ⟨.bl (!(PyData.eqv d1 e1 && PyData.eqv d2 e2)), H, I, ?_, q⟩
          show Value.bool _ = Value.bool _
          simp
end L2

set_option maxHeartbeats 4000000
namespace My
open PySem L2
def top (i : Nat) : Stmt := PySem.Challenge.pw_askring_k08_whole_each_deed_by_its_looks.main.body.getD i (.Pass ⟨0, 0, 0, 0⟩)
abbrev s_wall : Stmt := top 0
abbrev s_Store__init : Stmt := inClass (top 5) 0
abbrev s_Store_become : Stmt := inClass (top 5) 1
abbrev s_Store_write : Stmt := inClass (top 5) 2
abbrev s_Store_drain : Stmt := inClass (top 5) 3
abbrev s_Store_fence : Stmt := inClass (top 5) 4
abbrev s_Store_read : Stmt := inClass (top 5) 5
abbrev s_Store_memory : Stmt := inClass (top 5) 6
abbrev s_Store_waits : Stmt := inClass (top 5) 7
abbrev s_Store_cells : Stmt := inClass (top 5) 8
abbrev s_law_stream : Stmt := top 7
abbrev s_law_take : Stmt := top 8
abbrev s_law_cell : Stmt := top 9
abbrev s_law_worth : Stmt := top 10
abbrev s_law_looks : Stmt := top 12
abbrev s_law_drained : Stmt := top 13
abbrev s_law_step : Stmt := top 14
abbrev s_law : Stmt := top 15
theorem sc_Store__init : FnScope ["self"] ["self"] (defScope s_Store__init) := ⟨rfl, rfl, rfl, by decide +kernel, rfl, by decide +kernel, by decide +kernel⟩
theorem sc_Store_write : FnScope ["self", "side", "cell", "worth"] ["self", "side", "cell", "worth"] (defScope s_Store_write) := ⟨rfl, rfl, rfl, by decide +kernel, rfl, by decide +kernel, by decide +kernel⟩
theorem sc_Store_drain : FnScope ["self", "side", "first"] ["self", "side"] (defScope s_Store_drain) := ⟨rfl, rfl, rfl, by decide +kernel, rfl, by decide +kernel, by decide +kernel⟩
theorem sc_Store_fence : FnScope ["self", "side"] ["self", "side"] (defScope s_Store_fence) := ⟨rfl, rfl, rfl, by decide +kernel, rfl, by decide +kernel, by decide +kernel⟩
theorem sc_Store_read : FnScope ["self", "side", "cell", "waiting"] ["self", "side", "cell"] (defScope s_Store_read) := ⟨rfl, rfl, rfl, by decide +kernel, rfl, by decide +kernel, by decide +kernel⟩
theorem sc_Store_memory : FnScope ["self", "cell"] ["self", "cell"] (defScope s_Store_memory) := ⟨rfl, rfl, rfl, by decide +kernel, rfl, by decide +kernel, by decide +kernel⟩
theorem sc_Store_waits : FnScope ["self", "side"] ["self", "side"] (defScope s_Store_waits) := ⟨rfl, rfl, rfl, by decide +kernel, rfl, by decide +kernel, by decide +kernel⟩
theorem sc_law_stream : FnScope ["cell", "low"] ["cell"] (defScope s_law_stream) := ⟨rfl, rfl, rfl, by decide +kernel, rfl, by decide +kernel, by decide +kernel⟩
theorem sc_law_take : FnScope ["row", "many", "got"] ["row", "many"] (defScope s_law_take) := ⟨rfl, rfl, rfl, by decide +kernel, rfl, by decide +kernel, by decide +kernel⟩
theorem sc_law_cell : FnScope ["row", "texts", "place", "some"] ["row"] (defScope s_law_cell) := ⟨rfl, rfl, rfl, by decide +kernel, rfl, by decide +kernel, by decide +kernel⟩
theorem sc_law_worth : FnScope ["row", "far"] ["row"] (defScope s_law_worth) := ⟨rfl, rfl, rfl, by decide +kernel, rfl, by decide +kernel, by decide +kernel⟩
theorem sc_law_looks : FnScope ["store", "some", "told", "cell", "side", "found", "other", "worth"] ["store", "some"] (defScope s_law_looks) := ⟨rfl, rfl, rfl, by decide +kernel, rfl, by decide +kernel, by decide +kernel⟩
theorem sc_law_drained : FnScope ["told", "some", "side", "cell", "worth", "rows", "memory", "k"] ["told", "some", "side"] (defScope s_law_drained) := ⟨rfl, rfl, rfl, by decide +kernel, rfl, by decide +kernel, by decide +kernel⟩
theorem sc_law_step : FnScope ["row", "store", "some", "ahead", "side", "kind", "due", "cell", "worth"] ["row", "store", "some", "ahead"] (defScope s_law_step) := ⟨rfl, rfl, rfl, by decide +kernel, rfl, by decide +kernel, by decide +kernel⟩
theorem sc_law : FnScope ["script", "head", "some", "k", "cell", "store", "ahead", "row", "due"] ["script"] (defScope s_law) := ⟨rfl, rfl, rfl, by decide +kernel, rfl, by decide +kernel, by decide +kernel⟩
structure Ad where
  wall : Addr
  Store__init : Addr
  Store_become : Addr
  Store_write : Addr
  Store_drain : Addr
  Store_fence : Addr
  Store_read : Addr
  Store_memory : Addr
  Store_waits : Addr
  Store_cells : Addr
  law_stream : Addr
  law_take : Addr
  law_cell : Addr
  law_worth : Addr
  law_looks : Addr
  law_drained : Addr
  law_step : Addr
  law : Addr
  Store : Addr
structure Fd where
  wall : FuncData
  Store__init : FuncData
  Store_become : FuncData
  Store_write : FuncData
  Store_drain : FuncData
  Store_fence : FuncData
  Store_read : FuncData
  Store_memory : FuncData
  Store_waits : FuncData
  Store_cells : FuncData
  law_stream : FuncData
  law_take : FuncData
  law_cell : FuncData
  law_worth : FuncData
  law_looks : FuncData
  law_drained : FuncData
  law_step : FuncData
  law : FuncData
structure Gs (K : PySem.W.Frag) (mg : Str -> Option Value) (a : Ad) (d : Fd) : Prop where
  f_wall : Fun K "_wall" "_wall" s_wall a.wall d.wall
  b_wall : Binds K d.wall ["k"] []
  m_wall : mg "_wall" = some (.ref a.wall)
  f_Store__init : Fun K "__init__" "Store.__init__" s_Store__init a.Store__init d.Store__init
  b_Store__init : Binds K d.Store__init ["self"] []
  f_Store_become : Fun K "become" "Store.become" s_Store_become a.Store_become d.Store_become
  b_Store_become : Binds K d.Store_become ["self", "one"] []
  mt_Store_become : Meth K a.Store "become" a.Store_become
  f_Store_write : Fun K "write" "Store.write" s_Store_write a.Store_write d.Store_write
  b_Store_write : Binds K d.Store_write ["self", "side", "cell", "worth"] []
  mt_Store_write : Meth K a.Store "write" a.Store_write
  f_Store_drain : Fun K "drain" "Store.drain" s_Store_drain a.Store_drain d.Store_drain
  b_Store_drain : Binds K d.Store_drain ["self", "side"] []
  mt_Store_drain : Meth K a.Store "drain" a.Store_drain
  f_Store_fence : Fun K "fence" "Store.fence" s_Store_fence a.Store_fence d.Store_fence
  b_Store_fence : Binds K d.Store_fence ["self", "side"] []
  mt_Store_fence : Meth K a.Store "fence" a.Store_fence
  f_Store_read : Fun K "read" "Store.read" s_Store_read a.Store_read d.Store_read
  b_Store_read : Binds K d.Store_read ["self", "side", "cell"] []
  mt_Store_read : Meth K a.Store "read" a.Store_read
  f_Store_memory : Fun K "memory" "Store.memory" s_Store_memory a.Store_memory d.Store_memory
  b_Store_memory : Binds K d.Store_memory ["self", "cell"] []
  mt_Store_memory : Meth K a.Store "memory" a.Store_memory
  f_Store_waits : Fun K "waits" "Store.waits" s_Store_waits a.Store_waits d.Store_waits
  b_Store_waits : Binds K d.Store_waits ["self", "side"] []
  mt_Store_waits : Meth K a.Store "waits" a.Store_waits
  f_Store_cells : Fun K "cells" "Store.cells" s_Store_cells a.Store_cells d.Store_cells
  b_Store_cells : Binds K d.Store_cells ["self"] []
  mt_Store_cells : Meth K a.Store "cells" a.Store_cells
  f_law_stream : Fun K "_law_stream" "_law_stream" s_law_stream a.law_stream d.law_stream
  b_law_stream : Binds K d.law_stream ["cell"] []
  m_law_stream : mg "_law_stream" = some (.ref a.law_stream)
  f_law_take : Fun K "_law_take" "_law_take" s_law_take a.law_take d.law_take
  b_law_take : Binds K d.law_take ["row", "many"] []
  m_law_take : mg "_law_take" = some (.ref a.law_take)
  f_law_cell : Fun K "_law_cell" "_law_cell" s_law_cell a.law_cell d.law_cell
  b_law_cell : Binds K d.law_cell ["row"] []
  m_law_cell : mg "_law_cell" = some (.ref a.law_cell)
  f_law_worth : Fun K "_law_worth" "_law_worth" s_law_worth a.law_worth d.law_worth
  b_law_worth : Binds K d.law_worth ["row"] []
  m_law_worth : mg "_law_worth" = some (.ref a.law_worth)
  f_law_looks : Fun K "_law_looks" "_law_looks" s_law_looks a.law_looks d.law_looks
  b_law_looks : Binds K d.law_looks ["store", "some"] []
  m_law_looks : mg "_law_looks" = some (.ref a.law_looks)
  f_law_drained : Fun K "_law_drained" "_law_drained" s_law_drained a.law_drained d.law_drained
  b_law_drained : Binds K d.law_drained ["told", "some", "side"] []
  m_law_drained : mg "_law_drained" = some (.ref a.law_drained)
  f_law_step : Fun K "_law_step" "_law_step" s_law_step a.law_step d.law_step
  b_law_step : Binds K d.law_step ["row", "store", "some", "ahead"] []
  m_law_step : mg "_law_step" = some (.ref a.law_step)
  f_law : Fun K "law" "law" s_law a.law d.law
  b_law : Binds K d.law ["script"] []
  m_law : mg "law" = some (.ref a.law)
  cl_Store : Cls K a.Store
  m_Store : mg "Store" = some (.ref a.Store)
  k_Store : Mk K a.Store a.Store__init
  na_Store_held : NoAttr K a.Store "held"
  na_Store_rows : NoAttr K a.Store "rows"
  n_int : mg "int" = none
  n_len : mg "len" = none
  n_list : mg "list" = none
  n_range : mg "range" = none
  n_reversed : mg "reversed" = none
/-! ### the draws -/
def isRow (xs : List V) : Prop := ∃ c l b : Int, xs = [.int c, .int l, .int b] /\ 0 <= l /\ l < 536870909
def sp_stream : Sp := fun vs H Q _ => ∃ c : Int, vs = [.int c] /\ ∀ (p : Addr) (rw : List V), H p = none -> isRow rw -> Q (.ref p) (upd H p (.lst rw))
def Rw (H : Hp) (r : Addr) : Prop := ∃ rw, H r = some (.lst rw) /\ isRow rw
structure Stp (r : Addr) (H H' : Hp) : Prop where
  row : Rw H' r
  keep : ∀ b o, b ≠ r -> H b = some o -> H' b = some o
theorem Stp.refl {r : Addr} {H : Hp} (h : Rw H r) : Stp r H H := ⟨h, fun _ _ _ e => e⟩
theorem Stp.trans {r : Addr} {H H1 H2 : Hp} (a : Stp r H H1) (b : Stp r H1 H2) : Stp r H H2 := ⟨b.row, fun c o n e => b.keep c o n (a.keep c o n e)⟩
theorem Rw.new {r p : Addr} {H : Hp} {o : HO} (h : Rw H r) (hp : H p = none) : Rw (upd H p o) r := by
  obtain ⟨rw, e, q⟩ := h
  exact ⟨rw, by rw [upd_ne (ne_of_none e hp)]; exact e, q⟩
theorem Stp.new {r p : Addr} {H H1 : Hp} {o : HO} (a : Stp r H H1) (hp : H1 p = none) : Stp r H (upd H1 p o) :=
  ⟨a.row.new hp, fun c u n e => by rw [upd_ne (ne_of_none (a.keep c u n e) hp)]; exact a.keep c u n e⟩
theorem Rw.ne {r p : Addr} {H : Hp} (h : Rw H r) (hp : H p = none) : p ≠ r := by
  obtain ⟨rw, e, _⟩ := h
  exact fun z => by rw [z, e] at hp; cases hp
def sp_take : Sp := fun vs H Q _ => ∃ (r : Addr) (m : Int), vs = [.ref r, .int m] /\ Rw H r /\ 0 < m /\ m < 2 ^ 40 /\
  ∀ (g : Int) (H' : Hp), 0 <= g -> g < m -> Stp r H H' -> Q (.int g) H'
theorem pP : (0 : Int) < 536870909 := by decide
section
variable {P : Program} {w : World} {K : PySem.W.Frag} {mg : Str -> Option Value} {base : Heap} {a : Ad} {d : Fd}
theorem ok_stream (G : Gs K mg a d) : FnOk P w K mg base CX0 1 a.law_stream d.law_stream ["cell"] sp_stream := by
  refine G.f_law_stream.ok sc_law_stream (fun vs H Q E h => ?_) (fun cdv A outer s H vs Q E hr h => ?_)
  · obtain ⟨c, rfl, _⟩ := h
    rfl
  · obtain ⟨c, rfl, k⟩ := h
    have h0 := Int.emod_nonneg c (show (536870909 : Int) ≠ 0 by decide)
    have h1 := Int.emod_lt_of_pos c pP
    have h2 := Int.emod_nonneg (c % 536870909 * (c % 536870909)) (show (536870909 : Int) ≠ 0 by decide)
    have h3 := Int.emod_lt_of_pos (c % 536870909 * (c % 536870909)) pP
    refine ⟨_, (@pss_cons _ _ _ _ _ (@ps_set _ _ 1 _ _ _ _ sc_law_stream.nd rfl (Or.inl rfl) (@pe_op _ _ _ _ _ _ _ _ op_mod (pv 0) pe_int) (by rfl) (by first | exact .inl rfl | exact .inr rfl | assumption))
      (@pss_cons _ _ _ _ _ (@ps_set _ _ 1 _ _ _ _ sc_law_stream.nd rfl (Or.inl rfl) (@pe_op _ _ _ _ _ _ _ _ op_mod (@pe_op _ _ _ _ _ _ _ _ op_add (@pe_op _ _ _ _ _ _ _ _ op_mul (@pe_op _ _ _ _ _ _ _ _ op_mod (@pe_op _ _ _ _ _ _ _ _ op_mul (pv 1) (pv 1)) pe_int) (@pe_op _ _ _ _ _ _ _ _ op_add (pv 1) pe_int)) pe_int) pe_int) (by rfl) (by first | exact .inl rfl | exact .inr rfl | assumption))
      (@pss_one _ _ _ (@ps_ret _ _ _ _ (@pe_lst _ _ _ _ (@pa_cons _ _ _ _ _ (pv 0) (@pa_cons _ _ _ _ _ (pv 1) (@pa_cons _ _ _ _ _ (pe_callTy call_int1 (by rfl) G.n_int bt_int (@pa_cons _ _ _ _ _ (pe_cmpR op_ge (pv 0) (@pe_op _ _ _ _ _ _ _ _ op_pow pe_int pe_int) (nomark _)) pa_nil (by rfl))) pa_nil (by rfl)) (by rfl)) (by rfl))))))), ?_⟩
    refine ⟨_, rfl, _, _, rfl, rfl, pP, ?_⟩
    refine ⟨_, rfl, _, rfl, _, _, rfl, rfl, cmul_nn h0 (by omega), _, _, rfl, rfl, pP, _, rfl, _, _, rfl, rfl, _, _, rfl, rfl, cmul_nn h2 (by omega), _, _, rfl, rfl, _, _, rfl, rfl, pP, ?_⟩
    refine ⟨_, rfl, _, rfl, _, rfl, _, _, rfl, rfl, ⟨by decide, by decide, by decide⟩, _, _, rfl, rfl, Or.inr ⟨_, rfl, len3, fun p hp => ?_⟩⟩
    exact k p _ hp ⟨_, _, _, rfl, Int.emod_nonneg _ (by decide), Int.emod_lt_of_pos _ pP⟩
theorem ok_take (G : Gs K mg a d) : FnOk P w K mg base CX0 1 a.law_take d.law_take ["row", "many"] sp_take := by
  refine G.f_law_take.ok sc_law_take (fun vs H Q E h => ?_) (fun cdv A outer s H vs Q E hr h => ?_)
  · obtain ⟨r, m, rfl, _⟩ := h
    rfl
  · obtain ⟨r, m, rfl, ⟨rw, hl, c, l, b, rfl, hl0, hl1⟩, hm0, hm1, k⟩ := h
    have stp : ∀ (c' l' b' : Int), 0 <= l' -> l' < 536870909 -> Stp r H (upd H r (.lst [.int c', .int l', .int b'])) := fun c' l' b' g0 g1 =>
      ⟨⟨_, upd_same, c', l', b', rfl, g0, g1⟩, fun x o n e => by rw [upd_ne n]; exact e⟩
    refine ⟨_, (@pss_cons _ _ _ _ _ (ps_if (pt_cmpR op_eq (@pe_ix _ _ _ _ _ _ _ ix_list (pv 0) pe_int (fun _ _ => rfl)) pe_int (nomark _)) (@pss_cons _ _ _ _ _ (@ps_set _ _ 2 _ _ _ _ sc_law_take.nd rfl (Or.inl rfl) (@pe_op _ _ _ _ _ _ _ _ op_mod (@pe_ix _ _ _ _ _ _ _ ix_list (pv 0) pe_int (fun _ _ => rfl)) (pv 1)) (by rfl) (by first | exact .inl rfl | exact .inr rfl | assumption))
      (@pss_cons _ _ _ _ _ (@ps_asg _ _ _ _ _ _ (@pe_op _ _ _ _ _ _ _ _ op_fdivB (@pe_ix _ _ _ _ _ _ _ ix_list (pv 0) pe_int (fun _ _ => rfl)) (pv 1)) (pg_sub (pv 0) pe_int set_list) (by rfl) (by rfl) (by rfl))
      (@pss_one _ _ _ (@ps_ret _ _ _ _ (pv 2))))) pss_nil)
      (@pss_cons _ _ _ _ _ (@ps_asg _ _ _ _ _ _ (@pe_op _ _ _ _ _ _ _ _ op_mod (@pe_op _ _ _ _ _ _ _ _ op_mul (@pe_op _ _ _ _ _ _ _ _ op_add (@pe_ix _ _ _ _ _ _ _ ix_list (pv 0) pe_int (fun _ _ => rfl)) pe_int) (@pe_op _ _ _ _ _ _ _ _ op_add (@pe_ix _ _ _ _ _ _ _ ix_list (pv 0) pe_int (fun _ _ => rfl)) pe_int)) pe_int) (pg_sub (pv 0) pe_int set_list) (by rfl) (by rfl) (by rfl))
      (@pss_one _ _ _ (@ps_ret _ _ _ _ (@pe_op _ _ _ _ _ _ _ _ op_mod (@pe_op _ _ _ _ _ _ _ _ op_fdivB (@pe_op _ _ _ _ _ _ _ _ op_add (@pe_op _ _ _ _ _ _ _ _ op_mul (@pe_ix _ _ _ _ _ _ _ ix_list (pv 0) pe_int (fun _ _ => rfl)) pe_int) pe_int) pe_int) (pv 1)))))), ?_⟩
    refine ⟨_, rfl, r, _, _, _, rfl, rfl, SqL.of hl, rfl, rfl, _, rfl, ?_⟩
    refine ite2 (fun _ => ?_) (fun _ => ?_)
    · refine ⟨_, rfl, r, _, _, _, rfl, rfl, SqL.of hl, rfl, _, rfl, _, _, rfl, rfl, hm0, ?_⟩
      refine ⟨_, rfl, r, _, _, _, rfl, rfl, SqL.of hl, rfl, _, rfl, _, _, rfl, rfl, ⟨hm0, hm1⟩, _, rfl, r, _, _, _, rfl, rfl, hl, rfl, ?_⟩
      refine ⟨_, rfl, ?_⟩
      exact k _ _ (Int.emod_nonneg _ (by omega)) (Int.emod_lt_of_pos _ hm0) (stp _ _ _ hl0 hl1)
    · refine ⟨_, rfl, r, _, _, _, rfl, rfl, SqL.of hl, rfl, _, _, rfl, rfl, _, rfl, r, _, _, _, rfl, rfl, SqL.of hl, rfl, _, _, rfl, rfl, _, _, rfl, rfl, cmul_nn (by omega) (by omega), _, _, rfl, rfl, pP, _, rfl, r, _, _, _, rfl, rfl, hl, rfl, ?_⟩
      have g0 := Int.emod_nonneg ((l + 7919) * (l + 104729)) (show (536870909 : Int) ≠ 0 by decide)
      have g1 := Int.emod_lt_of_pos ((l + 7919) * (l + 104729)) pP
      refine ⟨_, rfl, r, _, _, _, rfl, rfl, SqL.of upd_same, rfl, _, _, rfl, rfl, cmul_nn g0 (by omega), _, _, rfl, rfl, _, _, rfl, rfl, ⟨by decide, by decide⟩, _, rfl, _, _, rfl, rfl, hm0, ?_⟩
      exact k _ _ (Int.emod_nonneg _ (by omega)) (Int.emod_lt_of_pos _ hm0) (stp _ _ _ g0 g1)
end
theorem vint_inj {i j : Int} (h : V.int i = V.int j) : i = j := by injection h
theorem cut_int {ns : List Int} {lo hi : Option Int} {y : V} (h : y ∈ [V.int 0] ++ cutV (ns.map V.int) lo hi) : ∃ z, y = V.int z := by
  rcases List.mem_append.mp h with h | h
  · exact ⟨0, List.mem_singleton.mp h⟩
  · have h1 := List.mem_of_mem_drop (List.mem_of_mem_take h)
    obtain ⟨z, _, e⟩ := List.mem_map.mp h1
    exact ⟨z, e.symm⟩
theorem cut_len {ns : List Int} {lo hi : Option Int} (h : ns.length <= 63) : [V.int 0].length + (cutV (ns.map V.int) lo hi).length <= sizeLine := by
  have h1 := cutV_length (ns.map V.int) lo hi
  rw [List.length_map] at h1
  have h2 : [V.int 0].length = 1 := rfl
  have h3 : 64 <= sizeLine := by decide
  omega

/-! ### the store's promises -/
def sp_init (w : World) (C : Addr) : Sp := fun vs H Q _ => ∃ x dx, vs = [.ref x] /\ H x = some (.ins C dx []) /\
  ∀ (hd rl : Addr) (l : Bool -> Addr) (H' : Hp), H hd = none -> H rl = none -> (∀ b, H (l b) = none) -> Sto w C H' x hd rl l [] (fun _ => []) -> Kp [x] H H' -> Q .non H'
def sp_write (w : World) (C : Addr) : Sp := fun vs H Q _ => ∃ (x hd rl : Addr) (l : Bool -> Addr) (M : List (PyData × V)) (r : Bool -> List (PyData × V)) (b : Bool) (cv wv : V) (k : PyData), vs = [.ref x, .int (sdI b), cv, wv] /\ Sto w C H x hd rl l M r /\ (r b).length < 100000 /\ KeyV H k cv /\
  ∀ H', Sto w C H' x hd rl l M (setR r b (r b ++ [(k, wv)])) -> Kp [l b] H H' -> Q .non H'
def sp_drain (w : World) (C : Addr) : Sp := fun vs H Q _ => ∃ (x hd rl : Addr) (l : Bool -> Addr) (M : List (PyData × V)) (r : Bool -> List (PyData × V)) (b : Bool) (k : PyData) (v : V) (rest : List (PyData × V)), vs = [.ref x, .int (sdI b)] /\ Sto w C H x hd rl l M r /\ r b = (k, v) :: rest /\ M.length < 100000 /\
  ∀ H', Sto w C H' x hd rl l (putD M k v) (setR r b rest) -> Kp [l b, hd] H H' -> Q .non H'
def sp_fence (w : World) (C : Addr) : Sp := fun vs H Q _ => ∃ (x hd rl : Addr) (l : Bool -> Addr) (M : List (PyData × V)) (r : Bool -> List (PyData × V)) (b : Bool), vs = [.ref x, .int (sdI b)] /\ Sto w C H x hd rl l M r /\ M.length + (r b).length < 100000 /\
  ∀ H', Sto w C H' x hd rl l (drainAll M (r b)) (setR r b []) -> Kp [l b, hd] H H' -> Q .non H'
def sp_read (w : World) (C : Addr) : Sp := fun vs H Q _ => ∃ (x hd rl : Addr) (l : Bool -> Addr) (M : List (PyData × V)) (r : Bool -> List (PyData × V)) (b : Bool) (cv : V) (k : PyData), vs = [.ref x, .int (sdI b), cv] /\ Sto w C H x hd rl l M r /\ KeyV H k cv /\ Q (readV M (r b) k) H
def sp_memory (w : World) (C : Addr) : Sp := fun vs H Q _ => ∃ (x hd rl : Addr) (l : Bool -> Addr) (M : List (PyData × V)) (r : Bool -> List (PyData × V)) (cv : V) (k : PyData), vs = [.ref x, cv] /\ Sto w C H x hd rl l M r /\ KeyV H k cv /\ Q ((lookD M k).getD (.int 0)) H
def sp_waits (w : World) (C : Addr) : Sp := fun vs H Q _ => ∃ (x hd rl : Addr) (l : Bool -> Addr) (M : List (PyData × V)) (r : Bool -> List (PyData × V)) (b : Bool), vs = [.ref x, .int (sdI b)] /\ Sto w C H x hd rl l M r /\
  ∀ (p : Addr) (ts : List V), H p = none -> Paired (Wt H) (r b) ts -> Q (.ref p) (upd H p (.lst ts))
theorem many : 100000 <= sizeLine := by decide
theorem l2 {x y : V} : [x, y].length <= sizeLine := by show 2 <= sizeLine; decide
section
variable {P : Program} {w : World} {K : PySem.W.Frag} {mg : Str -> Option Value} {base : Heap} {a : Ad} {d : Fd}
theorem ok_init (G : Gs K mg a d) : FnOk P w K mg base CX0 1 a.Store__init d.Store__init ["self"] (sp_init w a.Store) := by
  refine G.f_Store__init.ok sc_Store__init (fun vs H Q E h => ?_) (fun cdv A outer s H vs Q E hr h => ?_)
  · obtain ⟨x, dx, rfl, _⟩ := h
    rfl
  · obtain ⟨x, dx, rfl, hx, k⟩ := h
    refine ⟨_, (@pss_cons _ _ _ _ _ (ps_fld (pv 0) pe_mnew rfl)
      (@pss_one _ _ _ (ps_fld (pv 0) (@pe_lst _ _ _ _ (@pa_cons _ _ _ _ _ (@pe_lst _ _ _ _ pa_nil) (@pa_cons _ _ _ _ _ (@pe_lst _ _ _ _ pa_nil) pa_nil (by rfl)) (by rfl))) rfl))), ?_⟩
    intro hd hhd
    have n0 : x ≠ hd := ne_of_none hx hhd
    refine ⟨_, rfl, x, a.Store, dx, [], rfl, (by rw [upd_ne n0]; exact hx), G.cl_Store, G.na_Store_held, (by show 0 < 1000; decide), ?_⟩
    refine ⟨by show 0 <= sizeLine; decide, fun l0 h0 => ⟨by show 0 <= sizeLine; decide, fun l1 h1 => ⟨l2, fun rl hrl => ⟨_, rfl, x, a.Store, dx, putF "held" (.ref hd) [], rfl, ?_, G.cl_Store, G.na_Store_rows, by show 1 < 1000; decide, ?_⟩⟩⟩⟩
    all_goals
      have m0 : x ≠ l0 := ne_of_none upd_same h0
      have m1 : x ≠ l1 := ne_of_none (o := .ins a.Store dx (putF "held" (.ref hd) [])) (by rw [upd_ne m0]; exact upd_same) h1
      have m2 : x ≠ rl := ne_of_none (o := .ins a.Store dx (putF "held" (.ref hd) [])) (by rw [upd_ne m1, upd_ne m0]; exact upd_same) hrl
    · rw [upd_ne m2, upd_ne m1, upd_ne m0]; exact upd_same
    · have q0 : hd ≠ l0 := ne_of_none (o := DObj hd [] 0) (by rw [upd_ne n0.symm]; exact upd_same) h0
      have q1 : hd ≠ l1 := ne_of_none (o := DObj hd [] 0) (by rw [upd_ne q0, upd_ne n0.symm]; exact upd_same) h1
      have q2 : hd ≠ rl := ne_of_none (o := DObj hd [] 0) (by rw [upd_ne q1, upd_ne q0, upd_ne n0.symm]; exact upd_same) hrl
      have r1 : l0 ≠ l1 := ne_of_none upd_same h1
      have r2 : l0 ≠ rl := ne_of_none (o := .lst []) (by rw [upd_ne r1]; exact upd_same) hrl
      have r3 : l1 ≠ rl := ne_of_none upd_same hrl
      have e0 : ∀ c o, H c = some o -> c ≠ hd := fun c o e => ne_of_none e hhd
      have f0 : H l0 = none := by
        cases z : H l0 with
        | none => rfl
        | some o => rw [upd_ne m0.symm, upd_ne q0.symm, z] at h0; cases h0
      have f1 : H l1 = none := by
        cases z : H l1 with
        | none => rfl
        | some o => rw [upd_ne r1.symm, upd_ne m1.symm, upd_ne q1.symm, z] at h1; cases h1
      have f2 : H rl = none := by
        cases z : H rl with
        | none => rfl
        | some o => rw [upd_ne r3.symm, upd_ne r2.symm, upd_ne m2.symm, upd_ne q2.symm, z] at hrl; cases hrl
      refine k hd rl (fun b => if b then l1 else l0) _ hhd f2 (fun b => by cases b; exact f0; exact f1) ⟨⟨dx, upd_same⟩, ⟨[], 0, by rw [upd_ne n0.symm, upd_ne q2, upd_ne q1, upd_ne q0, upd_ne n0.symm, upd_same], .nil, List.nodup_nil, Nat.zero_le _⟩, by rw [upd_ne m2.symm, upd_same]; rfl, fun b => ⟨[], ?_, .nil⟩, r1, fun b => by cases b; exact r2; exact r3⟩ fun c o n e => ?_
      · cases b
        · show upd _ x _ l0 = _
          rw [upd_ne m0.symm, upd_ne r2, upd_ne r1, upd_same]
        · show upd _ x _ l1 = _
          rw [upd_ne m1.symm, upd_ne r3, upd_same]
      · have c0 : c ≠ x := fun z => n (List.mem_singleton.mpr z)
        rw [upd_ne c0, upd_ne (ne_of_none e f2), upd_ne (ne_of_none e f1), upd_ne (ne_of_none e f0), upd_ne c0, upd_ne (e0 c o e)]
        exact e
theorem ok_write (G : Gs K mg a d) : FnOk P w K mg base CX0 1 a.Store_write d.Store_write ["self", "side", "cell", "worth"] (sp_write w a.Store) := by
  refine G.f_Store_write.ok sc_Store_write (fun vs H Q E h => ?_) (fun cdv A outer s H vs Q E hr h => ?_)
  · obtain ⟨x, hd, rl, l, M, r, b, cv, wv, k, rfl, _⟩ := h
    rfl
  · obtain ⟨x, hd, rl, l, M, r, b, cv, wv, k, rfl, S, hlen, hk, q⟩ := h
    refine ⟨_, (@pss_one _ _ _ (@ps_expr _ _ _ _ (@pe_bm _ _ _ _ _ _ _ _ _ _ _ _ PySem.F.plainAttrs_list PySem.F.slot_list_append PySem.F.type_list_append mt_append (@pe_ix _ _ _ _ _ _ _ ix_list (pe_fld (pv 0) rfl) (pv 1) (fun _ _ => rfl)) (@pa_cons _ _ _ _ _ (@pe_tup _ _ _ _ _ (@pa_cons _ _ _ _ _ (pv 2) (@pa_cons _ _ _ _ _ (pv 3) pa_nil (by rfl)) (by rfl))) pa_nil (by rfl)) (by rfl) (by rfl) (by rfl) (by rfl) (by rfl)) (by rfl))), ?_⟩
    obtain ⟨dx, hx⟩ := S.ob
    obtain ⟨ts, hl, hp⟩ := S.rw b
    have hn := pairedLen hp
    refine ⟨_, rfl, x, a.Store, dx, _, _, rfl, hx, G.cl_Store, G.na_Store_rows, stF_rows, _, rfl, rl, _, _, _, rfl, rfl, SqL.of S.ro, sdI_at b, .inl ⟨rfl, _, SqL.of hl⟩, _, rfl, _, rfl, l2, fun t ht => ⟨l b, ts, .ref t, rfl, rfl, by rw [upd_ne (ne_of_none hl ht)]; exact hl, Nat.lt_of_lt_of_le (by omega) many, ?_⟩⟩
    have tne : ∀ c o, H c = some o -> c ≠ t := fun c o e => ne_of_none e ht
    have tl : t ≠ l b := (tne _ _ hl).symm
    have kp : Kp [l b] H (upd (upd H t (.tup [cv, wv])) (l b) (.lst (ts ++ [.ref t]))) := fun c o n e => by
      rw [upd_ne fun z => n (List.mem_singleton.mpr z), upd_ne (tne c o e)]; exact e
    have kt : ∀ c vs, H c = some (.tup vs) -> upd (upd H t (.tup [cv, wv])) (l b) (.lst (ts ++ [.ref t])) c = some (.tup vs) := fun c vs e => kp c _ (fun z => by
      rw [List.mem_singleton.mp z, hl] at e; cases e) e
    refine q _ ⟨⟨dx, kp _ _ (fun z => by rw [List.mem_singleton.mp z, hl] at hx; cases hx) hx⟩, S.me.keepS (fun o e => kp _ _ (fun z => by
      obtain ⟨es, e'⟩ := S.me.there
      rw [List.mem_singleton.mp z, hl] at e'; cases e') e) kt, kp _ _ (fun z => S.nr b (List.mem_singleton.mp z).symm) S.ro, fun c => ?_, S.nl, S.nr⟩ kp
    by_cases z : c = b
    · subst z
      rw [setR_same]
      exact ⟨_, upd_same, Paired.snoc (Paired.mapP hp fun _ _ q => q.keep kt) ⟨t, cv, rfl, by rw [upd_ne tl]; exact upd_same, hk.keep kt⟩⟩
    · rw [setR_ne z]
      exact (S.rw c).keep (fun o e => kp _ _ (fun y => by
        have y' := List.mem_singleton.mp y
        cases c <;> cases b
        · exact z rfl
        · exact S.nl y'
        · exact S.nl y'.symm
        · exact z rfl) e) kt
theorem ok_drain (G : Gs K mg a d) : FnOk P w K mg base CX0 1 a.Store_drain d.Store_drain ["self", "side"] (sp_drain w a.Store) := by
  refine G.f_Store_drain.ok sc_Store_drain (fun vs H Q E h => ?_) (fun cdv A outer s H vs Q E hr h => ?_)
  · obtain ⟨x, hd, rl, l, M, r, b, k, v, rest, rfl, _⟩ := h
    rfl
  · obtain ⟨x, hd, rl, l, M, r, b, k, v, rest, rfl, S, hrow, hlen, q⟩ := h
    refine ⟨_, (@pss_cons _ _ _ _ _ (ps_if (pt_not (pt_truth (@pe_ix _ _ _ _ _ _ _ ix_list (pe_fld (pv 0) rfl) (pv 1) (fun _ _ => rfl)) (fun _ => rfl))) (@pss_one _ _ _ ps_never) pss_nil)
      (@pss_cons _ _ _ _ _ (@ps_set _ _ 2 _ _ _ _ sc_Store_drain.nd rfl (Or.inl rfl) (@pe_bm _ _ _ _ _ _ _ _ _ _ _ _ PySem.F.plainAttrs_list PySem.F.slot_list_pop PySem.F.type_list_pop mt_popAt (@pe_ix _ _ _ _ _ _ _ ix_list (pe_fld (pv 0) rfl) (pv 1) (fun _ _ => rfl)) (@pa_cons _ _ _ _ _ pe_int pa_nil (by rfl)) (by rfl) (by rfl) (by rfl) (by rfl) (by rfl)) (by rfl) (by first | exact .inl rfl | exact .inr rfl | assumption))
      (@pss_one _ _ _ (ps_mput hr.units (pe_fld (pv 0) rfl) (@pe_ix _ _ _ _ _ _ _ ix_tup (pv 2) pe_int (fun _ _ => rfl)) (@pe_ix _ _ _ _ _ _ _ ix_tup (pv 2) pe_int (fun _ _ => rfl)) rfl)))), ?_⟩
    obtain ⟨dx, hx⟩ := S.ob
    obtain ⟨ts0, hl, hp0⟩ := S.rw b
    rw [hrow] at hp0
    cases hp0 with
    | @cons _ tv _ ts hw hp =>
      obtain ⟨t, cv, rfl, ht, hk⟩ := hw
      refine ⟨_, rfl, x, a.Store, dx, _, _, rfl, hx, G.cl_Store, G.na_Store_rows, stF_rows, _, rfl, rl, _, _, _, rfl, rfl, SqL.of S.ro, sdI_at b, true, .inl ⟨_, SqL.of hl, rfl⟩, iteF ?_⟩
      refine ⟨_, rfl, x, a.Store, dx, _, _, rfl, hx, G.cl_Store, G.na_Store_rows, stF_rows, _, rfl, rl, _, _, _, rfl, rfl, SqL.of S.ro, sdI_at b, .inl ⟨rfl, _, SqL.of hl⟩, l b, _, 0, 0, .ref t, rfl, rfl, hl, by decide, by decide, by simp [seqIndex?], rfl, ?_⟩
      have tl : t ≠ l b := ne_of ht hl (by intro z; cases z)
      have kp : Kp [l b] H (upd H (l b) (.lst (List.eraseIdx (.ref t :: ts) 0))) := fun c o n e => by
        rw [upd_ne fun z => n (List.mem_singleton.mpr z)]; exact e
      have kt : ∀ c vs, H c = some (.tup vs) -> upd H (l b) (.lst (List.eraseIdx (.ref t :: ts) 0)) c = some (.tup vs) := fun c vs e => kp c _ (fun z => by
        rw [List.mem_singleton.mp z, hl] at e; cases e) e
      have hx' := kp x _ (fun z => by rw [List.mem_singleton.mp z, hl] at hx; cases hx) hx
      have me' := S.me.keepS (fun o e => kp _ _ (fun z => by
        obtain ⟨es, e'⟩ := S.me.there
        rw [List.mem_singleton.mp z, hl] at e'; cases e') e) kt
      have ro' := kp rl _ (fun z => S.nr b (List.mem_singleton.mp z).symm) S.ro
      have ht' := kt t _ ht
      have rw' : ∀ c, RowAt (upd H (l b) (.lst (List.eraseIdx (.ref t :: ts) 0))) (l c) (setR r b rest c) := fun c => by
        by_cases z : c = b
        · subst z
          rw [setR_same]
          exact ⟨ts, upd_same, Paired.mapP hp fun _ _ q => q.keep kt⟩
        · rw [setR_ne z]
          exact (S.rw c).keep (fun o e => kp _ _ (fun y => by
            have y' := List.mem_singleton.mp y
            cases c <;> cases b
            · exact z rfl
            · exact S.nl y'
            · exact S.nl y'.symm
            · exact z rfl) e) kt
      have hk' := hk.keep kt
      refine ⟨_, rfl, t, _, _, _, rfl, rfl, SqT.of ht', rfl, _, rfl, x, a.Store, dx, _, _, rfl, hx', G.cl_Store, G.na_Store_held, stF_held, _, rfl, t, _, _, _, rfl, rfl, SqT.of ht', rfl, hd, M, k, rfl, me', Nat.lt_of_lt_of_le hlen many, hk', fun H4 g1 g2 => ?_⟩
      generalize upd H (l b) (.lst (List.eraseIdx (.ref t :: ts) 0)) = H1 at kp kt hx' me' ro' ht' rw' hk' g1 ⊢
      have hdn : ∀ c o, H1 c = some o -> (∀ ee : List DictEntry × Nat, o ≠ DObj hd ee.1 ee.2) -> c ≠ hd := fun c o e n z => by
        obtain ⟨es, e'⟩ := me'.there
        rw [z, e'] at e; exact n es (Option.some.inj e).symm
      have k4 : ∀ c o, c ≠ hd -> H1 c = some o -> H4 c = some o := fun c o n e => by rw [g1 c n]; exact e
      have kt4 : ∀ c vs, H1 c = some (.tup vs) -> H4 c = some (.tup vs) := fun c vs e => k4 c _ (hdn c _ e fun es z => by cases z) e
      refine q H4 ⟨⟨dx, k4 _ _ (hdn _ _ hx' fun es z => by cases z) hx'⟩, g2, k4 _ _ (hdn _ _ ro' fun es z => by cases z) ro', fun c => (rw' c).keep (fun o e => k4 _ _ (by
        obtain ⟨ts', e', _⟩ := rw' c
        exact hdn _ _ e' fun es z => by cases z) e) kt4, S.nl, S.nr⟩ fun c o n e => ?_
      exact k4 c o (fun z => n (by rw [z]; simp)) (kp c o (fun z => n (by rw [List.mem_singleton.mp z]; simp)) e)
theorem ok_memory (G : Gs K mg a d) : FnOk P w K mg base CX0 1 a.Store_memory d.Store_memory ["self", "cell"] (sp_memory w a.Store) := by
  refine G.f_Store_memory.ok sc_Store_memory (fun vs H Q E h => ?_) (fun cdv A outer s H vs Q E hr h => ?_)
  · obtain ⟨x, hd, rl, l, M, r, cv, k, rfl, _⟩ := h
    rfl
  · obtain ⟨x, hd, rl, l, M, r, cv, k, rfl, S, hk, q⟩ := h
    refine ⟨_, (@pss_one _ _ _ (@ps_ret _ _ _ _ (pe_mget2 hr.units (pe_fld (pv 0) rfl) (pv 1) pe_int ⟨rfl, rfl, rfl, rfl⟩))), ?_⟩
    obtain ⟨dx, hx⟩ := S.ob
    exact ⟨_, rfl, x, a.Store, dx, _, _, rfl, hx, G.cl_Store, G.na_Store_held, stF_held, hd, rfl, ⟨_, S.me⟩, _, rfl, M, k, S.me, hk, q⟩
theorem ok_waits (G : Gs K mg a d) : FnOk P w K mg base CX0 1 a.Store_waits d.Store_waits ["self", "side"] (sp_waits w a.Store) := by
  refine G.f_Store_waits.ok sc_Store_waits (fun vs H Q E h => ?_) (fun cdv A outer s H vs Q E hr h => ?_)
  · obtain ⟨x, hd, rl, l, M, r, b, rfl, _⟩ := h
    rfl
  · obtain ⟨x, hd, rl, l, M, r, b, rfl, S, q⟩ := h
    refine ⟨_, (@pss_one _ _ _ (@ps_ret _ _ _ _ (pe_callTy call_list_of (by rfl) G.n_list bt_list (@pa_cons _ _ _ _ _ (@pe_ix _ _ _ _ _ _ _ ix_list (pe_fld (pv 0) rfl) (pv 1) (fun _ _ => rfl)) pa_nil (by rfl))))), ?_⟩
    obtain ⟨dx, hx⟩ := S.ob
    obtain ⟨ts, hl, hp⟩ := S.rw b
    exact ⟨_, rfl, x, a.Store, dx, _, _, rfl, hx, G.cl_Store, G.na_Store_rows, stF_rows, _, rfl, rl, _, _, _, rfl, rfl, SqL.of S.ro, sdI_at b, l b, ts, rfl, .inl (SqL.of hl), fun p hp' => q p ts hp' hp⟩
theorem ok_fence (G : Gs K mg a d) : FnOk P w K mg base CX0 2 a.Store_fence d.Store_fence ["self", "side"] (sp_fence w a.Store) := by
  have c_Store_drain : FnOk P w K mg base CX0 1 _ _ _ _ := ok_drain G
  refine G.f_Store_fence.ok sc_Store_fence (fun vs H Q E h => ?_) (fun cdv A outer s H vs Q E hr h => ?_)
  · obtain ⟨x, hd, rl, l, M, r, b, rfl, _⟩ := h
    rfl
  · obtain ⟨x, hd, rl, l, M, r, b, rfl, S, hlen, q⟩ := h
    refine ⟨_, (@pss_one _ _ _ (ps_while PassesOwn.never (pt_truth (@pe_ix _ _ _ _ _ _ _ ix_list (pe_fld (pv 0) rfl) (pv 1) (fun _ _ => rfl)) (fun _ => rfl)) (@pss_one _ _ _ (@ps_expr _ _ _ _ (pe_meth (pv 0) G.cl_Store G.mt_Store_drain c_Store_drain (hr.mono (by decide)) G.b_Store_drain .nil pass0 (@pa_cons _ _ _ _ _ (pv 1) pa_nil (by rfl))) (by rfl))))), ?_⟩
    refine ⟨fun m σ H' => σ = [some (.ref x), some (.int (sdI b))] /\ ∃ (M' es : List (PyData × V)), Sto w a.Store H' x hd rl l M' (setR r b es) /\ m = es.length /\ drainAll M' es = drainAll M (r b) /\ M'.length + es.length < 100000 /\ Kp [l b, hd] H H',
      ⟨_, rfl, M, r b, by rw [show setR r b (r b) = r from funext fun c => by unfold setR; split; (rename_i z; rw [z]); rfl]; exact S, rfl, rfl, hlen, Kp.refl _ _⟩, ?_⟩
    rintro m σ H' ⟨rfl, M', es, S', rfl, hd', hl', kp⟩
    obtain ⟨dx, hx⟩ := S'.ob
    obtain ⟨ts, hl, hp⟩ := S'.rw b
    rw [setR_same] at hp
    have hn := pairedLen hp
    refine ⟨_, rfl, x, a.Store, dx, _, _, rfl, hx, G.cl_Store, G.na_Store_rows, stF_rows, _, rfl, rl, _, _, _, rfl, rfl, SqL.of S'.ro, sdI_at b, !ts.isEmpty, .inl ⟨_, SqL.of hl, rfl⟩, ?_⟩
    refine ite2 (fun ht => ?_) (fun ht => ?_)
    · cases es with
      | nil =>
        cases hp
        cases ht
      | cons p es =>
        refine ⟨_, fun σ' H2 z => z, ?_⟩
        refine ⟨_, rfl, x, dx, _, rfl, hx, stF_no (by decide +kernel) (by decide +kernel), _, rfl, x, hd, rl, l, M', _, b, p.1, p.2, es, rfl, S', setR_same, by rw [List.length_cons] at hl'; omega, fun H2 S2 kp2 => ?_⟩
        refine ⟨es.length, by rw [List.length_cons]; omega, rfl, putD M' p.1 p.2, es, ?_, rfl, hd', by have := len_putD M' p.1 p.2; rw [List.length_cons] at hl'; omega, kp.trans kp2⟩
        rw [show setR (setR r b (p :: es)) b es = setR r b es from funext fun c => by unfold setR; split <;> rfl] at S2
        exact S2
    · cases es with
      | nil =>
        have e : drainAll M' [] = M' := rfl
        rw [e] at hd'
        rw [hd'] at S'
        exact q H' S' kp
      | cons p es =>
        cases hp with
        | cons _ _ => exact absurd rfl ht
theorem ok_read (G : Gs K mg a d) : FnOk P w K mg base CX0 2 a.Store_read d.Store_read ["self", "side", "cell"] (sp_read w a.Store) := by
  have c_Store_memory : FnOk P w K mg base CX0 1 _ _ _ _ := ok_memory G
  refine G.f_Store_read.ok sc_Store_read (fun vs H Q E h => ?_) (fun cdv A outer s H vs Q E hr h => ?_)
  · obtain ⟨x, hd, rl, l, M, r, b, cv, k, rfl, _⟩ := h
    rfl
  · obtain ⟨x, hd, rl, l, M, r, b, cv, k, rfl, S, hk, q⟩ := h
    refine ⟨_, (@pss_cons _ _ _ _ _ (ps_for PassesOwn.never rfl (pi_rev (by rfl) G.n_reversed (@pa_cons _ _ _ _ _ (@pe_ix _ _ _ _ _ _ _ ix_list (pe_fld (pv 0) rfl) (pv 1) (fun _ _ => rfl)) pa_nil (by rfl))) (pg_name (i := 3) sc_Store_read.nd rfl (Or.inl rfl)) (@pss_one _ _ _ (ps_if (pt_cmpR (op_eqD hr.units) (@pe_ix _ _ _ _ _ _ _ ix_tup (pv 3) pe_int (fun _ _ => rfl)) (pv 2) (nomark _)) (@pss_one _ _ _ (@ps_ret _ _ _ _ (@pe_ix _ _ _ _ _ _ _ ix_tup (pv 3) pe_int (fun _ _ => rfl)))) pss_nil)))
      (@pss_one _ _ _ (@ps_ret _ _ _ _ (pe_meth (pv 0) G.cl_Store G.mt_Store_memory c_Store_memory (hr.mono (by decide)) G.b_Store_memory .nil pass0 (@pa_cons _ _ _ _ _ (pv 2) pa_nil (by rfl)))))), ?_⟩
    obtain ⟨dx, hx⟩ := S.ob
    obtain ⟨ts, hl, hp⟩ := S.rw b
    have hn := pairedLen hp
    refine ⟨_, rfl, x, a.Store, dx, _, _, rfl, hx, G.cl_Store, G.na_Store_rows, stF_rows, _, rfl, rl, _, _, _, rfl, rfl, SqL.of S.ro, sdI_at b, l b, ts, rfl, SqL.of hl, ?_⟩
    refine for_rev (K := K) (a := l b) (xs := ts) (fun i σ H' => (∃ v, σ = [some (.ref x), some (.int (sdI b)), some cv, v]) /\ H' = H /\ ∀ p ∈ ((r b).reverse.take i), PyData.eqv p.1 k = false)
      ⟨⟨_, rfl⟩, rfl, fun p hp => by cases hp⟩ (fun _ _ _ _ z => by rw [z.2.1]; exact SqL.of hl) ?_ ?_
    · rintro i y σ H' hi hy ⟨⟨v, rfl⟩, rfl, hno⟩
      obtain ⟨p, e1, t, tc, rfl, ht, hc⟩ := MX.f2_get hp _ _ hy
      have hrev : (r b).reverse[i]? = some p := by
        rw [List.getElem?_reverse (by omega)]
        rw [hn]; exact e1
      refine ⟨_, rfl, t, _, _, _, rfl, rfl, SqT.of ht, rfl, _, rfl, p.1, k, hc.2.2.1, hk.2.2.1, LayD.key hc.1 hc.2.1, LayD.key hk.1 hk.2.1, _, rfl, ?_⟩
      simp only [Bool.false_eq_true, if_false]
      refine ite2 (fun he => ?_) (fun he => ?_)
      · refine ⟨_, rfl, t, _, _, _, rfl, rfl, SqT.of ht, rfl, ?_⟩
        have e : readV M (r b) k = p.2 := by
          unfold readV
          have hfind : (r b).reverse.find? (fun p => PyData.eqv p.1 k) = some p := by
            rw [List.find?_eq_some_iff_getElem]
            refine ⟨he, i, (List.getElem?_eq_some_iff.mp hrev).1, (List.getElem?_eq_some_iff.mp hrev).2, fun j hj => ?_⟩
            rw [hno _ (List.mem_of_getElem? (by rw [List.getElem?_take, if_pos hj]; exact List.getElem?_eq_getElem _))]
            rfl
          rw [hfind]
        rw [e] at q
        exact q
      · refine ⟨⟨_, rfl⟩, rfl, fun p' hp' => ?_⟩
        rw [List.take_succ, hrev] at hp'
        rcases List.mem_append.mp hp' with z | z
        · exact hno p' z
        · rw [show p' = p by simpa using z]
          cases w' : PyData.eqv p.1 k with
          | false => rfl
          | true => exact absurd w' he
    · rintro σ H' ⟨⟨v, rfl⟩, rfl, hno⟩
      refine ⟨_, rfl, x, dx, _, rfl, hx, stF_no (by decide +kernel) (by decide +kernel), _, rfl, x, hd, rl, l, M, r, cv, k, rfl, S, hk, ?_⟩
      have e : readV M (r b) k = (lookD M k).getD (.int 0) := by
        unfold readV
        have hfind : (r b).reverse.find? (fun p => PyData.eqv p.1 k) = none := by
          rw [List.find?_eq_none]
          intro p hp'
          rw [hno p (by rw [List.take_of_length_le (by rw [List.length_reverse]; omega)]; exact hp')]
          decide
        rw [hfind]
      rw [e] at q
      exact q
end

/-! ### cells -/
def WV (H : Hp) (v : V) : Prop := ∃ d, MX.kd d = true /\ d.depth <= 8 /\ DV H d v
theorem WV.zero {H : Hp} {v : V} {d : PyData} (h : MX.kd d = true) (hv : DV H d v) : (PyData.eqv d (.int 0) = true ↔ v = .int 0) := by
  rw [MX.eqv_iff d _ h rfl]
  constructor
  · rintro rfl; exact hv
  · rintro rfl
    cases d with
    | int i =>
      have : V.int 0 = V.int i := hv
      rw [vint_inj this]
    | str t => cases (show V.int 0 = V.str t from hv)
    | tuple ds => obtain ⟨_, _, e, _⟩ := hv; cases e
    | none => cases h
    | bool => cases h
    | list => cases h
    | dict => cases h

theorem own_of {x hd rl : Addr} {l : Bool -> Addr} {c : Addr} (hc : c = x \/ c = hd \/ c = rl \/ ∃ b, c = l b) : Sto.own x hd rl l c := by
  rcases hc with h | h | h | ⟨b', h⟩
  · exact .inl h
  · exact .inr (.inl h)
  · exact .inr (.inr (.inl h))
  · cases b'
    · exact .inr (.inr (.inr (.inl h)))
    · exact .inr (.inr (.inr (.inr h)))
theorem own_l {x hd rl : Addr} {l : Bool -> Addr} (b : Bool) : Sto.own x hd rl l (l b) := own_of (.inr (.inr (.inr ⟨b, rfl⟩)))
theorem own_hd {x hd rl : Addr} {l : Bool -> Addr} : Sto.own x hd rl l hd := .inr (.inl rfl)
theorem Sto.kp {w : World} {C : Addr} {H H' : Hp} {x hd rl : Addr} {l : Bool -> Addr} {M : List (PyData × V)} {r : Bool -> List (PyData × V)} {xs : List Addr} (S : Sto w C H x hd rl l M r) (k : Kp xs H H') (h : ∀ c ∈ xs, ¬ Sto.own x hd rl l c) (ht : ∀ c ∈ xs, ∀ vs, H c ≠ some (.tup vs)) : Sto w C H' x hd rl l M r :=
  S.keep (fun c o hc e => k c o (fun z => h c z (own_of hc)) e) fun c vs e => k c _ (fun z => ht c z vs e) e
theorem Stp.kp {r : Addr} {H H' : Hp} (S : Stp r H H') : Kp [r] H H' := fun c o n e => S.keep c o (fun z => n (List.mem_singleton.mpr z)) e
theorem Rw.notup {r : Addr} {H : Hp} (h : Rw H r) (vs : List V) : H r ≠ some (.tup vs) := fun z => by
  obtain ⟨rw, e, _⟩ := h
  rw [e] at z; cases z
theorem Rw.kp {r : Addr} {H H' : Hp} {xs : List Addr} (h : Rw H r) (k : Kp xs H H') (n : r ∉ xs) : Rw H' r := by
  obtain ⟨rw, e, q⟩ := h
  exact ⟨rw, k r _ n e, q⟩
theorem Kp.one {H : Hp} {c : Addr} {o : HO} : Kp [c] H (upd H c o) := fun b u n e => by rw [upd_ne fun z => n (List.mem_singleton.mpr z)]; exact e

/-! ### a drawn cell, a drawn worth -/
def CellV (H : Hp) (v : V) : Prop := ∃ k, KeyV H k v /\ k ≠ .str "zz"
theorem CellV.keep {H H' : Hp} {v : V} (h : CellV H v) (ht : ∀ b vs, H b = some (.tup vs) -> H' b = some (.tup vs)) : CellV H' v := by
  obtain ⟨k, a, b⟩ := h
  exact ⟨k, a.keep ht, b⟩
def txs : List Str := ["asked", "handed", "taken", "answered", "hand sleeps", "heart sleeps", "a", "b", "aa", "ask 0", "ask", "", " ask"]
theorem txs_ok : txs.all (fun t => PyData.strOk t && !decide (t = "zz")) = true := by decide +kernel
theorem CellV.txt {H : Hp} {v : V} (h : v ∈ txs.map V.str) : CellV H v := by
  obtain ⟨t, ht, rfl⟩ := List.mem_map.mp h
  have q := List.all_eq_true.mp txs_ok t ht
  rw [Bool.and_eq_true] at q
  refine ⟨.str t, ⟨q.1, by show 0 <= 8; decide, rfl, .inl ⟨_, rfl⟩⟩, fun z => ?_⟩
  injection z with z
  have := q.2
  rw [z] at this
  exact absurd this (by decide +kernel)
theorem CellV.tup {H : Hp} {t : Addr} {vs : List V} {ds : List PyData} (h : H t = some (.tup vs)) (hk : MX.kd (.tuple ds) = true) (hd : (PyData.tuple ds).depth <= 8) (hv : DVs H ds vs) : CellV H (.ref t) :=
  ⟨.tuple ds, ⟨hk, hd, ⟨t, vs, rfl, h, hv⟩, .inr ⟨_, rfl⟩⟩, fun z => by cases z⟩
def sp_cell : Sp := fun vs H Q _ => ∃ r : Addr, vs = [.ref r] /\ Rw H r /\ ∀ (v : V) (H' : Hp), Stp r H H' -> CellV H' v -> Q v H'
def sp_worth : Sp := fun vs H Q _ => ∃ r : Addr, vs = [.ref r] /\ Rw H r /\ ∀ (v : V) (H' : Hp), Stp r H H' -> WV H' v -> Q v H'
theorem WV.int {H : Hp} (i : Int) : WV H (.int i) := ⟨.int i, rfl, by show 0 <= 8; decide, rfl⟩
theorem WV.two {H : Hp} {t : Addr} {i j : Int} (h : H t = some (.tup [.int i, .int j])) : WV H (.ref t) := ⟨.tuple [.int i, .int j], rfl, by show 1 <= 8; decide, t, _, rfl, h, ⟨_, _, rfl, rfl, _, _, rfl, rfl, rfl⟩⟩
theorem WV.keep {H H' : Hp} {v : V} (h : WV H v) (ht : ∀ b vs, H b = some (.tup vs) -> H' b = some (.tup vs)) : WV H' v := by
  obtain ⟨d, a, b, c⟩ := h
  exact ⟨d, a, b, DV.keep ht _ _ a c⟩
theorem Stp.tups {r : Addr} {H H' : Hp} (S : Stp r H H') (hr : Rw H r) : ∀ b vs, H b = some (.tup vs) -> H' b = some (.tup vs) := fun b vs e => S.keep b _ (fun z => by
  obtain ⟨rw, q, _⟩ := hr
  rw [z, q] at e; cases e) e
theorem len3v {x y z : V} : [x, y, z].length <= sizeLine := by show 3 <= sizeLine; decide
theorem len0v : ([] : List V).length <= sizeLine := by show 0 <= sizeLine; decide
theorem len11 {vs : List V} (h : vs.length <= 100) : vs.length <= sizeLine := Nat.le_trans h (by decide)
theorem Stp.none {r p : Addr} {H H' : Hp} (S : Stp r H H') (hp : H' p = none) : H p = none := by
  cases z : H p with
  | none => rfl
  | some o =>
    have := S.keep p o (S.row.ne hp) z
    rw [hp] at this; cases this
theorem hp_any {H : Hp} {G : Hp -> Prop} (F : Hp -> Prop) (h : F H) (g : ∀ H, F H -> G H) : G H := g H h
section
variable {P : Program} {w : World} {K : PySem.W.Frag} {mg : Str -> Option Value} {base : Heap} {a : Ad} {d : Fd}
theorem ok_cell (G : Gs K mg a d) : FnOk P w K mg base CX0 2 a.law_cell d.law_cell ["row"] sp_cell := by
  have c_law_take : FnOk P w K mg base CX0 1 _ _ _ _ := ok_take G
  refine G.f_law_cell.ok sc_law_cell (fun vs H Q E h => ?_) (fun cdv A outer s H vs Q E hr h => ?_)
  · obtain ⟨r, rfl, _⟩ := h
    rfl
  · obtain ⟨r, rfl, hR, k⟩ := h
    refine ⟨_, (@pss_cons _ _ _ _ _ (@ps_set _ _ 1 _ _ _ _ sc_law_cell.nd rfl (Or.inl rfl) (@pe_lst _ _ _ _ (@pa_cons _ _ _ _ _ pe_str (@pa_cons _ _ _ _ _ pe_str (@pa_cons _ _ _ _ _ pe_str (@pa_cons _ _ _ _ _ pe_str (@pa_cons _ _ _ _ _ pe_str (@pa_cons _ _ _ _ _ pe_str (@pa_cons _ _ _ _ _ pe_str (@pa_cons _ _ _ _ _ pe_str (@pa_cons _ _ _ _ _ pe_str (@pa_cons _ _ _ _ _ pe_str (@pa_cons _ _ _ _ _ pe_str pa_nil (by rfl)) (by rfl)) (by rfl)) (by rfl)) (by rfl)) (by rfl)) (by rfl)) (by rfl)) (by rfl)) (by rfl)) (by rfl))) (by rfl) (by first | exact .inl rfl | exact .inr rfl | assumption))
      (@pss_cons _ _ _ _ _ (@ps_set _ _ 1 _ _ _ _ sc_law_cell.nd rfl (Or.inl rfl) (@pe_op _ _ _ _ _ _ _ _ op_cat (pv 1) (@pe_lst _ _ _ _ (@pa_cons _ _ _ _ _ pe_str (@pa_cons _ _ _ _ _ pe_str pa_nil (by rfl)) (by rfl)))) (by rfl) (by first | exact .inl rfl | exact .inr rfl | assumption))
      (@pss_cons _ _ _ _ _ (@ps_set _ _ 2 _ _ _ _ sc_law_cell.nd rfl (Or.inl rfl) (@pe_ix _ _ _ _ _ _ _ ix_list (@pe_lst _ _ _ _ (@pa_cons _ _ _ _ _ (pe_call c_law_take (hr.mono (by decide)) (by rfl) G.m_law_take G.f_law_take.kp G.b_law_take .nil pass0 (@pa_cons _ _ _ _ _ (pv 0) (@pa_cons _ _ _ _ _ pe_int pa_nil (by rfl)) (by rfl))) (@pa_cons _ _ _ _ _ (pe_call c_law_take (hr.mono (by decide)) (by rfl) G.m_law_take G.f_law_take.kp G.b_law_take .nil pass0 (@pa_cons _ _ _ _ _ (pv 0) (@pa_cons _ _ _ _ _ pe_int pa_nil (by rfl)) (by rfl))) pa_nil (by rfl)) (by rfl))) (pe_call c_law_take (hr.mono (by decide)) (by rfl) G.m_law_take G.f_law_take.kp G.b_law_take .nil pass0 (@pa_cons _ _ _ _ _ (pv 0) (@pa_cons _ _ _ _ _ pe_int pa_nil (by rfl)) (by rfl))) (fun _ _ => rfl)) (by rfl) (by first | exact .inl rfl | exact .inr rfl | assumption))
      (@pss_cons _ _ _ _ _ (@ps_set _ _ 3 _ _ _ _ sc_law_cell.nd rfl (Or.inl rfl) (@pe_lst _ _ _ _ (@pa_cons _ _ _ _ _ (@pe_ix _ _ _ _ _ _ _ ix_list (pv 1) (pe_call c_law_take (hr.mono (by decide)) (by rfl) G.m_law_take G.f_law_take.kp G.b_law_take .nil pass0 (@pa_cons _ _ _ _ _ (pv 0) (@pa_cons _ _ _ _ _ pe_int pa_nil (by rfl)) (by rfl))) (fun _ _ => rfl)) (@pa_cons _ _ _ _ _ (@pe_tup _ _ _ _ _ (@pa_cons _ _ _ _ _ pe_str (@pa_cons _ _ _ _ _ (pv 2) pa_nil (by rfl)) (by rfl))) (@pa_cons _ _ _ _ _ (@pe_tup _ _ _ _ _ (@pa_cons _ _ _ _ _ pe_str (@pa_cons _ _ _ _ _ (pv 2) pa_nil (by rfl)) (by rfl))) (@pa_cons _ _ _ _ _ (@pe_ix _ _ _ _ _ _ _ ix_list (pv 1) (pe_call c_law_take (hr.mono (by decide)) (by rfl) G.m_law_take G.f_law_take.kp G.b_law_take .nil pass0 (@pa_cons _ _ _ _ _ (pv 0) (@pa_cons _ _ _ _ _ pe_int pa_nil (by rfl)) (by rfl))) (fun _ _ => rfl)) (@pa_cons _ _ _ _ _ (@pe_tup _ _ _ _ _ (@pa_cons _ _ _ _ _ pe_str (@pa_cons _ _ _ _ _ pe_str pa_nil (by rfl)) (by rfl))) pa_nil (by rfl)) (by rfl)) (by rfl)) (by rfl)) (by rfl))) (by rfl) (by first | exact .inl rfl | exact .inr rfl | assumption))
      (@pss_cons _ _ _ _ _ (@ps_expr _ _ _ _ (@pe_bm _ _ _ _ _ _ _ _ _ _ _ _ PySem.F.plainAttrs_list PySem.F.slot_list_append PySem.F.type_list_append mt_append (pv 3) (@pa_cons _ _ _ _ _ (@pe_ix _ _ _ _ _ _ _ ix_list (@pe_lst _ _ _ _ (@pa_cons _ _ _ _ _ (@pe_tup _ _ _ _ _ pa_nil) (@pa_cons _ _ _ _ _ (@pe_tup _ _ _ _ _ (@pa_cons _ _ _ _ _ pe_str pa_nil (by rfl))) (@pa_cons _ _ _ _ _ (@pe_tup _ _ _ _ _ (@pa_cons _ _ _ _ _ pe_str (@pa_cons _ _ _ _ _ (@pe_tup _ _ _ _ _ (@pa_cons _ _ _ _ _ pe_int pa_nil (by rfl))) pa_nil (by rfl)) (by rfl))) (@pa_cons _ _ _ _ _ (@pe_tup _ _ _ _ _ (@pa_cons _ _ _ _ _ pe_str (@pa_cons _ _ _ _ _ pe_int (@pa_cons _ _ _ _ _ pe_int pa_nil (by rfl)) (by rfl)) (by rfl))) pa_nil (by rfl)) (by rfl)) (by rfl)) (by rfl))) (pe_call c_law_take (hr.mono (by decide)) (by rfl) G.m_law_take G.f_law_take.kp G.b_law_take .nil pass0 (@pa_cons _ _ _ _ _ (pv 0) (@pa_cons _ _ _ _ _ pe_int pa_nil (by rfl)) (by rfl))) (fun _ _ => rfl)) pa_nil (by rfl)) (by rfl) (by rfl) (by rfl) (by rfl) (by rfl)) (by rfl))
      (@pss_one _ _ _ (@ps_ret _ _ _ _ (@pe_ix _ _ _ _ _ _ _ ix_list (pv 3) (pe_call c_law_take (hr.mono (by decide)) (by rfl) G.m_law_take G.f_law_take.kp G.b_law_take .nil pass0 (@pa_cons _ _ _ _ _ (pv 0) (@pa_cons _ _ _ _ _ pe_int pa_nil (by rfl)) (by rfl))) (fun _ _ => rfl))))))))), ?_⟩
    refine ⟨len11 (by show 11 <= 100; decide), fun p0 h0 => ⟨_, rfl, l2, fun p1 h1 => ⟨p0, p1, _, _, rfl, rfl, (by rw [upd_ne (ne_of_none upd_same h1)]; exact upd_same), upd_same, (by show 13 <= sizeLine; decide), fun tx htx => ?_⟩⟩⟩
    have St := (((Stp.refl hR).new h0).new h1).new htx (o := .lst (txs.map V.str))
    have hx : (upd (upd (upd H p0 (.lst ((["asked", "handed", "taken", "answered", "hand sleeps", "heart sleeps", "a", "b", "aa", "ask 0", "ask"] : List Str).map V.str))) p1 (.lst ((["", " ask"] : List Str).map V.str))) tx (.lst (txs.map V.str))) tx = some (.lst (txs.map V.str)) := upd_same
    have xr : tx ≠ r := (((Stp.refl hR).new h0).new h1).row.ne htx
    refine hp_any (fun H3 => Stp r H H3 /\ H3 tx = some (.lst (txs.map V.str))) ⟨St, hx⟩ ?_
    clear St hx htx h1
    rintro H3 ⟨St, hx⟩
    refine ⟨_, rfl, r, 8, rfl, St.row, by decide, by decide, fun g1 H4 _ _ S4 => ⟨_, rfl, r, 2, rfl, S4.row, by decide, by decide, fun g2 H5 _ _ S5 => ⟨l2, fun pl hpl => ⟨_, rfl, r, 2, rfl, (S5.new hpl).row, by decide, by decide, fun g3 H6 hg0 hg1 S6 => ?_⟩⟩⟩⟩
    obtain ⟨q, hq⟩ : ∃ q : Int, atI [V.int g1, V.int g2] g3 = some (.int q) := by
      have : g3 = 0 \/ g3 = 1 := by omega
      rcases this with rfl | rfl
      · exact ⟨g1, rfl⟩
      · exact ⟨g2, rfl⟩
    refine ⟨pl, _, _, _, rfl, rfl, SqL.of (S6.keep pl _ (S5.row.ne hpl) upd_same), hq, ?_⟩
    have S36 := (S4.trans S5).new (o := .lst [V.int g1, V.int g2]) hpl |>.trans S6
    have hx6 := S36.keep _ _ xr hx
    have St6 := St.trans S36
    clear S36 S4 S5 S6 hpl hx St
    refine ⟨_, rfl, _, rfl, r, 13, rfl, St6.row, by decide, by decide, fun g4 H7 h40 h41 S7 => ?_⟩
    have hx7 := S7.keep _ _ xr hx6
    obtain ⟨s1, hs1, ms1⟩ := at_in (xs := txs.map V.str) h40 h41
    have St7 := St6.trans S7
    refine ⟨tx, _, _, _, rfl, rfl, SqL.of hx7, hs1, _, rfl, l2, fun t1 ht1 => ⟨_, rfl, l2, fun t2 ht2 => ⟨_, rfl, _, rfl, r, 2, rfl, ((St7.new ht1).new ht2).row, by decide, by decide, fun g5 H8 h50 h51 S8 => ?_⟩⟩⟩
    have e78 : Stp r H7 _ := (((Stp.refl St7.row).new ht1).new ht2).trans S8
    have hx8 := e78.keep _ _ xr hx7
    obtain ⟨s2, hs2, ms2⟩ := at_in (xs := txs.map V.str) h50 (Int.lt_trans h51 (by decide))
    have a1 : H8 t1 = some (.tup [.str "ask", .int q]) := S8.keep _ _ (St7.row.ne ht1) (by rw [upd_ne (ne_of_none upd_same ht2)]; exact upd_same)
    have a2 : H8 t2 = some (.tup [.str "answer", .int q]) := S8.keep _ _ ((St7.new ht1).row.ne ht2) upd_same
    have St8 := St7.trans e78
    refine ⟨tx, _, _, _, rfl, rfl, SqL.of hx8, hs2, l2, fun t3 ht3 => ⟨(by show 5 <= sizeLine; decide), fun sm hsm => ?_⟩⟩
    have f3 := same_new (o := .tup [.str "ask", .str "0"]) ht3
    have f4 := same_new (o := .lst [s1, .ref t1, .ref t2, s2, .ref t3]) hsm
    have St9 := (St8.new (o := .tup [.str "ask", .str "0"]) ht3).new (o := .lst [s1, .ref t1, .ref t2, s2, .ref t3]) hsm
    have b1 := f4 _ _ (f3 _ _ a1)
    have b2 := f4 _ _ (f3 _ _ a2)
    have b3 := f4 _ _ (upd_same (H := H8) (a := t3) (o := .tup [.str "ask", .str "0"]))
    have b4 : upd (upd H8 t3 (.tup [.str "ask", .str "0"])) sm (.lst [s1, .ref t1, .ref t2, s2, .ref t3]) sm = some (.lst [s1, .ref t1, .ref t2, s2, .ref t3]) := upd_same
    have smr : sm ≠ r := (St8.new ht3).row.ne hsm
    have smn : H sm = none := (St8.new ht3).none hsm
    refine hp_any (fun H9 => Stp r H H9 /\ H9 t1 = some (.tup [.str "ask", .int q]) /\ H9 t2 = some (.tup [.str "answer", .int q]) /\ H9 t3 = some (.tup [.str "ask", .str "0"]) /\ H9 sm = some (.lst [s1, .ref t1, .ref t2, s2, .ref t3])) ⟨St9, b1, b2, b3, b4⟩ ?_
    clear St9 b1 b2 b3 b4 f3 f4 ht3 hsm a1 a2 e78 St8 St7 St6 S7 S8 hx6 hx7 hx8 ht1 ht2
    rintro H9 ⟨St, b1, b2, b3, b4⟩
    refine ⟨_, rfl, .inl ⟨rfl, _, SqL.of b4⟩, len0v, fun u0 h0 => ⟨(by show 1 <= sizeLine; decide), fun u1 h1 => ⟨(by show 1 <= sizeLine; decide), fun u2 h2 => ⟨l2, fun u3 h3 => ⟨len3v, fun u4 h4 => ⟨(by show 4 <= sizeLine; decide), fun ul hul => ⟨_, rfl, r, 4, rfl, ((((((St.new h0).new h1).new h2).new h3).new h4).new hul).row, by decide, by decide, fun g6 H10 h60 h61 S10 => ?_⟩⟩⟩⟩⟩⟩⟩
    have k0 := same_new (o := .tup []) h0
    have k1 := same_new (o := .tup [.str "asked"]) h1
    have k2 := same_new (o := .tup [.int 0]) h2
    have k3 := same_new (o := .tup [.str "ask", .ref u2]) h3
    have k4 := same_new (o := .tup [.str "ask", .int 0, .int 0]) h4
    have k5 := same_new (o := .lst [.ref u0, .ref u1, .ref u3, .ref u4]) hul
    have St0 := St.new (o := .tup []) h0
    have St1 := St0.new (o := .tup [.str "asked"]) h1
    have St2 := St1.new (o := .tup [.int 0]) h2
    have St3 := St2.new (o := .tup [.str "ask", .ref u2]) h3
    have St4 := St3.new (o := .tup [.str "ask", .int 0, .int 0]) h4
    have St5 := St4.new (o := .lst [.ref u0, .ref u1, .ref u3, .ref u4]) hul
    have c0 := S10.keep _ _ (St.row.ne h0) (k5 _ _ (k4 _ _ (k3 _ _ (k2 _ _ (k1 _ _ (upd_same (H := H9) (a := u0) (o := .tup [])))))))
    have c1 := S10.keep _ _ (St0.row.ne h1) (k5 _ _ (k4 _ _ (k3 _ _ (k2 _ _ (upd_same (a := u1) (o := .tup [.str "asked"]))))))
    have c2 := S10.keep _ _ (St1.row.ne h2) (k5 _ _ (k4 _ _ (k3 _ _ (upd_same (a := u2) (o := .tup [.int 0])))))
    have c3 := S10.keep _ _ (St2.row.ne h3) (k5 _ _ (k4 _ _ (upd_same (a := u3) (o := .tup [.str "ask", .ref u2]))))
    have c4 := S10.keep _ _ (St3.row.ne h4) (k5 _ _ (upd_same (a := u4) (o := .tup [.str "ask", .int 0, .int 0])))
    have c5 := S10.keep _ _ (St4.row.ne hul) (upd_same (a := ul) (o := .lst [.ref u0, .ref u1, .ref u3, .ref u4]))
    have ka : Same H9 _ := k0.trans (k1.trans (k2.trans (k3.trans (k4.trans k5))))
    have tr : ∀ {t : Addr} {vs : List V}, H9 t = some (.tup vs) -> H10 t = some (.tup vs) := fun {t vs} e => S10.tups St5.row t vs (ka _ _ e)
    have d4 := S10.keep _ _ smr (ka _ _ b4)
    obtain ⟨v6, hv6, cv6⟩ : ∃ v6, atI [V.ref u0, V.ref u1, V.ref u3, V.ref u4] g6 = some v6 /\ CellV H10 v6 := by
      have : g6 = 0 \/ g6 = 1 \/ g6 = 2 \/ g6 = 3 := by omega
      rcases this with rfl | rfl | rfl | rfl
      · exact ⟨_, rfl, CellV.tup (ds := []) c0 rfl (by decide) rfl⟩
      · exact ⟨_, rfl, CellV.tup (ds := [.str "asked"]) c1 (by decide +kernel) (by decide) ⟨_, _, rfl, rfl, rfl⟩⟩
      · exact ⟨_, rfl, CellV.tup (ds := [.str "ask", .tuple [.int 0]]) c3 (by decide +kernel) (by decide) ⟨_, _, rfl, rfl, _, _, rfl, ⟨u2, _, rfl, c2, ⟨_, _, rfl, rfl, rfl⟩⟩, rfl⟩⟩
      · exact ⟨_, rfl, CellV.tup (ds := [.str "ask", .int 0, .int 0]) c4 (by decide +kernel) (by decide) ⟨_, _, rfl, rfl, _, _, rfl, rfl, _, _, rfl, rfl, rfl⟩⟩
    have St10 := St5.trans S10
    refine ⟨ul, _, _, _, rfl, rfl, SqL.of c5, hv6, sm, _, _, rfl, rfl, d4, (by show 5 < sizeLine; decide), ?_⟩
    have nt : ∀ b vs, H10 b = some (.tup vs) -> upd H10 sm (.lst [s1, .ref t1, .ref t2, s2, .ref t3, v6]) b = some (.tup vs) := fun b vs e => by
      rw [upd_ne (ne_of e d4 (by intro z; cases z))]; exact e
    have St11 : Stp r H (upd H10 sm (.lst [s1, .ref t1, .ref t2, s2, .ref t3, v6])) := by
      refine ⟨?_, fun c o n e => ?_⟩
      · obtain ⟨rw, e, q⟩ := St10.row
        exact ⟨rw, by rw [upd_ne (Ne.symm smr)]; exact e, q⟩
      · rw [upd_ne (ne_of_none e smn)]
        exact St10.keep c o n e
    have kd2 : ∀ (t : Str) (e : PyData), PyData.strOk t = true -> MX.kd e = true -> MX.kd (.tuple [.str t, e]) = true := fun t e a b => by
      show (PyData.strOk t && (MX.kd e && true)) = true
      rw [a, b]; rfl
    refine ⟨_, rfl, _, rfl, r, 6, rfl, St11.row, by decide, by decide, fun g7 H12 h70 h71 S12 => ?_⟩
    have hsm := S12.keep _ _ smr (upd_same (H := H10) (a := sm) (o := .lst [s1, .ref t1, .ref t2, s2, .ref t3, v6]))
    have tr2 : ∀ b vs, H10 b = some (.tup vs) -> H12 b = some (.tup vs) := fun b vs e => S12.tups St11.row b vs (nt b vs e)
    obtain ⟨v, hv, cv⟩ : ∃ v, atI [s1, .ref t1, .ref t2, s2, .ref t3, v6] g7 = some v /\ CellV H12 v := by
      have : g7 = 0 \/ g7 = 1 \/ g7 = 2 \/ g7 = 3 \/ g7 = 4 \/ g7 = 5 := by omega
      rcases this with rfl | rfl | rfl | rfl | rfl | rfl
      · exact ⟨_, rfl, .txt ms1⟩
      · exact ⟨_, rfl, CellV.tup (ds := [.str "ask", .int q]) (tr2 _ _ (tr b1)) (kd2 _ _ (by decide +kernel) rfl) (by show 1 <= 8; decide) ⟨_, _, rfl, rfl, _, _, rfl, rfl, rfl⟩⟩
      · exact ⟨_, rfl, CellV.tup (ds := [.str "answer", .int q]) (tr2 _ _ (tr b2)) (kd2 _ _ (by decide +kernel) rfl) (by show 1 <= 8; decide) ⟨_, _, rfl, rfl, _, _, rfl, rfl, rfl⟩⟩
      · exact ⟨_, rfl, .txt ms2⟩
      · exact ⟨_, rfl, CellV.tup (ds := [.str "ask", .str "0"]) (tr2 _ _ (tr b3)) (by decide +kernel) (by decide) ⟨_, _, rfl, rfl, _, _, rfl, rfl, rfl⟩⟩
      · exact ⟨_, rfl, cv6.keep tr2⟩
    exact ⟨sm, _, _, _, rfl, rfl, SqL.of hsm, hv, k v H12 (St11.trans S12) cv⟩
theorem ok_worth (G : Gs K mg a d) : FnOk P w K mg base CX0 2 a.law_worth d.law_worth ["row"] sp_worth := by
  have c_law_take : FnOk P w K mg base CX0 1 _ _ _ _ := ok_take G
  refine G.f_law_worth.ok sc_law_worth (fun vs H Q E h => ?_) (fun cdv A outer s H vs Q E hr h => ?_)
  · obtain ⟨r, rfl, _⟩ := h
    rfl
  · obtain ⟨r, rfl, hR, k⟩ := h
    refine ⟨_, (@pss_cons _ _ _ _ _ (@ps_set _ _ 1 _ _ _ _ sc_law_worth.nd rfl (Or.inl rfl) (@pe_op _ _ _ _ _ _ _ _ op_sub (pe_call c_law_take (hr.mono (by decide)) (by rfl) G.m_law_take G.f_law_take.kp G.b_law_take .nil pass0 (@pa_cons _ _ _ _ _ (pv 0) (@pa_cons _ _ _ _ _ (@pe_op _ _ _ _ _ _ _ _ op_add (@pe_op _ _ _ _ _ _ _ _ op_mul pe_int (@pe_op _ _ _ _ _ _ _ _ op_pow pe_int pe_int)) pe_int) pa_nil (by rfl)) (by rfl))) (@pe_op _ _ _ _ _ _ _ _ op_pow pe_int pe_int)) (by rfl) (by first | exact .inl rfl | exact .inr rfl | assumption))
      (@pss_one _ _ _ (@ps_ret _ _ _ _ (@pe_ix _ _ _ _ _ _ _ ix_list (@pe_lst _ _ _ _ (@pa_cons _ _ _ _ _ pe_int (@pa_cons _ _ _ _ _ pe_int (@pa_cons _ _ _ _ _ (pv 1) (@pa_cons _ _ _ _ _ (@pe_tup _ _ _ _ _ (@pa_cons _ _ _ _ _ (pe_call c_law_take (hr.mono (by decide)) (by rfl) G.m_law_take G.f_law_take.kp G.b_law_take .nil pass0 (@pa_cons _ _ _ _ _ (pv 0) (@pa_cons _ _ _ _ _ pe_int pa_nil (by rfl)) (by rfl))) (@pa_cons _ _ _ _ _ (pv 1) pa_nil (by rfl)) (by rfl))) (@pa_cons _ _ _ _ _ (pe_call c_law_take (hr.mono (by decide)) (by rfl) G.m_law_take G.f_law_take.kp G.b_law_take .nil pass0 (@pa_cons _ _ _ _ _ (pv 0) (@pa_cons _ _ _ _ _ pe_int pa_nil (by rfl)) (by rfl))) (@pa_cons _ _ _ _ _ (@pe_op _ _ _ _ _ _ _ _ op_pow pe_int pe_int) (@pa_cons _ _ _ _ _ (pe_un un_neg (@pe_op _ _ _ _ _ _ _ _ op_pow pe_int pe_int)) pa_nil (by rfl)) (by rfl)) (by rfl)) (by rfl)) (by rfl)) (by rfl)) (by rfl))) (pe_call c_law_take (hr.mono (by decide)) (by rfl) G.m_law_take G.f_law_take.kp G.b_law_take .nil pass0 (@pa_cons _ _ _ _ _ (pv 0) (@pa_cons _ _ _ _ _ pe_int pa_nil (by rfl)) (by rfl))) (fun _ _ => rfl))))), ?_⟩
    refine ⟨_, rfl, _, _, rfl, rfl, ⟨by decide, by decide, by decide⟩, _, _, rfl, rfl, cmul_nn (by decide) (by decide), _, _, rfl, rfl, r, 2000000001, rfl, hR, by decide, by decide, fun g H1 _ _ S1 => ?_⟩
    refine ⟨_, _, rfl, rfl, ⟨by decide, by decide, by decide⟩, _, _, rfl, rfl, ?_⟩
    refine ⟨_, rfl, _, rfl, r, 9, rfl, S1.row, by decide, by decide, fun g2 H2 _ _ S2 => ⟨_, rfl, l2, fun t ht => ⟨_, rfl, r, 4, rfl, (S2.new ht).row, by decide, by decide, fun g3 H3 _ _ S3 => ?_⟩⟩⟩
    refine ⟨_, _, rfl, rfl, ⟨by decide, by decide, by decide⟩, _, _, rfl, rfl, ⟨by decide, by decide, by decide⟩, _, rfl, (by show 7 <= sizeLine; decide), fun p hp => ⟨_, rfl, r, 7, rfl, (S3.new hp).row, by decide, by decide, fun g4 H4 h0 h1 S4 => ?_⟩⟩
    have ht3 := S3.keep _ _ (S2.row.ne ht) (upd_same (H := H2) (a := t) (o := .tup [.int g2, .int (g - 10 ^ (9 : Int).toNat)]))
    have ht4 := S4.keep _ _ (S2.row.ne ht) ((same_new hp) _ _ ht3)
    have hp4 := S4.keep _ _ (S3.row.ne hp) upd_same
    obtain ⟨v, hv, cv⟩ : ∃ v, atI [.int 0, .int 1, .int (g - 10 ^ (9 : Int).toNat), .ref t, .int g3, .int (10 ^ (9 : Int).toNat), .int (-(10 ^ (9 : Int).toNat))] g4 = some v /\ WV H4 v := by
      have : g4 = 0 \/ g4 = 1 \/ g4 = 2 \/ g4 = 3 \/ g4 = 4 \/ g4 = 5 \/ g4 = 6 := by omega
      rcases this with rfl | rfl | rfl | rfl | rfl | rfl | rfl
      · exact ⟨_, rfl, .int _⟩
      · exact ⟨_, rfl, .int _⟩
      · exact ⟨_, rfl, .int _⟩
      · exact ⟨_, rfl, .two ht4⟩
      · exact ⟨_, rfl, .int _⟩
      · exact ⟨_, rfl, .int _⟩
      · exact ⟨_, rfl, .int _⟩
    exact ⟨p, _, _, v, rfl, rfl, SqL.of hp4, hv, k v H4 (((S1.trans S2).new ht).trans ((S3.new hp).trans S4)) cv⟩
end

theorem none_back {H H' : Hp} {c : Addr} (e : Same H H') (h : H' c = none) : H c = none := by
  cases z : H c with
  | none => rfl
  | some o => rw [e c o z] at h; cases h
/-! ### what is told of a store -/
structure TA where
  D : Addr
  R : Addr
  Mm : Addr
  w : Bool -> Addr
theorem ne_rm : ¬ (("rows" : Str) = "memory") := by decide +kernel
theorem inr_ne {x y : Str} (h : ¬ x = y) : ¬ (Sum.inr x : Key) = Sum.inr y := fun z => h (by injection z)
def tdK (A : TA) : List (Key × V) := [(Sum.inr "rows", .ref A.R), (Sum.inr "memory", .ref A.Mm)]
theorem dg_rows {H : Hp} {A : TA} (h : H A.D = some (.dK (tdK A))) : DGet H A.D (.str "rows") (some (.ref A.R)) := by
  have e : valV (tdK A) (Sum.inr "rows" : Key) = some (.ref A.R) := valV_pos rfl
  rw [← e]; exact DGet.k (k := Sum.inr "rows") h
theorem dg_mem {H : Hp} {A : TA} (h : H A.D = some (.dK (tdK A))) : DGet H A.D (.str "memory") (some (.ref A.Mm)) := by
  have e : valV (tdK A) (Sum.inr "memory" : Key) = some (.ref A.Mm) := (valV_neg (inr_ne ne_rm)).trans (valV_pos rfl)
  rw [← e]; exact DGet.k (k := Sum.inr "memory") h
theorem merge_td {A : TA} : mergeK [] (tdK A) = tdK A := by
  unfold mergeK tdK
  rw [List.foldl_cons, List.foldl_cons, List.foldl_nil, putK_new _ valV_nil, putK_new]
  · rfl
  · exact (valV_neg (inr_ne ne_rm)).trans valV_nil
structure Tl (H : Hp) (A : TA) (r : Bool -> List (PyData × V)) (mem : List V) : Prop where
  d : H A.D = some (.dK (tdK A))
  rr : H A.R = some (.lst [.ref (A.w false), .ref (A.w true)])
  rw : ∀ b, RowAt H (A.w b) (r b)
  mm : H A.Mm = some (.lst mem)
def TA.ls (A : TA) : List Addr := [A.D, A.R, A.Mm, A.w false, A.w true]
theorem TA.wls (A : TA) (b : Bool) : A.w b ∈ A.ls := by cases b <;> simp [TA.ls]
theorem Tl.keep {H H' : Hp} {A : TA} {r : Bool -> List (PyData × V)} {mem : List V} (T : Tl H A r mem) (h : ∀ c o, c ∈ A.ls -> H c = some o -> H' c = some o) (ht : ∀ b vs, H b = some (.tup vs) -> H' b = some (.tup vs)) : Tl H' A r mem :=
  ⟨h _ _ (by simp [TA.ls]) T.d, h _ _ (by simp [TA.ls]) T.rr, fun b => (T.rw b).keep (fun o => h _ o (A.wls b)) ht, h _ _ (by simp [TA.ls]) T.mm⟩
theorem Tl.same {H H' : Hp} {A : TA} {r : Bool -> List (PyData × V)} {mem : List V} (T : Tl H A r mem) (e : Same H H') : Tl H' A r mem := T.keep (fun c o _ q => e c o q) fun b vs q => e b _ q
theorem w_at {A : TA} (b : Bool) : atI [V.ref (A.w false), V.ref (A.w true)] (sdI b) = some (.ref (A.w b)) := by cases b <;> rfl
def look (M : List (PyData × V)) (k : PyData) : V := (lookD M k).getD (.int 0)
structure SA where
  x : Addr
  hd : Addr
  rl : Addr
  l : Bool -> Addr
structure Ev (w : World) (C : Addr) (H : Hp) (s : SA) (M : List (PyData × V)) (r : Bool -> List (PyData × V)) (sm : Addr) (cvs : List V) (ks : List PyData) : Prop where
  st : Sto w C H s.x s.hd s.rl s.l M r
  wm : ∀ p ∈ M, WV H p.2
  wr : ∀ b, ∀ p ∈ r b, WV H p.2
  no : ¬ Sto.own s.x s.hd s.rl s.l sm
  sk : Paired (KeyV H) ks cvs
  sm : H sm = some (.lst cvs)
section
variable {w : World} {C : Addr} {H H' : Hp} {s : SA} {M : List (PyData × V)} {r : Bool -> List (PyData × V)} {sm : Addr} {cvs : List V} {ks : List PyData}
theorem Ev.keep (S : Ev w C H s M r sm cvs ks) (h : ∀ c o, Sto.own s.x s.hd s.rl s.l c \/ c = sm -> H c = some o -> H' c = some o) (ht : ∀ b vs, H b = some (.tup vs) -> H' b = some (.tup vs)) : Ev w C H' s M r sm cvs ks :=
  ⟨S.st.keep (fun c o hc => h c o (.inl (own_of hc))) ht, fun p hp => (S.wm p hp).keep ht, fun b p hp => (S.wr b p hp).keep ht, S.no, Paired.mapP S.sk fun _ _ q => q.keep ht, h _ _ (.inr rfl) S.sm⟩
theorem Ev.same (S : Ev w C H s M r sm cvs ks) (e : Same H H') : Ev w C H' s M r sm cvs ks := S.keep (fun c o _ q => e c o q) fun b vs q => e b _ q
theorem Ev.fresh (S : Ev w C H s M r sm cvs ks) {p : Addr} (hp : H p = none) : ¬ (Sto.own s.x s.hd s.rl s.l p \/ p = sm) := fun z => by
  rcases z with z | z
  · exact S.st.fresh hp z
  · rw [z, S.sm] at hp; cases hp
theorem Ev.stp {g : Addr} (S : Ev w C H s M r sm cvs ks) (hR : Rw H g) (hg : ¬ (Sto.own s.x s.hd s.rl s.l g \/ g = sm)) (e : Stp g H H') : Ev w C H' s M r sm cvs ks :=
  S.keep (fun c o hc q => e.keep c o (fun z => hg (by rw [← z]; exact hc)) q) (e.tups hR)
theorem WV.look (S : ∀ p ∈ M, WV H p.2) (k : PyData) : WV H (look M k) := by
  unfold My.look lookD
  cases z : M.find? fun p => PyData.eqv p.1 k with
  | none => exact WV.int 0
  | some p => exact S p (List.mem_of_find?_eq_some z)
theorem WV.read {es : List (PyData × V)} (S : ∀ p ∈ M, WV H p.2) (S' : ∀ p ∈ es, WV H p.2) (k : PyData) : WV H (readV M es k) := by
  unfold readV
  cases z : es.reverse.find? fun p => PyData.eqv p.1 k with
  | none => exact WV.look S k
  | some p => exact S' p (List.mem_reverse.mp (List.mem_of_find?_eq_some z))
end
/-! ### looks -/
def sp_looks (w : World) (C : Addr) : Sp := fun vs H Q _ => ∃ (s : SA) (M : List (PyData × V)) (r : Bool -> List (PyData × V)) (sm : Addr) (cvs : List V) (ks : List PyData), vs = [.ref s.x, .ref sm] /\ Ev w C H s M r sm cvs ks /\ ks.length <= 100 /\
  ∀ (A : TA) (H' : Hp), Same H H' -> (∀ c ∈ A.ls, H c = none) -> Tl H' A r (ks.map (look M)) -> Q (.ref A.D) H'
theorem up1 {H : Hp} {a b : Addr} {o : HO} (h : upd H a o b = none) : b ≠ a /\ H b = none := by
  have n : b ≠ a := fun z => by rw [z, upd_same] at h; cases h
  exact ⟨n, by rw [upd_ne n] at h; exact h⟩
theorem tl_make {H : Hp} {D w0 w1 R Mm : Addr} {t0 t1 mem : List V} {r : Bool -> List (PyData × V)} {A : TA} (hA : A = ⟨D, R, Mm, fun b => if b then w1 else w0⟩) (hD : H D = none) (h0 : upd H D (.dK []) w0 = none) (h1 : upd (upd H D (.dK [])) w0 (.lst t0) w1 = none)
    (hR : upd (upd (upd H D (.dK [])) w0 (.lst t0)) w1 (.lst t1) R = none) (hM : upd (upd (upd (upd H D (.dK [])) w0 (.lst t0)) w1 (.lst t1)) R (.lst [V.ref w0, V.ref w1]) Mm = none)
    (p0 : Paired (Wt (upd H D (.dK []))) (r false) t0) (p1 : Paired (Wt (upd (upd H D (.dK [])) w0 (.lst t0))) (r true) t1) {H5 : Hp} (e5' : H5 = upd (upd (upd (upd (upd H D (.dK [])) w0 (.lst t0)) w1 (.lst t1)) R (.lst [V.ref w0, V.ref w1])) Mm (.lst mem)) :
    H5 D = some (.dK []) /\ Tl (upd H5 D (.dK (tdK A))) A r mem /\ Same H (upd H5 D (.dK (tdK A))) /\ (∀ c ∈ A.ls, H c = none) /\ (∀ b, A.w b ≠ A.R) /\ (∀ b, A.w b ≠ A.Mm) /\ A.w false ≠ A.w true /\ A.Mm ≠ A.R := by
  have e1 := same_new (o := .dK []) hD
  have e2 := same_new (o := .lst t0) h0
  have e3 := same_new (o := .lst t1) h1
  have e4 := same_new (o := .lst [V.ref w0, V.ref w1]) hR
  have e5 := same_new (o := .lst mem) hM
  have D5 := e5 _ _ (e4 _ _ (e3 _ _ (e2 _ _ (upd_same (H := H) (a := D) (o := .dK [])))))
  have q0 := e5 _ _ (e4 _ _ (e3 _ _ (upd_same (H := upd H D (.dK [])) (a := w0) (o := .lst t0))))
  have q1 := e5 _ _ (e4 _ _ (upd_same (a := w1) (o := .lst t1)))
  have q2 := e5 _ _ (upd_same (a := R) (o := .lst [V.ref w0, V.ref w1]))
  have q3 := upd_same (H := upd (upd (upd (upd H D (.dK [])) w0 (.lst t0)) w1 (.lst t1)) R (.lst [V.ref w0, V.ref w1])) (a := Mm) (o := .lst mem)
  have e25 := e2.trans (e3.trans (e4.trans e5))
  have e35 := e3.trans (e4.trans e5)
  have p0' := Paired.mapP p0 fun _ _ q => q.keep fun b vs e => e25 b _ e
  have p1' := Paired.mapP p1 fun _ _ q => q.keep fun b vs e => e35 b _ e
  have nD : ∀ c o, H c = some o -> c ≠ D := fun c o e => ne_of_none e hD
  have e15 := e1.trans e25
  rw [← e5'] at D5 q0 q1 q2 q3 p0' p1' e15
  have k6 : ∀ c o, c ≠ D -> H5 c = some o -> upd H5 D (.dK (tdK A)) c = some o := fun c o n e => by rw [upd_ne n]; exact e
  have nk : ∀ c xs, H5 c = some (.lst xs) -> c ≠ D := fun c xs e z => by rw [z, D5] at e; cases e
  have kt : ∀ b vs, H5 b = some (.tup vs) -> upd H5 D (.dK (tdK A)) b = some (.tup vs) := fun b vs e => k6 b _ (fun z => by rw [z, D5] at e; cases e) e
  have fM : H Mm = none := none_back (e1.trans (e2.trans (e3.trans e4))) hM
  have fR : H R = none := none_back (e1.trans (e2.trans e3)) hR
  have f1 : H w1 = none := none_back (e1.trans e2) h1
  have f0 : H w0 = none := none_back e1 h0
  have g1 := up1 h1
  have gR1 := up1 hR
  have gR0 := up1 gR1.2
  have gMR := up1 hM
  have gM1 := up1 gMR.2
  have gM0 := up1 gM1.2
  subst hA
  refine ⟨D5, ⟨upd_same, k6 _ _ (nk _ _ q2) q2, fun b => ?_, k6 _ _ (nk _ _ q3) q3⟩, fun c o e => k6 c o (nD c o e) (e15 c o e), fun c hc => ?_, fun b => ?_, fun b => ?_, g1.1.symm, gMR.1⟩
  · cases b
    · exact ⟨t0, k6 _ _ (nk _ _ q0) q0, Paired.mapP p0' fun _ _ q => q.keep kt⟩
    · exact ⟨t1, k6 _ _ (nk _ _ q1) q1, Paired.mapP p1' fun _ _ q => q.keep kt⟩
  · simp only [TA.ls, List.mem_cons, List.not_mem_nil, or_false, Bool.false_eq_true, if_false, if_true] at hc
    rcases hc with rfl | rfl | rfl | rfl | rfl
    · exact hD
    · exact fR
    · exact fM
    · exact f0
    · exact f1
  · cases b
    · exact gR0.1.symm
    · exact gR1.1.symm
  · cases b
    · exact gM0.1.symm
    · exact gM1.1.symm
section
variable {P : Program} {w : World} {K : PySem.W.Frag} {mg : Str -> Option Value} {base : Heap} {a : Ad} {d : Fd}
theorem ok_looks (G : Gs K mg a d) : FnOk P w K mg base CX0 3 a.law_looks d.law_looks ["store", "some"] (sp_looks w a.Store) := by
  have c_Store_memory : FnOk P w K mg base CX0 1 _ _ _ _ := ok_memory G
  have c_Store_waits : FnOk P w K mg base CX0 1 _ _ _ _ := ok_waits G
  have c_Store_read : FnOk P w K mg base CX0 2 _ _ _ _ := ok_read G
  refine G.f_law_looks.ok sc_law_looks (fun vs H Q E h => ?_) (fun cdv A outer st H vs Q E hr h => ?_)
  · obtain ⟨s, M, r, sm, cvs, ks, rfl, _⟩ := h
    rfl
  · obtain ⟨s, M, r, sm, cvs, ks, rfl, S, hks, k⟩ := h
    have hu := hu_of hr
    refine ⟨_, (@pss_cons _ _ _ _ _ (@ps_set _ _ 2 _ _ _ _ sc_law_looks.nd rfl (Or.inl rfl) (@pe_disp _ _ _ _ _ (@pps_cons _ _ _ _ _ _ _ _ _ pe_str (@pe_lst _ _ _ _ (@pa_cons _ _ _ _ _ (pe_meth (pv 0) G.cl_Store G.mt_Store_waits c_Store_waits (hr.mono (by decide)) G.b_Store_waits .nil pass0 (@pa_cons _ _ _ _ _ pe_int pa_nil (by rfl))) (@pa_cons _ _ _ _ _ (pe_meth (pv 0) G.cl_Store G.mt_Store_waits c_Store_waits (hr.mono (by decide)) G.b_Store_waits .nil pass0 (@pa_cons _ _ _ _ _ pe_int pa_nil (by rfl))) pa_nil (by rfl)) (by rfl))) (@pps_cons _ _ _ _ _ _ _ _ _ pe_str (@pe_lst _ _ _ _ pa_nil) pps_nil)) rfl rfl (by simp) (by decide)) (by rfl) (by first | exact .inl rfl | exact .inr rfl | assumption))
      (@pss_cons _ _ _ _ _ (ps_for PassesOwn.never rfl (pi_list (pv 1)) (pg_name (i := 3) sc_law_looks.nd rfl (Or.inl rfl)) (@pss_cons _ _ _ _ _ (@ps_expr _ _ _ _ (@pe_bm _ _ _ _ _ _ _ _ _ _ _ _ PySem.F.plainAttrs_list PySem.F.slot_list_append PySem.F.type_list_append mt_append (pe_dget hu (pv 2) pe_str (fun _ _ => rfl)) (@pa_cons _ _ _ _ _ (pe_meth (pv 0) G.cl_Store G.mt_Store_memory c_Store_memory (hr.mono (by decide)) G.b_Store_memory .nil pass0 (@pa_cons _ _ _ _ _ (pv 3) pa_nil (by rfl))) pa_nil (by rfl)) (by rfl) (by rfl) (by rfl) (by rfl) (by rfl)) (by rfl))
      (@pss_one _ _ _ (ps_for PassesOwn.never rfl (pi_range1 (by rfl) G.n_range (@pa_cons _ _ _ _ _ pe_int pa_nil (by rfl))) (pg_name (i := 4) sc_law_looks.nd rfl (Or.inl rfl)) (@pss_cons _ _ _ _ _ (@ps_set _ _ 5 _ _ _ _ sc_law_looks.nd rfl (Or.inl rfl) (pe_meth (pv 0) G.cl_Store G.mt_Store_memory c_Store_memory (hr.mono (by decide)) G.b_Store_memory .nil pass0 (@pa_cons _ _ _ _ _ (pv 3) pa_nil (by rfl))) (by rfl) (by first | exact .inl rfl | exact .inr rfl | assumption))
      (@pss_cons _ _ _ _ _ (ps_for PassesOwn.never rfl (pi_list (@pe_ix _ _ _ _ _ _ _ ix_list (pe_dget hu (pv 2) pe_str (fun _ _ => rfl)) (pv 4) (fun _ _ => rfl))) (pg_tup rfl (pgs_cons (pg_name (i := 6) sc_law_looks.nd rfl (Or.inl rfl)) (pgs_cons (pg_name (i := 7) sc_law_looks.nd rfl (Or.inl rfl)) pgs_nil))) (@pss_one _ _ _ (ps_if (pt_cmpR (op_eqD hr.units) (pv 6) (pv 3) (nomark _)) (@pss_one _ _ _ (@ps_set _ _ 5 _ _ _ _ sc_law_looks.nd rfl (Or.inl rfl) (pv 7) (by rfl) (by first | exact .inl rfl | exact .inr rfl | assumption))) pss_nil)))
      (@pss_one _ _ _ (ps_if (pt_cmpR (op_neD hr.units) (pe_meth (pv 0) G.cl_Store G.mt_Store_read c_Store_read (hr.mono (by decide)) G.b_Store_read .nil pass0 (@pa_cons _ _ _ _ _ (pv 4) (@pa_cons _ _ _ _ _ (pv 3) pa_nil (by rfl)) (by rfl))) (pv 5) (nomark _)) (@pss_one _ _ _ (@ps_ret _ _ _ _ pe_non)) pss_nil))))))))
      (@pss_one _ _ _ (@ps_ret _ _ _ _ (pv 2))))), ?_⟩
    intro D hD
    have e1 := same_new (o := .dK []) hD
    have S1 := S.same e1
    obtain ⟨dx1, hx1⟩ := S1.st.ob
    refine ⟨_, rfl, s.x, dx1, _, rfl, hx1, stF_no (by decide +kernel) (by decide +kernel), s.x, s.hd, s.rl, s.l, M, r, false, rfl, S1.st, fun w0 t0 h0 p0 => ?_⟩
    have e2 := same_new (o := .lst t0) h0
    have S2 := S1.same e2
    obtain ⟨dx2, hx2⟩ := S2.st.ob
    refine ⟨_, rfl, s.x, dx2, _, rfl, hx2, stF_no (by decide +kernel) (by decide +kernel), s.x, s.hd, s.rl, s.l, M, r, true, rfl, S2.st, fun w1 t1 h1 p1 => ?_⟩
    have e3 := same_new (o := .lst t1) h1
    refine ⟨l2, fun R hR => ⟨len0v, fun Mm hM => ?_⟩⟩
    obtain ⟨D5, T6, e6, fls, nwR, nwM, _, nR⟩ := tl_make (mem := []) (A := ⟨D, R, Mm, fun b => if b then w1 else w0⟩) rfl hD h0 h1 hR hM p0 p1 rfl
    refine ⟨D5, tdK ⟨D, R, Mm, fun b => if b then w1 else w0⟩, rfl, by show 2 <= 15; decide, ?_⟩
    rw [merge_td]
    clear e1 e2 e3 S1 S2 hx1 hx2
    generalize hA : (⟨D, R, Mm, fun b => if b then w1 else w0⟩ : TA) = A at T6 e6 fls nwR nwM nR ⊢
    have aD : D = A.D := by rw [← hA]
    have fM := fls A.Mm (by simp [TA.ls])
    have nw : ∀ b, A.Mm ≠ A.w b := fun b => (nwM b).symm
    generalize upd (upd (upd (upd (upd (upd H D (.dK [])) w0 (.lst t0)) w1 (.lst t1)) R (.lst [V.ref w0, V.ref w1])) Mm (.lst [])) D (.dK (tdK A)) = H6 at T6 e6 ⊢
    rw [aD]
    have S6 := S.same e6
    have nt6 : ∀ c ∈ [A.Mm], ∀ vs, H6 c ≠ some (.tup vs) := fun c hc vs e => by rw [List.mem_singleton.mp hc, T6.mm] at e; cases e
    have S6k : ∀ H7, Kp [A.Mm] H6 H7 -> Ev w a.Store H7 s M r sm cvs ks := fun H7 kp => S6.keep (fun c o hc e => kp c o (fun z => by
      have z' := List.mem_singleton.mp z
      have fr := S.fresh fM
      exact fr (by rw [← z']; exact hc)) e) fun b vs e => kp b _ (fun z => nt6 b z vs e) e
    have lk : cvs.length = ks.length := (pairedLen S.sk).symm
    refine ⟨_, rfl, sm, rfl, ⟨_, SqL.of S6.sm⟩, for_list (K := K) (a := sm) (xs := cvs) (fun i σ H' => (∃ v3 v4 v5 v6 v7, σ = [some (.ref s.x), some (.ref sm), some (.ref A.D), v3, v4, v5, v6, v7]) /\ Kp [A.Mm] H6 H' /\ H' A.Mm = some (.lst ((ks.take i).map (look M))))
      ⟨⟨_, _, _, _, _, rfl⟩, Kp.refl _ _, T6.mm⟩ (fun _ _ H' _ z => SqL.of (S6k H' z.2.1).sm) ?_ ?_⟩
    · rintro i cv σ H7 hi ⟨⟨v3, v4, v5, v6, v7, rfl⟩, kp, hm⟩
      have S7 := S6k H7 kp
      obtain ⟨k0, hk0, hkv⟩ := MX.f2_get S7.sk _ _ hi
      have T7d := kp A.D _ (fun z => by
        have := T6.d
        rw [List.mem_singleton.mp z, T6.mm] at this; cases this) T6.d
      obtain ⟨dx7, hx7⟩ := S7.st.ob
      have hml : ((ks.take i).map (look M)).length < sizeLine := by
        rw [List.length_map, List.length_take]
        exact Nat.lt_of_lt_of_le (show _ < 1000 by omega) (by decide)
      refine ⟨_, rfl, A.D, _, rfl, dg_mem T7d, .inl ⟨rfl, _, SqL.of hm⟩, _, rfl, s.x, dx7, _, rfl, hx7, stF_no (by decide +kernel) (by decide +kernel), _, rfl, s.x, s.hd, s.rl, s.l, M, r, cv, k0, rfl, S7.st, hkv, A.Mm, _, _, rfl, rfl, hm, hml, ?_⟩
      have em : (ks.take i).map (look M) ++ [look M k0] = (ks.take (i + 1)).map (look M) := by rw [List.take_succ, hk0, List.map_append]; rfl
      have kp8 : Kp [A.Mm] H6 (upd H7 A.Mm (.lst ((ks.take i).map (look M) ++ [look M k0]))) := kp.trans Kp.one
      have hm8 : upd H7 A.Mm (.lst ((ks.take i).map (look M) ++ [look M k0])) A.Mm = some (.lst ((ks.take (i + 1)).map (look M))) := by rw [← em]; exact upd_same
      have hlook : (lookD M k0).getD (.int 0) = look M k0 := rfl
      rw [hlook]
      generalize upd H7 A.Mm (.lst ((ks.take i).map (look M) ++ [look M k0])) = H8 at kp8 hm8 ⊢
      clear hm kp S7 hx7 T7d hkv
      have S8 := S6k H8 kp8
      obtain ⟨k0', hk0', hkv⟩ := MX.f2_get S8.sk _ _ hi
      rw [hk0] at hk0'
      cases hk0'
      obtain ⟨dx8, hx8⟩ := S8.st.ob
      have T8d := kp8 A.D _ (fun z => by
        have := T6.d
        rw [List.mem_singleton.mp z, T6.mm] at this; cases this) T6.d
      have T8r := kp8 A.R _ (fun z => nR (List.mem_singleton.mp z).symm) T6.rr
      have T8w : ∀ b, RowAt H8 (A.w b) (r b) := fun b => (T6.rw b).keep (fun o e => kp8 _ _ (fun z => nw b (List.mem_singleton.mp z).symm) e) fun b vs e => kp8 b _ (fun z => nt6 b z vs e) e
      refine ⟨2, rfl, by decide, by decide, for_range (n := 2) (fun j σ H' => (∃ v4 v5 v6 v7, σ = [some (.ref s.x), some (.ref sm), some (.ref A.D), some cv, v4, v5, v6, v7]) /\ H' = H8) ⟨⟨_, _, _, _, rfl⟩, rfl⟩ ?_ ?_⟩
      · rintro j σ H' hj ⟨⟨v4, v5, v6, v7, rfl⟩, rfl⟩
        obtain ⟨b, hb⟩ : ∃ b, sdI b = 0 + (j : Nat) := by
          have : j = 0 \/ j = 1 := by omega
          rcases this with rfl | rfl
          · exact ⟨false, rfl⟩
          · exact ⟨true, rfl⟩
        rw [← hb]
        obtain ⟨ts, hts, pts⟩ := T8w b
        have hln := pairedLen pts
        refine ⟨_, rfl, s.x, dx8, _, rfl, hx8, stF_no (by decide +kernel) (by decide +kernel), _, rfl, s.x, s.hd, s.rl, s.l, M, r, cv, k0, rfl, S8.st, hkv, ?_⟩
        refine ⟨_, rfl, A.D, _, rfl, dg_rows T8d, _, rfl, A.R, _, _, _, rfl, rfl, SqL.of T8r, w_at b, A.w b, rfl, ⟨_, SqL.of hts⟩, for_list (K := K) (a := A.w b) (xs := ts) (fun i σ H'' => (∃ v6 v7, σ = [some (.ref s.x), some (.ref sm), some (.ref A.D), some cv, some (.int (sdI b)), some (((lastW ((r b).take i) k0).or (lookD M k0)).getD (.int 0)), v6, v7]) /\ H'' = H')
          ⟨⟨_, _, rfl⟩, rfl⟩ (fun _ _ _ _ z => by rw [z.2]; exact SqL.of hts) ?_ ?_⟩
        · rintro n y σ H'' hn ⟨⟨v6, v7, rfl⟩, rfl⟩
          obtain ⟨p, hp, t, tc, rfl, ht, hc⟩ := MX.f2_get pts _ _ hn
          refine ⟨t, _, rfl, SqT.of ht, rfl, _, _, rfl, _, _, rfl, rfl, _, rfl, _, rfl, p.1, k0, hc.2.2.1, hkv.2.2.1, LayD.key hc.1 hc.2.1, LayD.key hkv.1 hkv.2.1, _, rfl, ?_⟩
          simp only [Bool.false_eq_true, if_false]
          have et : (r b).take (n + 1) = (r b).take n ++ [p] := by rw [List.take_succ, hp]; rfl
          refine ite2 (fun he => ?_) (fun he => ?_)
          · refine ⟨_, rfl, ⟨some tc, some p.2, ?_⟩, rfl⟩
            rw [et, lastW_snoc, if_pos he]; rfl
          · refine ⟨⟨some tc, some p.2, ?_⟩, rfl⟩
            rw [et, lastW_snoc, if_neg he]; rfl
        · rintro σ H'' ⟨⟨v6, v7, rfl⟩, rfl⟩
          rw [← hln, List.take_length, ← readV_eq]
          obtain ⟨dv, w1, w2, w3⟩ := WV.read S8.wm (S8.wr b) k0
          refine ⟨_, rfl, s.x, dx8, _, rfl, hx8, stF_no (by decide +kernel) (by decide +kernel), _, rfl, _, rfl, s.x, s.hd, s.rl, s.l, M, r, b, cv, k0, rfl, S8.st, hkv, _, rfl, dv, dv, w3, w3, LayD.key w1 w2, LayD.key w1 w2, _, rfl, ?_⟩
          simp only [if_true]
          rw [eqv_self w1]
          exact iteF ⟨⟨_, _, _, _, rfl⟩, rfl⟩
      · rintro σ H' ⟨⟨v4, v5, v6, v7, rfl⟩, rfl⟩
        exact ⟨⟨_, _, _, _, _, rfl⟩, kp8, hm8⟩
    · rintro σ H7 ⟨⟨v3, v4, v5, v6, v7, rfl⟩, kp, hm⟩
      rw [lk, List.take_length] at hm
      refine ⟨_, rfl, k A H7 (fun c o e => kp c o (fun z => by rw [List.mem_singleton.mp z, fM] at e; cases e) (e6 c o e)) fls ⟨?_, ?_, fun b => ?_, hm⟩⟩
      · exact kp A.D _ (fun z => by
          have := T6.d
          rw [List.mem_singleton.mp z, T6.mm] at this; cases this) T6.d
      · exact kp A.R _ (fun z => nR (List.mem_singleton.mp z).symm) T6.rr
      · exact (T6.rw b).keep (fun o e => kp _ _ (fun z => nw b (List.mem_singleton.mp z).symm) e) fun b vs e => kp b _ (fun z => nt6 b z vs e) e
end
theorem cut_tail (v : V) (xs : List V) : cutV (v :: xs) (some 1) none = xs := by
  unfold cutV
  have h1 : HT.sIx (v :: xs).length 0 (some 1) = 1 := by
    unfold HT.sIx
    simp
  have h2 : HT.sIx (v :: xs).length (v :: xs).length none = (v :: xs).length := rfl
  rw [h1, h2]
  show (xs.take (xs.length + 1 - 1)) = xs
  rw [show xs.length + 1 - 1 = xs.length by omega, List.take_length]
theorem rv_ix (b : Bool) : ixN 2 (sdI b) = some (if b then 1 else 0) := by cases b <;> rfl
theorem ixN_nat {n i : Nat} (h : i < n) : ixN n (i : Int) = some i := by
  unfold ixN
  rw [if_pos (by omega), if_pos (by omega)]
  rfl
theorem mix_set {f f' : PyData -> V} {ks : List PyData} {i : Nat} {k : PyData} (h : ks[i]? = some k) : ((ks.take i).map f' ++ (ks.drop i).map f).set i (f' k) = (ks.take (i + 1)).map f' ++ (ks.drop (i + 1)).map f := by
  have hi := (List.getElem?_eq_some_iff.mp h)
  have hl : ((ks.take i).map f').length = i := by rw [List.length_map, List.length_take]; have := hi.1; omega
  have hd : ks.drop i = k :: ks.drop (i + 1) := by rw [← hi.2]; exact List.drop_eq_getElem_cons hi.1
  rw [List.set_append, if_neg (by omega), hl, Nat.sub_self, hd, List.map_cons, List.set_cons_zero, List.take_succ, h, List.map_append, List.append_assoc]
  rfl
theorem mix_keep {f f' : PyData -> V} {ks : List PyData} {i : Nat} {k : PyData} (h : ks[i]? = some k) (e : f' k = f k) : (ks.take i).map f' ++ (ks.drop i).map f = (ks.take (i + 1)).map f' ++ (ks.drop (i + 1)).map f := by
  have hi := (List.getElem?_eq_some_iff.mp h)
  have hd : ks.drop i = k :: ks.drop (i + 1) := by rw [← hi.2]; exact List.drop_eq_getElem_cons hi.1
  rw [hd, List.map_cons, List.take_succ, h, List.map_append, List.append_assoc, ← e]
  rfl
def sp_drained : Sp := fun vs H Q _ => ∃ (A : TA) (sm : Addr) (b : Bool) (r : Bool -> List (PyData × V)) (f : PyData -> V) (cvs : List V) (ks : List PyData) (p : PyData × V) (rest : List (PyData × V)), vs = [.ref A.D, .ref sm, .int (sdI b)] /\ Tl H A r (ks.map f) /\
  H sm = some (.lst cvs) /\ Paired (KeyV H) ks cvs /\ ks.length <= 100 /\ r b = p :: rest /\
  ∀ (A' : TA) (H' : Hp), Same H H' -> Tl H' A' (setR r b rest) (ks.map fun k => if PyData.eqv k p.1 = true then p.2 else f k) -> Q (.ref A'.D) H'
section
variable {P : Program} {w : World} {K : PySem.W.Frag} {mg : Str -> Option Value} {base : Heap} {a : Ad} {d : Fd}
theorem ok_drained (G : Gs K mg a d) : FnOk P w K mg base CX0 1 a.law_drained d.law_drained ["told", "some", "side"] sp_drained := by
  refine G.f_law_drained.ok sc_law_drained (fun vs H Q E h => ?_) (fun cdv A outer st H vs Q E hr h => ?_)
  · obtain ⟨A, sm, b, r, f, cvs, ks, p, rest, rfl, _⟩ := h
    rfl
  · obtain ⟨A, sm, b, r, f, cvs, ks, p, rest, rfl, T, hsm, hkv, hks, hrb, k⟩ := h
    have hu := hu_of hr
    have lk : cvs.length = ks.length := (pairedLen hkv).symm
    refine ⟨_, (@pss_cons _ _ _ _ _ (@ps_asg _ _ _ _ _ _ (@pe_ix _ _ _ _ _ _ _ ix_list (@pe_ix _ _ _ _ _ _ _ ix_list (pe_dget hu (pv 0) pe_str (fun _ _ => rfl)) (pv 2) (fun _ _ => rfl)) pe_int (fun _ _ => rfl)) (pg_tup rfl (pgs_cons (pg_name (i := 3) sc_law_drained.nd rfl (Or.inl rfl)) (pgs_cons (pg_name (i := 4) sc_law_drained.nd rfl (Or.inl rfl)) pgs_nil))) (by rfl) (by rfl) (by rfl))
      (@pss_cons _ _ _ _ _ (@ps_set _ _ 5 _ _ _ _ sc_law_drained.nd rfl (Or.inl rfl) (@pe_lst _ _ _ _ (@pa_cons _ _ _ _ _ (pe_callTy call_list_of (by rfl) G.n_list bt_list (@pa_cons _ _ _ _ _ (@pe_ix _ _ _ _ _ _ _ ix_list (pe_dget hu (pv 0) pe_str (fun _ _ => rfl)) pe_int (fun _ _ => rfl)) pa_nil (by rfl))) (@pa_cons _ _ _ _ _ (pe_callTy call_list_of (by rfl) G.n_list bt_list (@pa_cons _ _ _ _ _ (@pe_ix _ _ _ _ _ _ _ ix_list (pe_dget hu (pv 0) pe_str (fun _ _ => rfl)) pe_int (fun _ _ => rfl)) pa_nil (by rfl))) pa_nil (by rfl)) (by rfl))) (by rfl) (by first | exact .inl rfl | exact .inr rfl | assumption))
      (@pss_cons _ _ _ _ _ (@ps_asg _ _ _ _ _ _ (pe_slice sl_list (@pe_ix _ _ _ _ _ _ _ ix_list (pv 5) (pv 2) (fun _ _ => rfl)) (po_some pe_int) po_none) (pg_sub (pv 5) (pv 2) set_list) (by rfl) (by rfl) (by rfl))
      (@pss_cons _ _ _ _ _ (@ps_set _ _ 6 _ _ _ _ sc_law_drained.nd rfl (Or.inl rfl) (pe_callTy call_list_of (by rfl) G.n_list bt_list (@pa_cons _ _ _ _ _ (pe_dget hu (pv 0) pe_str (fun _ _ => rfl)) pa_nil (by rfl))) (by rfl) (by first | exact .inl rfl | exact .inr rfl | assumption))
      (@pss_cons _ _ _ _ _ (ps_for PassesOwn.never rfl (pi_range1 (by rfl) G.n_range (@pa_cons _ _ _ _ _ (pe_callB call_len_seq (by rfl) G.n_len bt_len (@pa_cons _ _ _ _ _ (pv 1) pa_nil (by rfl))) pa_nil (by rfl))) (pg_name (i := 7) sc_law_drained.nd rfl (Or.inl rfl)) (@pss_one _ _ _ (ps_if (pt_cmpR (op_eqD hr.units) (@pe_ix _ _ _ _ _ _ _ ix_list (pv 1) (pv 7) (fun _ _ => rfl)) (pv 3) (nomark _)) (@pss_one _ _ _ (@ps_asg _ _ _ _ _ _ (pv 4) (pg_sub (pv 6) (pv 7) set_list) (by rfl) (by rfl) (by rfl))) pss_nil)))
      (@pss_one _ _ _ (@ps_ret _ _ _ _ (@pe_disp _ _ _ _ _ (@pps_cons _ _ _ _ _ _ _ _ _ pe_str (pv 5) (@pps_cons _ _ _ _ _ _ _ _ _ pe_str (pv 6) pps_nil)) rfl rfl (by simp) (by decide))))))))), ?_⟩
    obtain ⟨tsb, hts, pts⟩ := T.rw b
    rw [hrb] at pts
    cases pts with
    | @cons _ tv _ ts hw pts =>
      obtain ⟨t, cv, rfl, ht, hk⟩ := hw
      refine ⟨_, rfl, A.D, _, rfl, dg_rows T.d, _, rfl, A.R, _, _, _, rfl, rfl, SqL.of T.rr, w_at b, A.w b, _, _, _, rfl, rfl, SqL.of hts, (by exact atI_nat (j := 0) rfl), t, _, rfl, SqT.of ht, rfl, _, _, rfl, _, _, rfl, rfl, ?_⟩
      obtain ⟨ts0, hts0, pts0⟩ := T.rw false
      obtain ⟨ts1, hts1, pts1⟩ := T.rw true
      refine ⟨_, rfl, A.D, _, rfl, dg_rows T.d, A.R, _, _, _, rfl, rfl, SqL.of T.rr, w_at false, A.w false, _, rfl, .inl (SqL.of hts0), fun a0 h0 => ?_⟩
      have e0 := same_new (o := .lst ts0) h0
      refine ⟨_, rfl, A.D, _, rfl, dg_rows (e0 _ _ T.d), A.R, _, _, _, rfl, rfl, SqL.of (e0 _ _ T.rr), w_at true, A.w true, _, rfl, .inl (SqL.of (e0 _ _ hts1)), fun a1 h1 => ⟨l2, fun R hR => ?_⟩⟩
      have e1 := same_new (o := .lst ts1) h1
      have e2 := same_new (o := .lst [V.ref a0, V.ref a1]) hR
      have nR1 := up1 hR
      have nR0 := up1 nR1.2
      have q0 := e2 _ _ (e1 _ _ (upd_same (H := H) (a := a0) (o := .lst ts0)))
      have q1 := e2 _ _ (upd_same (a := a1) (o := .lst ts1))
      have q2 := upd_same (H := upd (upd H a0 (.lst ts0)) a1 (.lst ts1)) (a := R) (o := .lst [V.ref a0, V.ref a1])
      have e02 := e0.trans (e1.trans e2)
      have fR : H R = none := none_back (e0.trans e1) hR
      generalize upd (upd (upd H a0 (.lst ts0)) a1 (.lst ts1)) R (.lst [V.ref a0, V.ref a1]) = H3 at q0 q1 q2 e02 ⊢
      clear e0 e1 e2
      let ac : Bool -> Addr := fun c => if c then a1 else a0
      let tc : Bool -> List V := fun c => if c then ts1 else ts0
      have qc : ∀ c, H3 (ac c) = some (.lst (tc c)) := fun c => by cases c; exact q0; exact q1
      have nRc : ∀ c, ac c ≠ R := fun c => by cases c; exact nR0.1.symm; exact nR1.1.symm
      have ac_at : atI [V.ref a0, V.ref a1] (sdI b) = some (.ref (ac b)) := by cases b <;> rfl
      have ptc : ∀ c, Paired (Wt H3) (r c) (tc c) := fun c => by
        cases c
        · exact Paired.mapP pts0 fun _ _ q => q.keep fun b vs e => e02 b _ e
        · exact Paired.mapP pts1 fun _ _ q => q.keep fun b vs e => e02 b _ e
      have etb : ∃ tv, tc b = tv :: ts := by
        have : tc b = .ref t :: ts := by
          cases b
          · show ts0 = _
            rw [hts0] at hts
            cases hts; rfl
          · show ts1 = _
            rw [hts1] at hts
            cases hts; rfl
        exact ⟨_, this⟩
      obtain ⟨tv, etb⟩ := etb
      refine ⟨_, rfl, _, rfl, R, _, _, _, rfl, rfl, SqL.of q2, ac_at, _, rfl, ac b, _, rfl, SqL.of (qc b), fun q hq => ⟨_, rfl, _, rfl, R, _, _, _, rfl, rfl, (same_new hq) _ _ q2, rv_ix b, ?_⟩⟩
      rw [etb, cut_tail]
      have e4 := same_new (o := .lst ts) hq
      have nqR : q ≠ R := fun z => by rw [z, q2] at hq; cases hq
      have kR : Kp [R] (upd H3 q (.lst ts)) (upd (upd H3 q (.lst ts)) R (.lst ([V.ref a0, V.ref a1].set (if b then 1 else 0) (.ref q)))) := Kp.one
      have g2 : upd (upd H3 q (.lst ts)) R (.lst ([V.ref a0, V.ref a1].set (if b then 1 else 0) (.ref q))) R = some (.lst [.ref ((setR ac b q) false), .ref ((setR ac b q) true)]) := by
        rw [upd_same]
        cases b <;> rfl
      have gq := kR q _ (fun z => nqR (List.mem_singleton.mp z)) upd_same
      have gc : ∀ c, upd (upd H3 q (.lst ts)) R (.lst ([V.ref a0, V.ref a1].set (if b then 1 else 0) (.ref q))) (ac c) = some (.lst (tc c)) := fun c => kR _ _ (fun z => nRc c (List.mem_singleton.mp z)) (e4 _ _ (qc c))
      have e5 : Same H (upd (upd H3 q (.lst ts)) R (.lst ([V.ref a0, V.ref a1].set (if b then 1 else 0) (.ref q)))) := fun c o e => kR c o (fun z => by rw [List.mem_singleton.mp z, fR] at e; cases e) (e4 c o (e02 c o e))
      have kt5 : ∀ c vs, H3 c = some (.tup vs) -> upd (upd H3 q (.lst ts)) R (.lst ([V.ref a0, V.ref a1].set (if b then 1 else 0) (.ref q))) c = some (.tup vs) := fun c vs e => kR c _ (fun z => by rw [List.mem_singleton.mp z, q2] at e; cases e) (e4 c _ e)
      have pt5 : ∀ c, Paired (Wt (upd (upd H3 q (.lst ts)) R (.lst ([V.ref a0, V.ref a1].set (if b then 1 else 0) (.ref q))))) (r c) (tc c) := fun c => Paired.mapP (ptc c) fun _ _ q => q.keep kt5
      generalize upd (upd H3 q (.lst ts)) R (.lst ([V.ref a0, V.ref a1].set (if b then 1 else 0) (.ref q))) = H5 at g2 gq gc e5 pt5 ⊢
      have hrw5 : ∀ c, RowAt H5 (setR ac b q c) (setR r b rest c) := fun c => by
        by_cases z : c = b
        · subst z
          rw [setR_same, setR_same]
          have := pt5 c
          rw [hrb, etb] at this
          cases this with
          | cons _ h => exact ⟨ts, gq, h⟩
        · rw [setR_ne z, setR_ne z]
          exact ⟨_, gc c, pt5 c⟩
      have T5 := T.same e5
      have hsm5 := e5 _ _ hsm
      have hk5 := hk.keep fun b vs e => e5 b _ e
      have hkv5 := Paired.mapP hkv fun _ _ q => q.keep fun b vs e => e5 b _ e
      clear kR kt5 pt5 gc gq nqR e4 hq ptc qc q0 q1 q2 e02 etb ac_at nRc hR h0 h1 nR1 nR0
      generalize setR ac b q = wc at g2 hrw5
      refine ⟨_, rfl, A.D, _, rfl, dg_mem T5.d, A.Mm, _, rfl, .inl (SqL.of T5.mm), fun Mm hM => ?_⟩
      have e6 := same_new (o := .lst (ks.map f)) hM
      have e6' := e5.trans e6
      have fM : H Mm = none := none_back e5 hM
      have nM : ∀ c o, H5 c = some o -> c ≠ Mm := fun c o e => ne_of_none e hM
      have m6 : upd H5 Mm (.lst (ks.map f)) Mm = some (.lst (ks.map f)) := upd_same
      have g6 := e6 _ _ g2
      have r6 : ∀ c, RowAt (upd H5 Mm (.lst (ks.map f))) (wc c) (setR r b rest c) := fun c => (hrw5 c).keep (fun o e => e6 _ _ e) fun b vs e => e6 b _ e
      have nMR := nM _ _ g2
      have nMw : ∀ c, wc c ≠ Mm := fun c => by
        obtain ⟨_, e, _⟩ := hrw5 c
        exact nM _ _ e
      have hsm6 := e6 _ _ hsm5
      have hk6 := hk5.keep fun b vs e => e6 b _ e
      have hkv6 := Paired.mapP hkv5 fun _ _ q => q.keep fun b vs e => e6 b _ e
      have nMs := nM _ _ hsm5
      generalize upd H5 Mm (.lst (ks.map f)) = H6 at e6' m6 g6 r6 hsm6 hk6 hkv6 ⊢
      clear hsm5 hk5 hkv5 T5 e5 e6 hrw5 g2 hM nM
      have nt6 : ∀ c ∈ [Mm], ∀ vs, H6 c ≠ some (.tup vs) := fun c hc vs e => by rw [List.mem_singleton.mp hc, m6] at e; cases e
      refine ⟨_, rfl, sm, _, rfl, .inl (SqL.of hsm6), (cvs.length : Int), rfl, by omega, by omega, ?_⟩
      refine for_range (n := ((cvs.length : Nat) : Int).toNat) (fun i σ H' => (∃ v7, σ = [some (.ref A.D), some (.ref sm), some (.int (sdI b)), some cv, some p.2, some (.ref R), some (.ref Mm), v7]) /\ Kp [Mm] H6 H' /\ H' Mm = some (.lst ((ks.take i).map (fun k => if PyData.eqv k p.1 = true then p.2 else f k) ++ (ks.drop i).map f)))
        ⟨⟨_, rfl⟩, Kp.refl _ _, by rw [List.take_zero, List.drop_zero]; exact m6⟩ ?_ ?_
      · rintro i σ H7 hi ⟨⟨v7, rfl⟩, kp, hm⟩
        have hil : i < cvs.length := by omega
        have kt : ∀ b vs, H6 b = some (.tup vs) -> H7 b = some (.tup vs) := fun b vs e => kp b _ (fun z => nt6 b z vs e) e
        have hsm7 := kp _ _ (fun z => nMs (List.mem_singleton.mp z)) hsm6
        have hget := List.getElem?_eq_getElem hil
        obtain ⟨k0, hk0, hkc⟩ := MX.f2_get hkv6 _ _ hget
        have hkc7 := hkc.keep kt
        have hk7 := hk6.keep kt
        refine ⟨_, rfl, _, rfl, sm, _, _, _, rfl, rfl, SqL.of hsm7, (by rw [Int.zero_add]; exact atI_nat hget), _, rfl, k0, p.1, hkc7.2.2.1, hk7.2.2.1, LayD.key hkc7.1 hkc7.2.1, LayD.key hk7.1 hk7.2.1, _, rfl, ?_⟩
        simp only [Bool.false_eq_true, if_false]
        refine ite2 (fun he => ?_) (fun he => ?_)
        · have hlm : i < ((ks.take i).map (fun k => if PyData.eqv k p.1 = true then p.2 else f k) ++ (ks.drop i).map f).length := by
            rw [List.length_append, List.length_map, List.length_map, List.length_take, List.length_drop]; omega
          refine ⟨_, rfl, _, rfl, _, rfl, Mm, _, _, _, rfl, rfl, hm, (by rw [Int.zero_add]; exact ixN_nat hlm), ⟨_, rfl⟩, kp.trans Kp.one, ?_⟩
          rw [upd_same]
          have := mix_set (f := f) (f' := fun k => if PyData.eqv k p.1 = true then p.2 else f k) hk0
          rw [← this, if_pos he]
        · refine ⟨⟨_, rfl⟩, kp, ?_⟩
          rw [hm, mix_keep hk0 (if_neg he)]
      · rintro σ H7 ⟨⟨v7, rfl⟩, kp, hm⟩
        have hn : ((cvs.length : Nat) : Int).toNat = ks.length := by omega
        rw [hn, List.take_length, List.drop_length, List.map_nil, List.append_nil] at hm
        have kt : ∀ b vs, H6 b = some (.tup vs) -> H7 b = some (.tup vs) := fun b vs e => kp b _ (fun z => nt6 b z vs e) e
        have g7 := kp _ _ (fun z => nMR (List.mem_singleton.mp z)) g6
        have r7 : ∀ c, RowAt H7 (wc c) (setR r b rest c) := fun c => (r6 c).keep (fun o e => kp _ _ (fun z => nMw c (List.mem_singleton.mp z)) e) kt
        intro D hD
        have e8 := same_new (o := .dK []) hD
        have nD : ∀ c o, H7 c = some o -> c ≠ D := fun c o e => ne_of_none e hD
        refine ⟨_, rfl, _, rfl, upd_same, tdK ⟨D, R, Mm, wc⟩, rfl, by show 2 <= 15; decide, ?_⟩
        rw [merge_td, upd_upd]
        have k8 : ∀ c o, H7 c = some o -> upd H7 D (.dK (tdK ⟨D, R, Mm, wc⟩)) c = some o := fun c o e => by rw [upd_ne (nD c o e)]; exact e
        refine k ⟨D, R, Mm, wc⟩ _ (fun c o e => k8 c o (kp c o (fun z => by rw [List.mem_singleton.mp z, fM] at e; cases e) (e6' c o e))) ⟨upd_same, k8 _ _ g7, fun c => (r7 c).keep (fun o e => k8 _ o e) fun b vs e => k8 b _ e, k8 _ _ hm⟩
end
/-! ### a step -/
theorem put_look {M : List (PyData × V)} {ks : List PyData} {p : PyData × V} (kM : KK M) (kp : MX.kd p.1 = true) (kk : ∀ k ∈ ks, MX.kd k = true) : (ks.map fun k => if PyData.eqv k p.1 = true then p.2 else look M k) = ks.map (look (putD M p.1 p.2)) := by
  refine List.map_congr_left fun k hk => ?_
  have h := kk k hk
  unfold look
  rw [look_put kM kp h]
  by_cases z : k = p.1
  · rw [z, eqv_self kp]; rfl
  · rw [eqv_false h kp z, eqv_false kp h fun y => z y.symm]; rfl
theorem setR_twice {α : Type} {r : Bool -> α} {b : Bool} {u v : α} : setR (setR r b u) b v = setR r b v := by
  funext c; unfold setR; split <;> rfl
theorem setR_id {α : Type} {r : Bool -> α} {b : Bool} : setR r b (r b) = r := by
  funext c
  unfold setR
  split
  · rename_i z; rw [z]
  · rfl
def tot (M : List (PyData × V)) (r : Bool -> List (PyData × V)) : Nat := M.length + (r false).length + (r true).length
theorem tot_row {M : List (PyData × V)} {r : Bool -> List (PyData × V)} (b : Bool) : M.length + (r b).length <= tot M r := by
  unfold tot
  cases b <;> omega
theorem tot_wr {M : List (PyData × V)} {r : Bool -> List (PyData × V)} {b : Bool} {p : PyData × V} : tot M (setR r b (r b ++ [p])) = tot M r + 1 := by
  unfold tot
  cases b
  · rw [setR_same, setR_ne (by decide), List.length_append]; show _ + (_ + 1) + _ = _; omega
  · rw [setR_same, setR_ne (by decide), List.length_append]; show _ + _ + (_ + 1) = _; omega
theorem tot_mv {M M' rest : List (PyData × V)} {r : Bool -> List (PyData × V)} {b : Bool} (h : M'.length + rest.length <= M.length + (r b).length) : tot M' (setR r b rest) <= tot M r := by
  unfold tot
  cases b
  · rw [setR_same, setR_ne (by decide)]; omega
  · rw [setR_same, setR_ne (by decide)]; omega
section
variable {w : World} {C : Addr} {H H' : Hp} {s : SA} {M M' : List (PyData × V)} {r r' : Bool -> List (PyData × V)} {sm : Addr} {cvs : List V} {ks : List PyData} {A : TA} {mem : List V}
theorem Tl.there (T : Tl H A r mem) {c : Addr} (hc : c ∈ A.ls) : ∃ o, H c = some o /\ ∀ vs, o ≠ .tup vs := by
  simp only [TA.ls, List.mem_cons, List.not_mem_nil, or_false] at hc
  rcases hc with rfl | rfl | rfl | rfl | rfl
  · exact ⟨_, T.d, fun _ z => by cases z⟩
  · exact ⟨_, T.rr, fun _ z => by cases z⟩
  · exact ⟨_, T.mm, fun _ z => by cases z⟩
  · obtain ⟨ts, e, _⟩ := T.rw false; exact ⟨_, e, fun _ z => by cases z⟩
  · obtain ⟨ts, e, _⟩ := T.rw true; exact ⟨_, e, fun _ z => by cases z⟩
theorem Tl.kp {xs : List Addr} (T : Tl H A r mem) (k : Kp xs H H') (h : ∀ c ∈ xs, c ∉ A.ls) (ht : ∀ c ∈ xs, ∀ vs, H c ≠ some (.tup vs)) : Tl H' A r mem :=
  T.keep (fun c o hc e => k c o (fun z => h c z hc) e) fun b vs e => k b _ (fun z => ht b z vs e) e
theorem Ev.KK (S : Ev w C H s M r sm cvs ks) : KK M := by
  obtain ⟨es, ep, _, h2, _⟩ := S.st.me
  exact KK.of h2
theorem Ev.kd (S : Ev w C H s M r sm cvs ks) : ∀ k ∈ ks, MX.kd k = true := fun k hk => by
  obtain ⟨i, hi⟩ := List.getElem?_of_mem hk
  obtain ⟨_, _, q⟩ := MX.f2_get' S.sk i _ hi
  exact q.1
theorem Ev.row (S : Ev w C H s M r sm cvs ks) (b : Bool) : L2.KK (r b) := fun p hp => by
  obtain ⟨ts, _, q⟩ := S.st.rw b
  obtain ⟨i, hi⟩ := List.getElem?_of_mem hp
  obtain ⟨_, _, _, _, _, _, hk⟩ := MX.f2_get' q i _ hi
  exact hk.1
theorem Ev.tups {b : Bool} (S : Ev w C H s M r sm cvs ks) (kp : Kp [s.l b, s.hd] H H') : ∀ c vs, H c = some (.tup vs) -> H' c = some (.tup vs) := fun c vs e => kp c _ (fun z => by
  have ow : Sto.own s.x s.hd s.rl s.l c := by
    rcases List.mem_cons.mp z with z | z
    · rw [z]; exact own_l b
    · rw [List.mem_singleton.mp z]; exact own_hd
  obtain ⟨o, e', n⟩ := S.st.there ow
  rw [e'] at e; exact n vs (Option.some.inj e)) e
theorem Ev.next {b : Bool} (S : Ev w C H s M r sm cvs ks) (S' : Sto w C H' s.x s.hd s.rl s.l M' r') (kp : Kp [s.l b, s.hd] H H') (h1 : ∀ p ∈ M', WV H p.2) (h2 : ∀ b, ∀ p ∈ r' b, WV H p.2) : Ev w C H' s M' r' sm cvs ks := by
  have kt := S.tups kp
  refine ⟨S', fun p hp => (h1 p hp).keep kt, fun b p hp => (h2 b p hp).keep kt, S.no, Paired.mapP S.sk fun _ _ q => q.keep kt, kp _ _ (fun z => S.no ?_) S.sm⟩
  rcases List.mem_cons.mp z with z | z
  · rw [z]; exact own_l b
  · rw [List.mem_singleton.mp z]; exact own_hd
theorem Ev.put_wv (S : Ev w C H s M r sm cvs ks) {es : List (PyData × V)} {b : Bool} (h : ∀ p ∈ es, p ∈ r b) : ∀ p ∈ drainAll M es, WV H p.2 := fun p hp => by
  rcases drain_mem S.KK (fun q hq => S.row b q (h q hq)) hp with z | z
  · exact S.wm p z
  · exact S.wr b p (h p z)
end
def sp_step (w : World) (C : Addr) : Sp := fun vs H Q _ => ∃ (g : Addr) (s : SA) (M : List (PyData × V)) (r : Bool -> List (PyData × V)) (sm : Addr) (cvs : List V) (ks : List PyData) (A : TA), vs = [.ref g, .ref s.x, .ref sm, .ref A.D] /\ Ev w C H s M r sm cvs ks /\ Tl H A r (ks.map (look M)) /\ Rw H g /\
  ¬ (Sto.own s.x s.hd s.rl s.l g \/ g = sm) /\ g ∉ A.ls /\ 0 < ks.length /\ ks.length <= 100 /\ tot M r < 900 /\
  ∀ (A' : TA) (H' : Hp) (M' : List (PyData × V)) (r' : Bool -> List (PyData × V)), Ev w C H' s M' r' sm cvs ks -> Tl H' A' r' (ks.map (look M')) -> Rw H' g -> tot M' r' <= tot M r + 1 -> Kp [g, s.l false, s.l true, s.hd] H H' -> Q (.ref A'.D) H'
section
variable {P : Program} {w : World} {K : PySem.W.Frag} {mg : Str -> Option Value} {base : Heap} {a : Ad} {d : Fd}
theorem sub3 {g : Addr} {s : SA} {b : Bool} {c : Addr} (h : c ∈ [s.l b, s.hd]) : c ∈ [g, s.l false, s.l true, s.hd] := by
  rcases List.mem_cons.mp h with z | z
  · rw [z]; cases b <;> simp
  · rw [List.mem_singleton.mp z]; simp
theorem ok_step (G : Gs K mg a d) : FnOk P w K mg base CX0 3 a.law_step d.law_step ["row", "store", "some", "ahead"] (sp_step w a.Store) := by
  have c_law_take : FnOk P w K mg base CX0 1 _ _ _ _ := ok_take G
  have c_law_worth : FnOk P w K mg base CX0 2 _ _ _ _ := ok_worth G
  have c_law_drained : FnOk P w K mg base CX0 1 _ _ _ _ := ok_drained G
  have c_Store_write : FnOk P w K mg base CX0 1 _ _ _ _ := ok_write G
  have c_Store_drain : FnOk P w K mg base CX0 1 _ _ _ _ := ok_drain G
  have c_Store_fence : FnOk P w K mg base CX0 2 _ _ _ _ := ok_fence G
  refine G.f_law_step.ok sc_law_step (fun vs H Q E h => ?_) (fun cdv A outer st H vs Q E hr h => ?_)
  · obtain ⟨g, s, M, r, sm, cvs, ks, A, rfl, _⟩ := h
    rfl
  · obtain ⟨g, s, M, r, sm, cvs, ks, A, rfl, S, T, hR, hg, hgA, hks0, hks, hn, k⟩ := h
    have hu := hu_of hr
    have lk : cvs.length = ks.length := (pairedLen S.sk).symm
    refine ⟨_, (@pss_cons _ _ _ _ _ (@ps_set _ _ 4 _ _ _ _ sc_law_step.nd rfl (Or.inl rfl) (pe_call c_law_take (hr.mono (by decide)) (by rfl) G.m_law_take G.f_law_take.kp G.b_law_take .nil pass0 (@pa_cons _ _ _ _ _ (pv 0) (@pa_cons _ _ _ _ _ pe_int pa_nil (by rfl)) (by rfl))) (by rfl) (by first | exact .inl rfl | exact .inr rfl | assumption))
      (@pss_cons _ _ _ _ _ (@ps_set _ _ 5 _ _ _ _ sc_law_step.nd rfl (Or.inl rfl) (pe_call c_law_take (hr.mono (by decide)) (by rfl) G.m_law_take G.f_law_take.kp G.b_law_take .nil pass0 (@pa_cons _ _ _ _ _ (pv 0) (@pa_cons _ _ _ _ _ pe_int pa_nil (by rfl)) (by rfl))) (by rfl) (by first | exact .inl rfl | exact .inr rfl | assumption))
      (@pss_cons _ _ _ _ _ (@ps_set _ _ 6 _ _ _ _ sc_law_step.nd rfl (Or.inl rfl) (@pe_disp _ _ _ _ _ (@pps_cons _ _ _ _ _ _ _ _ _ pe_str (@pe_lst _ _ _ _ (@pa_cons _ _ _ _ _ (pe_callTy call_list_of (by rfl) G.n_list bt_list (@pa_cons _ _ _ _ _ (@pe_ix _ _ _ _ _ _ _ ix_list (pe_dget hu (pv 3) pe_str (fun _ _ => rfl)) pe_int (fun _ _ => rfl)) pa_nil (by rfl))) (@pa_cons _ _ _ _ _ (pe_callTy call_list_of (by rfl) G.n_list bt_list (@pa_cons _ _ _ _ _ (@pe_ix _ _ _ _ _ _ _ ix_list (pe_dget hu (pv 3) pe_str (fun _ _ => rfl)) pe_int (fun _ _ => rfl)) pa_nil (by rfl))) pa_nil (by rfl)) (by rfl))) (@pps_cons _ _ _ _ _ _ _ _ _ pe_str (pe_callTy call_list_of (by rfl) G.n_list bt_list (@pa_cons _ _ _ _ _ (pe_dget hu (pv 3) pe_str (fun _ _ => rfl)) pa_nil (by rfl))) pps_nil)) rfl rfl (by simp) (by decide)) (by rfl) (by first | exact .inl rfl | exact .inr rfl | assumption))
      (@pss_cut _ _ _ _ _ (ps_if (pt_cut ((pw_or (pt_cmpR op_lt (pv 5) pe_int (nomark _)) (pw_or1 (pt_cmpR (op_eqNil hr.units) (@pe_ix _ _ _ _ _ _ _ ix_list (pe_dget hu (pv 6) pe_str (fun _ _ => rfl)) (pv 4) (fun _ _ => rfl)) (@pe_lst _ _ _ _ pa_nil) (nomark _))))).pt) (@pss_cons _ _ _ _ _ (@ps_set _ _ 7 _ _ _ _ sc_law_step.nd rfl (Or.inl rfl) (@pe_ix _ _ _ _ _ _ _ ix_list (pv 2) (pe_call c_law_take (hr.mono (by decide)) (by rfl) G.m_law_take G.f_law_take.kp G.b_law_take .nil pass0 (@pa_cons _ _ _ _ _ (pv 0) (@pa_cons _ _ _ _ _ (pe_callB call_len_seq (by rfl) G.n_len bt_len (@pa_cons _ _ _ _ _ (pv 2) pa_nil (by rfl))) pa_nil (by rfl)) (by rfl))) (fun _ _ => rfl)) (by rfl) (by first | exact .inl rfl | exact .inr rfl | assumption))
      (@pss_cons _ _ _ _ _ (@ps_set _ _ 8 _ _ _ _ sc_law_step.nd rfl (Or.inl rfl) (pe_call c_law_worth (hr.mono (by decide)) (by rfl) G.m_law_worth G.f_law_worth.kp G.b_law_worth .nil pass0 (@pa_cons _ _ _ _ _ (pv 0) pa_nil (by rfl))) (by rfl) (by first | exact .inl rfl | exact .inr rfl | assumption))
      (@pss_cons _ _ _ _ _ (@ps_expr _ _ _ _ (pe_meth (pv 1) G.cl_Store G.mt_Store_write c_Store_write (hr.mono (by decide)) G.b_Store_write .nil pass0 (@pa_cons _ _ _ _ _ (pv 4) (@pa_cons _ _ _ _ _ (pv 7) (@pa_cons _ _ _ _ _ (pv 8) pa_nil (by rfl)) (by rfl)) (by rfl))) (by rfl))
      (@pss_one _ _ _ (@ps_expr _ _ _ _ (@pe_bm _ _ _ _ _ _ _ _ _ _ _ _ PySem.F.plainAttrs_list PySem.F.slot_list_append PySem.F.type_list_append mt_append (@pe_ix _ _ _ _ _ _ _ ix_list (pe_dget hu (pv 6) pe_str (fun _ _ => rfl)) (pv 4) (fun _ _ => rfl)) (@pa_cons _ _ _ _ _ (@pe_tup _ _ _ _ _ (@pa_cons _ _ _ _ _ (pv 7) (@pa_cons _ _ _ _ _ (pv 8) pa_nil (by rfl)) (by rfl))) pa_nil (by rfl)) (by rfl) (by rfl) (by rfl) (by rfl) (by rfl)) (by rfl)))))) (@pss_one _ _ _ (ps_if (pt_cmpR op_lt (pv 5) pe_int (nomark _)) (@pss_cons _ _ _ _ _ (@ps_expr _ _ _ _ (pe_meth (pv 1) G.cl_Store G.mt_Store_drain c_Store_drain (hr.mono (by decide)) G.b_Store_drain .nil pass0 (@pa_cons _ _ _ _ _ (pv 4) pa_nil (by rfl))) (by rfl))
      (@pss_one _ _ _ (@ps_set _ _ 6 _ _ _ _ sc_law_step.nd rfl (Or.inl rfl) (pe_call c_law_drained (hr.mono (by decide)) (by rfl) G.m_law_drained G.f_law_drained.kp G.b_law_drained .nil pass0 (@pa_cons _ _ _ _ _ (pv 6) (@pa_cons _ _ _ _ _ (pv 2) (@pa_cons _ _ _ _ _ (pv 4) pa_nil (by rfl)) (by rfl)) (by rfl))) (by rfl) (by first | exact .inl rfl | exact .inr rfl | assumption)))) (@pss_cons _ _ _ _ _ (@ps_expr _ _ _ _ (pe_meth (pv 1) G.cl_Store G.mt_Store_fence c_Store_fence (hr.mono (by decide)) G.b_Store_fence .nil pass0 (@pa_cons _ _ _ _ _ (pv 4) pa_nil (by rfl))) (by rfl))
      (@pss_one _ _ _ (ps_while PassesOwn.never (pt_cmpR (op_neNil hr.units) (@pe_ix _ _ _ _ _ _ _ ix_list (pe_dget hu (pv 6) pe_str (fun _ _ => rfl)) (pv 4) (fun _ _ => rfl)) (@pe_lst _ _ _ _ pa_nil) (nomark _)) (@pss_one _ _ _ (@ps_set _ _ 6 _ _ _ _ sc_law_step.nd rfl (Or.inl rfl) (pe_call c_law_drained (hr.mono (by decide)) (by rfl) G.m_law_drained G.f_law_drained.kp G.b_law_drained .nil pass0 (@pa_cons _ _ _ _ _ (pv 6) (@pa_cons _ _ _ _ _ (pv 2) (@pa_cons _ _ _ _ _ (pv 4) pa_nil (by rfl)) (by rfl)) (by rfl))) (by rfl) (by first | exact .inl rfl | exact .inr rfl | assumption)))))))))
      (@pss_one _ _ _ (@ps_ret _ _ _ _ (pv 6))))))), ?_⟩
    refine ⟨_, rfl, g, 2, rfl, hR, by decide, by decide, fun sd H1 h0 h1 S1 => ⟨_, rfl, g, 6, rfl, S1.row, by decide, by decide, fun kd H2 _ _ S2' => ?_⟩⟩
    obtain ⟨b, rfl⟩ : ∃ b, sd = sdI b := by
      have : sd = 0 \/ sd = 1 := by omega
      rcases this with rfl | rfl
      · exact ⟨false, rfl⟩
      · exact ⟨true, rfl⟩
    have S2 := S1.trans S2'
    have V2 := S.stp hR hg S2
    have T2 := T.kp S2.kp (fun c hc => by rw [List.mem_singleton.mp hc]; exact hgA) (fun c hc => by rw [List.mem_singleton.mp hc]; exact hR.notup)
    clear S2' S1
    intro D hD
    have e1 := same_new (o := .dK []) hD
    have U1 := T2.same e1
    obtain ⟨t0, hts0, p0⟩ := U1.rw false
    refine ⟨_, rfl, A.D, _, rfl, dg_rows U1.d, A.R, _, _, _, rfl, rfl, SqL.of U1.rr, w_at false, A.w false, _, rfl, .inl (SqL.of hts0), fun w0 h0 => ?_⟩
    have U2 := U1.same (same_new (o := .lst t0) h0)
    obtain ⟨t1, hts1, p1⟩ := U2.rw true
    refine ⟨_, rfl, A.D, _, rfl, dg_rows U2.d, A.R, _, _, _, rfl, rfl, SqL.of U2.rr, w_at true, A.w true, _, rfl, .inl (SqL.of hts1), fun w1 h1 => ⟨l2, fun R hR1 => ?_⟩⟩
    have U4 := (U2.same (same_new (o := .lst t1) h1)).same (same_new (o := .lst [V.ref w0, V.ref w1]) hR1)
    refine ⟨_, rfl, A.D, _, rfl, dg_mem U4.d, A.Mm, _, rfl, .inl (SqL.of U4.mm), fun Mm hM => ?_⟩
    obtain ⟨D5, T6, e6, fls, nwR, nwM, nw01, nR⟩ := tl_make (mem := ks.map (look M)) (A := ⟨D, R, Mm, fun b => if b then w1 else w0⟩) rfl hD h0 h1 hR1 hM p0 p1 rfl
    refine ⟨D5, tdK ⟨D, R, Mm, fun b => if b then w1 else w0⟩, rfl, by show 2 <= 15; decide, ?_⟩
    rw [merge_td]
    generalize hA : (⟨D, R, Mm, fun b => if b then w1 else w0⟩ : TA) = A3 at T6 e6 fls nwR nwM nw01 nR ⊢
    have aD : D = A3.D := by rw [← hA]
    generalize upd (upd (upd (upd (upd (upd H2 D (.dK [])) w0 (.lst t0)) w1 (.lst t1)) R (.lst [V.ref w0, V.ref w1])) Mm (.lst (ks.map (look M)))) D (.dK (tdK A3)) = H3 at T6 e6 ⊢
    subst aD
    clear hA D5 U4 U2 U1 e1 p0 p1 hts0 hts1 h0 h1 hR1 hM hD
    have V3 := V2.same e6
    have R3 : Rw H3 g := by obtain ⟨rw, e, q⟩ := S2.row; exact ⟨rw, e6 _ _ e, q⟩
    have K3 : Kp [g, s.l false, s.l true, s.hd] H H3 := fun c o n e => e6 c o (S2.keep c o (fun z => n (by rw [z]; simp)) e)
    have own3 : ∀ c, Sto.own s.x s.hd s.rl s.l c \/ c = sm \/ c = g -> c ∉ A3.ls := fun c hc z => by
      have hn := fls c z
      rcases hc with hc | rfl | rfl
      · exact V2.st.fresh hn hc
      · rw [V2.sm] at hn; cases hn
      · obtain ⟨rw, e, _⟩ := S2.row
        rw [e] at hn; cases hn
    have fH : ∀ c o, c ∈ A3.ls -> c ≠ g -> H c = some o -> False := fun c o hc n e => by
      have := S2.keep c o n e
      rw [fls c hc] at this; cases this
    clear T2 V2 S2 T hgA fls
    refine ⟨fun σ' H' => ∃ A' M' r', (∃ v7 v8, σ' = [some (.ref g), some (.ref s.x), some (.ref sm), some (.ref A.D), some (.int (sdI b)), some (.int kd), some (.ref A'.D), v7, v8]) /\ Ev w a.Store H' s M' r' sm cvs ks /\ Tl H' A' r' (ks.map (look M')) /\ Rw H' g /\ tot M' r' <= tot M r + 1 /\ Kp [g, s.l false, s.l true, s.hd] H H', ?_, ?_⟩
    · refine ⟨fun c H' => Same H3 H' /\ (c = false -> r b ≠ []), ?_, ?_⟩
      · refine ⟨_, rfl, _, _, rfl, rfl, _, rfl, ite2 (fun _ => ?_) (fun _ => ?_)⟩
        · exact ⟨Same.refl _, fun z => by cases z⟩
        · obtain ⟨ts, hts, pts⟩ := T6.rw b
          refine ⟨_, rfl, A3.D, _, rfl, dg_rows T6.d, _, rfl, A3.R, _, _, _, rfl, rfl, SqL.of T6.rr, w_at b, len0v, fun p hp => ⟨A3.w b, p, ts, rfl, rfl, SqL.of ((same_new hp) _ _ hts), SqL.of upd_same, _, rfl, same_new hp, fun z y => ?_⟩⟩
          rw [y] at pts
          cases pts
          cases z
      · rintro c H4 ⟨e4, hne⟩
        have V4 := V3.same e4
        have T4 := T6.same e4
        have R4 : Rw H4 g := by obtain ⟨rw, e, q⟩ := R3; exact ⟨rw, e4 _ _ e, q⟩
        have K4 : Kp [g, s.l false, s.l true, s.hd] H H4 := fun c o n e => e4 c o (K3 c o n e)
        clear V3 T6 R3 K3 e6 e4
        have trow := tot_row (M := M) (r := r) b
        refine ite2 (fun _ => ?_) (fun hc => ?_)
        · -- a write
          refine ⟨_, rfl, _, rfl, _, rfl, sm, _, rfl, .inl (SqL.of V4.sm), g, (cvs.length : Int), rfl, R4, by omega, by omega, fun j H5 j0 j1 S5 => ?_⟩
          have V5 := V4.stp R4 hg S5
          have T5 := T4.kp S5.kp (fun c hc => by rw [List.mem_singleton.mp hc]; exact own3 g (.inr (.inr rfl))) (fun c hc => by rw [List.mem_singleton.mp hc]; exact R4.notup)
          obtain ⟨n, rfl⟩ := Int.eq_ofNat_of_zero_le j0
          have hnl : n < cvs.length := by omega
          have hget := List.getElem?_eq_getElem hnl
          obtain ⟨k0, hk0, hkv⟩ := MX.f2_get V5.sk _ _ hget
          refine ⟨sm, _, _, _, rfl, rfl, SqL.of V5.sm, atI_nat hget, ?_⟩
          refine ⟨_, rfl, g, rfl, S5.row, fun wv H6 S6 hw => ?_⟩
          have V6 := V5.stp S5.row hg S6
          have T6 := T5.kp S6.kp (fun c hc => by rw [List.mem_singleton.mp hc]; exact own3 g (.inr (.inr rfl))) (fun c hc => by rw [List.mem_singleton.mp hc]; exact S5.row.notup)
          have hkv6 := hkv.keep (S6.tups S5.row)
          obtain ⟨dx6, hx6⟩ := V6.st.ob
          refine ⟨_, rfl, s.x, dx6, _, rfl, hx6, stF_no (by decide +kernel) (by decide +kernel), _, rfl, _, rfl, _, rfl, s.x, s.hd, s.rl, s.l, M, r, b, _, wv, k0, rfl, V6.st, by omega, hkv6, fun H7 S7 kp7 => ?_⟩
          have kp7' : Kp [s.l b, s.hd] H6 H7 := kp7.mono fun c hc => by rw [List.mem_singleton.mp hc]; simp
          have kt7 : ∀ c vs, H6 c = some (.tup vs) -> H7 c = some (.tup vs) := fun c vs e => kp7 c _ (fun z => by
            obtain ⟨o, e', n⟩ := V6.st.there (own_l (x := s.x) (hd := s.hd) (rl := s.rl) (l := s.l) b)
            rw [List.mem_singleton.mp z, e'] at e; exact n vs (Option.some.inj e)) e
          have V7 : Ev w a.Store H7 s M (setR r b (r b ++ [(k0, wv)])) sm cvs ks := V6.next S7 kp7' V6.wm fun c p hp => by
            by_cases z : c = b
            · subst z
              rw [setR_same] at hp
              rcases List.mem_append.mp hp with y | y
              · exact V6.wr c p y
              · rw [List.mem_singleton.mp y]; exact hw
            · rw [setR_ne z] at hp
              exact V6.wr c p hp
          have T7 := T6.keep (H' := H7) (fun c o hc e => kp7 c o (fun z => own3 c (.inl (by rw [List.mem_singleton.mp z]; exact own_l b)) hc) e) kt7
          have hkv7 := hkv6.keep kt7
          have R7 : Rw H7 g := S6.row.kp kp7 fun z => hg (.inl (by rw [List.mem_singleton.mp z]; exact own_l b))
          have K7 : Kp [g, s.l false, s.l true, s.hd] H H7 := fun c o n e => kp7' c o (fun z => n (sub3 z)) (S6.keep c o (fun z => n (by rw [z]; simp)) (S5.keep c o (fun z => n (by rw [z]; simp)) (K4 c o n e)))
          obtain ⟨ts, hts, pts⟩ := T7.rw b
          have hln := pairedLen pts
          refine ⟨_, rfl, A3.D, _, rfl, dg_rows T7.d, _, rfl, A3.R, _, _, _, rfl, rfl, SqL.of T7.rr, w_at b, .inl ⟨rfl, _, SqL.of hts⟩, _, rfl, _, rfl, l2, fun t ht => ⟨A3.w b, ts, .ref t, rfl, rfl, (same_new ht) _ _ hts, Nat.lt_of_lt_of_le (show _ < 1000 by omega) (by decide), ?_⟩⟩
          have e8 := same_new (o := .tup [cvs[n], wv]) ht
          have kw : Kp [A3.w b] (upd H7 t (.tup [cvs[n], wv])) (upd (upd H7 t (.tup [cvs[n], wv])) (A3.w b) (.lst (ts ++ [.ref t]))) := Kp.one
          have ntw : ∀ c vs, upd H7 t (.tup [cvs[n], wv]) c = some (.tup vs) -> c ∉ [A3.w b] := fun c vs e z => by
            rw [List.mem_singleton.mp z, e8 _ _ hts] at e; cases e
          have ktw : ∀ c vs, H7 c = some (.tup vs) -> upd (upd H7 t (.tup [cvs[n], wv])) (A3.w b) (.lst (ts ++ [.ref t])) c = some (.tup vs) := fun c vs e => kw c _ (ntw c vs (e8 c _ e)) (e8 c _ e)
          have wn : ∀ c, Sto.own s.x s.hd s.rl s.l c \/ c = sm \/ c = g -> c ∉ [A3.w b] := fun c hc z => own3 c hc (by rw [List.mem_singleton.mp z]; exact A3.wls b)
          have ht8 : upd (upd H7 t (.tup [cvs[n], wv])) (A3.w b) (.lst (ts ++ [.ref t])) t = some (.tup [cvs[n], wv]) := kw t _ (ntw t _ upd_same) upd_same
          refine ⟨A3, M, setR r b (r b ++ [(k0, wv)]), ⟨_, _, rfl⟩, V7.keep (fun c o hc e => kw c o (wn c (by rcases hc with z | z; exact .inl z; exact .inr (.inl z))) (e8 c o e)) ktw, ⟨?_, ?_, fun c => ?_, ?_⟩, ?_, by rw [tot_wr]; exact Nat.le_refl _, fun c o n e => ?_⟩
          · exact kw _ _ (fun z => by
              have := T7.d
              rw [List.mem_singleton.mp z, hts] at this; cases this) (e8 _ _ T7.d)
          · exact kw _ _ (fun z => nwR b (List.mem_singleton.mp z).symm) (e8 _ _ T7.rr)
          · by_cases z : c = b
            · subst z
              rw [setR_same]
              exact ⟨_, upd_same, Paired.snoc (Paired.mapP pts fun _ _ q => q.keep ktw) ⟨t, _, rfl, ht8, hkv7.keep ktw⟩⟩
            · rw [setR_ne z]
              exact (T7.rw c).keep (fun o e => kw _ _ (fun y => by
                have y' := List.mem_singleton.mp y
                cases c <;> cases b
                · exact z rfl
                · exact nw01 y'
                · exact nw01 y'.symm
                · exact z rfl) (e8 _ _ e)) ktw
          · exact kw _ _ (fun z => nwM b (List.mem_singleton.mp z).symm) (e8 _ _ T7.mm)
          · obtain ⟨rw, e, q⟩ := R7
            exact ⟨rw, kw _ _ (wn g (.inr (.inr rfl))) (e8 _ _ e), q⟩
          · exact kw c o (fun z => fH c o (by rw [List.mem_singleton.mp z]; exact A3.wls b) (fun y => n (by rw [y]; simp)) e) (e8 c o (K7 c o n e))
        · have hne' := hne (by cases c <;> first | rfl | exact absurd rfl hc)
          obtain ⟨dx4, hx4⟩ := V4.st.ob
          refine ⟨_, rfl, _, _, rfl, rfl, _, rfl, ite2 (fun _ => ?_) (fun _ => ?_)⟩
          · -- a drain
            obtain ⟨p, rest, hrb⟩ : ∃ p rest, r b = p :: rest := by
              cases z : r b with
              | nil => exact absurd z hne'
              | cons p rest => exact ⟨p, rest, rfl⟩
            have hlr : (r b).length = rest.length + 1 := by rw [hrb]; rfl
            refine ⟨_, rfl, s.x, dx4, _, rfl, hx4, stF_no (by decide +kernel) (by decide +kernel), _, rfl, s.x, s.hd, s.rl, s.l, M, r, b, p.1, p.2, rest, rfl, V4.st, hrb, by omega, fun H5 S5 kp5 => ?_⟩
            have pr : ∀ q ∈ [p], q ∈ r b := fun q hq => by rw [List.mem_singleton.mp hq, hrb]; exact List.mem_cons_self
            have V5 : Ev w a.Store H5 s (putD M p.1 p.2) (setR r b rest) sm cvs ks := V4.next S5 kp5 (V4.put_wv pr) fun c q hq => by
              by_cases z : c = b
              · subst z
                rw [setR_same] at hq
                exact V4.wr c q (by rw [hrb]; exact List.mem_cons_of_mem _ hq)
              · rw [setR_ne z] at hq
                exact V4.wr c q hq
            have T5 := T4.keep (H' := H5) (fun c o hc e => kp5 c o (fun z => own3 c (.inl (by
              rcases List.mem_cons.mp z with z | z
              · rw [z]; exact own_l b
              · rw [List.mem_singleton.mp z]; exact own_hd)) hc) e) (V4.tups kp5)
            have R5 : Rw H5 g := R4.kp kp5 fun z => hg (.inl (by
              rcases List.mem_cons.mp z with z | z
              · rw [z]; exact own_l b
              · rw [List.mem_singleton.mp z]; exact own_hd))
            refine ⟨_, rfl, _, rfl, _, rfl, A3, sm, b, r, look M, cvs, ks, p, rest, rfl, T5, V5.sm, V5.sk, hks, hrb, fun A' H6 e6 T6 => ?_⟩
            rw [put_look V4.KK (V4.row b p (pr p List.mem_cons_self)) V4.kd] at T6
            refine ⟨A', putD M p.1 p.2, setR r b rest, ⟨_, _, rfl⟩, V5.same e6, T6, (by obtain ⟨rw, e, q⟩ := R5; exact ⟨rw, e6 _ _ e, q⟩), Nat.le_trans (tot_mv ?_) (Nat.le_succ _), fun c o n e => e6 c o (kp5 c o (fun z => n (sub3 z)) (K4 c o n e))⟩
            have := len_putD M p.1 p.2
            omega
          · -- a fence
            refine ⟨_, rfl, s.x, dx4, _, rfl, hx4, stF_no (by decide +kernel) (by decide +kernel), _, rfl, s.x, s.hd, s.rl, s.l, M, r, b, rfl, V4.st, by omega, fun H5 S5 kp5 => ?_⟩
            have V5 : Ev w a.Store H5 s (drainAll M (r b)) (setR r b []) sm cvs ks := V4.next S5 kp5 (V4.put_wv fun q hq => hq) fun c q hq => by
              by_cases z : c = b
              · subst z
                rw [setR_same] at hq
                cases hq
              · rw [setR_ne z] at hq
                exact V4.wr c q hq
            have T5 := T4.keep (H' := H5) (fun c o hc e => kp5 c o (fun z => own3 c (.inl (by
              rcases List.mem_cons.mp z with z | z
              · rw [z]; exact own_l b
              · rw [List.mem_singleton.mp z]; exact own_hd)) hc) e) (V4.tups kp5)
            have R5 : Rw H5 g := R4.kp kp5 fun z => hg (.inl (by
              rcases List.mem_cons.mp z with z | z
              · rw [z]; exact own_l b
              · rw [List.mem_singleton.mp z]; exact own_hd))
            have K5 : Kp [g, s.l false, s.l true, s.hd] H H5 := fun c o n e => kp5 c o (fun z => n (sub3 z)) (K4 c o n e)
            refine ⟨fun m σ H' => ∃ A' es M'', (∃ v7 v8, σ = [some (.ref g), some (.ref s.x), some (.ref sm), some (.ref A.D), some (.int (sdI b)), some (.int kd), some (.ref A'.D), v7, v8]) /\ Tl H' A' (setR r b es) (ks.map (look M'')) /\ m = es.length /\ drainAll M'' es = drainAll M (r b) /\ KK M'' /\ KK es /\ Same H5 H',
              ⟨_, A3, r b, M, ⟨_, _, rfl⟩, by rw [setR_id]; exact T5, rfl, rfl, V4.KK, V4.row b, Same.refl _⟩, ?_⟩
            rintro m σ H6 ⟨A', es, M'', ⟨v7, v8, rfl⟩, T6, rfl, hdr, kM, ke, e6⟩
            obtain ⟨ts, hts, pts⟩ := T6.rw b
            rw [setR_same] at pts
            refine ⟨_, rfl, A'.D, _, rfl, dg_rows T6.d, _, rfl, A'.R, _, _, _, rfl, rfl, SqL.of T6.rr, w_at b, len0v, fun p hp => ⟨A'.w b, p, ts, rfl, rfl, SqL.of ((same_new hp) _ _ hts), SqL.of upd_same, _, rfl, ?_⟩⟩
            have e7 := same_new (o := .lst []) hp
            have T7 := T6.same e7
            have e57 := e6.trans e7
            generalize upd H6 p (.lst []) = H7 at T7 e57 ⊢
            cases es with
            | nil =>
              cases pts
              refine iteF ⟨A', drainAll M (r b), setR r b [], ⟨_, _, rfl⟩, V5.same e57, ?_, (by obtain ⟨rw, e, q⟩ := R5; exact ⟨rw, e57 _ _ e, q⟩), Nat.le_trans (tot_mv ?_) (Nat.le_succ _), fun c o n e => e57 c o (K5 c o n e)⟩
              · have : M'' = drainAll M (r b) := hdr
                rw [← this]; exact T7
              · exact drainAll_len (r b) M
            | cons q es =>
              cases pts with
              | cons hw pts =>
                refine iteT ⟨_, fun σ' H' z => z, ?_⟩
                have V7 := V5.same e57
                have kq := ke q List.mem_cons_self
                refine ⟨_, rfl, _, rfl, _, rfl, A', sm, b, _, look M'', cvs, ks, q, es, rfl, T7, V7.sm, V7.sk, hks, setR_same, fun A2 H8 e8 T8 => ⟨es.length, by rw [List.length_cons]; exact Nat.lt_succ_self _, A2, es, putD M'' q.1 q.2, ⟨_, _, rfl⟩, ?_, rfl, hdr, kM.put kq _, fun z hz => ke z (List.mem_cons_of_mem _ hz), e57.trans e8⟩⟩
                rw [put_look kM kq V4.kd, setR_twice] at T8
                exact T8
    · rintro σ' H' ⟨A', M', r', ⟨v7, v8, rfl⟩, V', T', R', t', K'⟩
      exact ⟨_, rfl, k A' H' M' r' V' T' R' t' K'⟩
end
/-! ### what is told, as data -/
noncomputable def dat (H : Hp) (v : V) : PyData := by
  classical
  exact if h : WV H v then Classical.choose h else .none
theorem dat_ok {H : Hp} {v : V} (h : WV H v) : MX.kd (dat H v) = true /\ (dat H v).depth <= 8 /\ DV H (dat H v) v := by
  unfold dat
  rw [dif_pos h]
  exact Classical.choose_spec h
theorem vals_DVs {H : Hp} : ∀ {vs : List V}, (∀ v ∈ vs, WV H v) -> DVs H (vs.map (dat H)) vs
  | [], _ => rfl
  | v :: vs, h => ⟨_, _, rfl, (dat_ok (h v List.mem_cons_self)).2.2, vals_DVs fun u hu => h u (List.mem_cons_of_mem _ hu)⟩
theorem keyed_lay : ∀ {ds : List PyData}, (∀ d ∈ ds, MX.kd d = true /\ d.depth <= 9) -> PyData.canLayAll0 ds = true /\ PyData.depthAll ds <= 9
  | [], _ => ⟨rfl, Nat.zero_le _⟩
  | d :: ds, h => by
    obtain ⟨a, b⟩ := keyed_lay fun u hu => h u (List.mem_cons_of_mem _ hu)
    have hd := h d List.mem_cons_self
    refine ⟨?_, ?_⟩
    · show (PyData.canLay0 d && PyData.canLayAll0 ds) = true
      rw [MX.kd_lay _ hd.1, a]; rfl
    · show max d.depth (PyData.depthAll ds) <= 9
      have := hd.2
      omega
noncomputable def rowD (H : Hp) (es : List (PyData × V)) : List PyData := es.map fun p => .tuple [p.1, dat H p.2]
theorem row_DVs {H : Hp} : ∀ {es : List (PyData × V)} {ts : List V}, Paired (Wt H) es ts -> (∀ p ∈ es, WV H p.2) -> DVs H (rowD H es) ts
  | _, _, .nil, _ => rfl
  | p :: es, _, .cons hw t, h => by
    obtain ⟨b, cv, rfl, hb, hk⟩ := hw
    exact ⟨_, _, rfl, ⟨b, _, rfl, hb, _, _, rfl, hk.2.2.1, _, _, rfl, (dat_ok (h p List.mem_cons_self)).2.2, rfl⟩, row_DVs t fun q hq => h q (List.mem_cons_of_mem _ hq)⟩
theorem row_kd {H : Hp} : ∀ {es : List (PyData × V)} {ts : List V}, Paired (Wt H) es ts -> (∀ p ∈ es, WV H p.2) -> ∀ d ∈ rowD H es, MX.kd d = true /\ d.depth <= 9
  | _, _, .nil, _, d, hd => by cases hd
  | p :: es, _, .cons hw t, h, d, hd => by
    rcases List.mem_cons.mp hd with rfl | hd
    · obtain ⟨b, cv, _, hb, hk⟩ := hw
      obtain ⟨a1, a2, _⟩ := dat_ok (h p List.mem_cons_self)
      refine ⟨?_, ?_⟩
      · show (MX.kd p.1 && (MX.kd (dat H p.2) && true)) = true
        rw [hk.1, a1]; rfl
      · show max p.1.depth (max (dat H p.2).depth 0) + 1 <= 9
        have := hk.2.1
        omega
    · exact row_kd t (fun q hq => h q (List.mem_cons_of_mem _ hq)) d hd
theorem key_DVs {H : Hp} : ∀ {ks : List PyData} {vs : List V}, Paired (KeyV H) ks vs -> DVs H ks vs
  | _, _, .nil => rfl
  | _, _, .cons h t => ⟨_, _, rfl, h.2.2.1, key_DVs t⟩
theorem key_Lay {H : Hp} {ks : List PyData} {vs : List V} (h : Paired (KeyV H) ks vs) : LayD (.list ks) := by
  obtain ⟨a, b⟩ := keyed_lay (ds := ks) fun d hd => by
    obtain ⟨i, hi⟩ := List.getElem?_of_mem hd
    obtain ⟨_, _, q⟩ := MX.f2_get' h i _ hi
    exact ⟨q.1, by have := q.2.1; omega⟩
  exact ⟨a, by show PyData.depthAll ks + 1 <= 16; omega⟩

theorem tl_data {H : Hp} {A : TA} {r : Bool -> List (PyData × V)} {mem : List V} (T : Tl H A r mem) (hr : ∀ b, ∀ p ∈ r b, WV H p.2) (hm : ∀ v ∈ mem, WV H v) :
    DV H (.list [.list (rowD H (r false)), .list (rowD H (r true))]) (.ref A.R) /\ DV H (.list (mem.map (dat H))) (.ref A.Mm) /\ LayD (.list [.list (rowD H (r false)), .list (rowD H (r true))]) /\ LayD (.list (mem.map (dat H))) := by
  obtain ⟨t0, h0, p0⟩ := T.rw false
  obtain ⟨t1, h1, p1⟩ := T.rw true
  obtain ⟨a0, b0⟩ := keyed_lay (row_kd p0 (hr false))
  obtain ⟨a1, b1⟩ := keyed_lay (row_kd p1 (hr true))
  obtain ⟨a2, b2⟩ := keyed_lay (ds := mem.map (dat H)) fun d hd => by
    obtain ⟨v, hv, rfl⟩ := List.mem_map.mp hd
    have := dat_ok (hm v hv)
    exact ⟨this.1, by omega⟩
  refine ⟨⟨A.R, _, rfl, T.rr, _, _, rfl, ⟨_, _, rfl, h0, row_DVs p0 (hr false)⟩, _, _, rfl, ⟨_, _, rfl, h1, row_DVs p1 (hr true)⟩, rfl⟩, ⟨A.Mm, _, rfl, T.mm, vals_DVs hm⟩, ⟨?_, ?_⟩, ⟨a2, ?_⟩⟩
  · show (PyData.canLayAll0 (rowD H (r false)) && (PyData.canLayAll0 (rowD H (r true)) && true)) = true
    rw [a0, a1]; rfl
  · show max (PyData.depthAll (rowD H (r false)) + 1) (max (PyData.depthAll (rowD H (r true)) + 1) 0) + 1 <= 16
    omega
  · show PyData.depthAll (mem.map (dat H)) + 1 <= 16
    omega
def sp_law (K : PySem.W.Frag) : Sp := fun vs H Q _ => ∃ (a : Addr) (ns : List Int), vs = [.ref a] /\ SqL K H a (ns.map V.int) /\ ns.length <= 63 /\ ∀ H', Q (.bl true) H'
section
variable {P : Program} {w : World} {K : PySem.W.Frag} {mg : Str -> Option Value} {base : Heap} {a : Ad} {d : Fd}
theorem ok_law (G : Gs K mg a d) : FnOk P w K mg base CX0 6 a.law d.law ["script"] (sp_law K) := by
  have c_law_stream : FnOk P w K mg base CX0 1 _ _ _ _ := ok_stream G
  have c_law_take : FnOk P w K mg base CX0 1 _ _ _ _ := ok_take G
  have c_law_cell : FnOk P w K mg base CX0 2 _ _ _ _ := ok_cell G
  have c_Store__init : FnOk P w K mg base CX0 1 _ _ _ _ := ok_init G
  have c_law_looks : FnOk P w K mg base CX0 3 _ _ _ _ := ok_looks G
  have c_law_step : FnOk P w K mg base CX0 3 _ _ _ _ := ok_step G
  refine G.f_law.ok sc_law (fun vs H Q E h => ?_) (fun cdv A outer st H vs Q E hr h => ?_)
  · obtain ⟨l, ns, rfl, _⟩ := h
    rfl
  · obtain ⟨l, ns, rfl, hS, hlen, k⟩ := h
    refine ⟨_, (@pss_cons _ _ _ _ _ (@ps_set _ _ 1 _ _ _ _ sc_law.nd rfl (Or.inl rfl) (pe_call c_law_stream (hr.mono (by decide)) (by rfl) G.m_law_stream G.f_law_stream.kp G.b_law_stream .nil pass0 (@pa_cons _ _ _ _ _ (@pe_ix _ _ _ _ _ _ _ ix_list (@pe_op _ _ _ _ _ _ _ _ op_catS (pv 0) (@pe_lst _ _ _ _ (@pa_cons _ _ _ _ _ pe_int pa_nil (by rfl)))) pe_int (fun _ _ => rfl)) pa_nil (by rfl))) (by rfl) (by first | exact .inl rfl | exact .inr rfl | assumption))
      (@pss_cons _ _ _ _ _ (@ps_set _ _ 2 _ _ _ _ sc_law.nd rfl (Or.inl rfl) (@pe_lst _ _ _ _ pa_nil) (by rfl) (by first | exact .inl rfl | exact .inr rfl | assumption))
      (@pss_cons _ _ _ _ _ (ps_for PassesOwn.never rfl (pi_range1 (by rfl) G.n_range (@pa_cons _ _ _ _ _ (@pe_op _ _ _ _ _ _ _ _ op_add pe_int (pe_call c_law_take (hr.mono (by decide)) (by rfl) G.m_law_take G.f_law_take.kp G.b_law_take .nil pass0 (@pa_cons _ _ _ _ _ (pv 1) (@pa_cons _ _ _ _ _ pe_int pa_nil (by rfl)) (by rfl)))) pa_nil (by rfl))) (pg_name (i := 3) sc_law.nd rfl (Or.inl rfl)) (@pss_cons _ _ _ _ _ (@ps_set _ _ 4 _ _ _ _ sc_law.nd rfl (Or.inl rfl) (pe_call c_law_cell (hr.mono (by decide)) (by rfl) G.m_law_cell G.f_law_cell.kp G.b_law_cell .nil pass0 (@pa_cons _ _ _ _ _ (pv 1) pa_nil (by rfl))) (by rfl) (by first | exact .inl rfl | exact .inr rfl | assumption))
      (@pss_one _ _ _ (ps_if (pt_cmpR (op_notInD hr.units) (pv 4) (pv 2) (by with_unfolding_all rfl)) (@pss_one _ _ _ (@ps_expr _ _ _ _ (@pe_bm _ _ _ _ _ _ _ _ _ _ _ _ PySem.F.plainAttrs_list PySem.F.slot_list_append PySem.F.type_list_append mt_append (pv 2) (@pa_cons _ _ _ _ _ (pv 4) pa_nil (by rfl)) (by rfl) (by rfl) (by rfl) (by rfl) (by rfl)) (by rfl))) pss_nil))))
      (@pss_cons _ _ _ _ _ (@ps_set _ _ 5 _ _ _ _ sc_law.nd rfl (Or.inl rfl) (pe_make0 G.k_Store c_Store__init (hr.mono (by decide)) (by rfl) G.m_Store G.b_Store__init .nil pass0) (by rfl) (by first | exact .inl rfl | exact .inr rfl | assumption))
      (@pss_cons _ _ _ _ _ (@ps_set _ _ 6 _ _ _ _ sc_law.nd rfl (Or.inl rfl) (pe_call c_law_looks (hr.mono (by decide)) (by rfl) G.m_law_looks G.f_law_looks.kp G.b_law_looks .nil pass0 (@pa_cons _ _ _ _ _ (pv 5) (@pa_cons _ _ _ _ _ (pv 2) pa_nil (by rfl)) (by rfl))) (by rfl) (by first | exact .inl rfl | exact .inr rfl | assumption))
      (@pss_cons _ _ _ _ _ (ps_for PassesOwn.never rfl (pi_list (@pe_op _ _ _ _ _ _ _ _ op_catS (@pe_lst _ _ _ _ (@pa_cons _ _ _ _ _ pe_int pa_nil (by rfl))) (pe_slice sl_list (pv 0) (po_some pe_int) (po_some pe_int)))) (pg_name (i := 4) sc_law.nd rfl (Or.inl rfl)) (@pss_cons _ _ _ _ _ (@ps_set _ _ 7 _ _ _ _ sc_law.nd rfl (Or.inl rfl) (pe_call c_law_stream (hr.mono (by decide)) (by rfl) G.m_law_stream G.f_law_stream.kp G.b_law_stream .nil pass0 (@pa_cons _ _ _ _ _ (pv 4) pa_nil (by rfl))) (by rfl) (by first | exact .inl rfl | exact .inr rfl | assumption))
      (@pss_one _ _ _ (ps_for PassesOwn.never rfl (pi_range1 (by rfl) G.n_range (@pa_cons _ _ _ _ _ (@pe_op _ _ _ _ _ _ _ _ op_add pe_int (pe_call c_law_take (hr.mono (by decide)) (by rfl) G.m_law_take G.f_law_take.kp G.b_law_take .nil pass0 (@pa_cons _ _ _ _ _ (pv 7) (@pa_cons _ _ _ _ _ pe_int pa_nil (by rfl)) (by rfl)))) pa_nil (by rfl))) (pg_name (i := 3) sc_law.nd rfl (Or.inl rfl)) (@pss_cons _ _ _ _ _ (ps_if (pt_cmpR op_isN (pv 6) pe_non (nomark _)) (@pss_one _ _ _ (@ps_ret _ _ _ _ pe_bl)) pss_nil)
      (@pss_cons _ _ _ _ _ (@ps_set _ _ 8 _ _ _ _ sc_law.nd rfl (Or.inl rfl) (pe_call c_law_step (hr.mono (by decide)) (by rfl) G.m_law_step G.f_law_step.kp G.b_law_step .nil pass0 (@pa_cons _ _ _ _ _ (pv 7) (@pa_cons _ _ _ _ _ (pv 5) (@pa_cons _ _ _ _ _ (pv 2) (@pa_cons _ _ _ _ _ (pv 6) pa_nil (by rfl)) (by rfl)) (by rfl)) (by rfl))) (by rfl) (by first | exact .inl rfl | exact .inr rfl | assumption))
      (@pss_cons _ _ _ _ _ (@ps_set _ _ 6 _ _ _ _ sc_law.nd rfl (Or.inl rfl) (pe_call c_law_looks (hr.mono (by decide)) (by rfl) G.m_law_looks G.f_law_looks.kp G.b_law_looks .nil pass0 (@pa_cons _ _ _ _ _ (pv 5) (@pa_cons _ _ _ _ _ (pv 2) pa_nil (by rfl)) (by rfl))) (by rfl) (by first | exact .inl rfl | exact .inr rfl | assumption))
      (@pss_one _ _ _ (ps_if (pt_cmpR (op_neK2 hr.units) (pv 6) (pv 8) (nomark _)) (@pss_one _ _ _ (@ps_ret _ _ _ _ pe_bl)) pss_nil)))))))))
      (@pss_one _ _ _ (@ps_ret _ _ _ _ (pe_cmpR op_notN (pv 6) pe_non (nomark _)))))))))), ?_⟩
    obtain ⟨c0, hc0⟩ : ∃ c : Int, (ns.map V.int ++ [V.int 0])[0]? = some (.int c) := by
      cases ns with
      | nil => exact ⟨0, rfl⟩
      | cons n ns => exact ⟨n, rfl⟩
    refine ⟨_, rfl, by show 1 <= sizeLine; decide, fun p hp => ⟨l, p, _, _, rfl, rfl, (same_new hp).seq hS, SqL.of upd_same, ?_, fun q hq => ⟨q, _, _, _, rfl, rfl, SqL.of upd_same, (by exact atI_nat (j := 0) hc0), c0, rfl, fun g rw hg hrow => ?_⟩⟩⟩
    · rw [List.length_map]
      exact Nat.le_trans (show ns.length + 1 <= 64 by omega) (by decide)
    have e1 := ((same_new (o := .lst [V.int 0]) hp).trans (same_new (o := .lst (ns.map V.int ++ [V.int 0])) hq))
    have fg : H g = none := none_back e1 hg
    have e2 := e1.trans (same_new (o := .lst rw) hg)
    have R2 : Rw (upd (upd (upd H p (.lst [V.int 0])) q (.lst (ns.map V.int ++ [V.int 0]))) g (.lst rw)) g := ⟨rw, upd_same, hrow⟩
    generalize upd (upd (upd H p (.lst [V.int 0])) q (.lst (ns.map V.int ++ [V.int 0]))) g (.lst rw) = H2 at e2 R2 ⊢
    clear e1
    refine ⟨len0v, fun sm hsm => ?_⟩
    have e3 := e2.trans (same_new (o := .lst []) hsm)
    have fs : H sm = none := none_back e2 hsm
    have ngs : sm ≠ g := R2.ne hsm
    have R3 := R2.new (o := .lst []) hsm
    have m3 : upd H2 sm (.lst []) sm = some (.lst []) := upd_same
    generalize upd H2 sm (.lst []) = H3 at e3 R3 m3 ⊢
    refine ⟨_, rfl, g, 11, rfl, R3, by decide, by decide, fun j H4 j0 j1 S4 => ⟨_, _, rfl, rfl, 2 + j, rfl, by omega, by omega, ?_⟩⟩
    have e4 : Same H H4 := fun c o e => S4.keep c o (ne_of_none e fg) (e3 c o e)
    have m4 := S4.keep _ _ ngs m3
    refine for_range (n := (2 + j).toNat) (fun i σ H' => (∃ v3 v4, σ = [some (.ref l), some (.ref g), some (.ref sm), v3, v4, none, none, none, none]) /\ Same H H' /\ Rw H' g /\ ∃ cvs ks, H' sm = some (.lst cvs) /\ Paired (KeyV H') ks cvs /\ ks.length <= i /\ (0 < i -> 0 < ks.length))
      ⟨⟨_, _, rfl⟩, e4, S4.row, [], [], m4, .nil, Nat.le_refl _, fun z => z⟩ ?_ ?_
    · rintro i σ H5 hi ⟨⟨v3, v4, rfl⟩, e5, R5, cvs, ks, m5, p5, l5, _⟩
      refine ⟨_, rfl, g, rfl, R5, fun cv H6 S6 hcv => ?_⟩
      obtain ⟨k0, hk0, _⟩ := hcv
      have m6 := S6.keep _ _ ngs m5
      have p6 := Paired.mapP p5 fun _ _ q => q.keep (S6.tups R5)
      have e6 : Same H H6 := fun c o e => S6.keep c o (ne_of_none e fg) (e5 c o e)
      have hl := pairedLen p6
      refine ⟨_, rfl, _, rfl, k0, ks, hk0.2.2.1, ⟨sm, cvs, rfl, m6, key_DVs p6⟩, LayD.key hk0.1 hk0.2.1, key_Lay p6, _, rfl, ?_⟩
      simp only [if_true]
      refine ite2 (fun _ => ?_) (fun hno => ?_)
      · refine ⟨_, rfl, .inl ⟨rfl, _, SqL.of m6⟩, _, rfl, sm, _, _, rfl, rfl, m6, Nat.lt_of_lt_of_le (show _ < 100 by omega) (by decide), ⟨_, _, rfl⟩, fun c o e => ?_, ?_, cvs ++ [cv], ks ++ [k0], upd_same, ?_, ?_, fun _ => ?_⟩
        · rw [upd_ne (ne_of_none e fs)]; exact e6 c o e
        · obtain ⟨rw, e, q⟩ := S6.row
          exact ⟨rw, by rw [upd_ne ngs.symm]; exact e, q⟩
        · have kt : ∀ b vs, H6 b = some (.tup vs) -> upd H6 sm (.lst (cvs ++ [cv])) b = some (.tup vs) := fun b vs e => by
            rw [upd_ne (ne_of e m6 (by intro z; cases z))]; exact e
          exact Paired.snoc (Paired.mapP p6 fun _ _ q => q.keep kt) (hk0.keep kt)
        · rw [List.length_append]; exact Nat.succ_le_succ l5
        · rw [List.length_append]; exact Nat.succ_pos _
      · refine ⟨⟨_, _, rfl⟩, e6, S6.row, cvs, ks, m6, p6, by omega, fun _ => ?_⟩
        cases ks with
        | nil => exact absurd rfl hno
        | cons _ _ => exact Nat.succ_pos _
    · rintro σ H5 ⟨⟨v3, v4, rfl⟩, e5, R5, cvs, ks, m5, p5, l5, n5⟩
      have hks0 : 0 < ks.length := n5 (by omega)
      have hks : ks.length <= 100 := by omega
      intro x dx nx ndx nex
      refine ⟨x, dx, rfl, upd_same, fun hd rl ll H6 f1 f2 f3 S6 kp6 => ⟨rfl, ?_⟩⟩
      have e6 : Same H5 H6 := fun c o e => by
        have y1 := ne_of_none e ndx
        have y2 := ne_of_none e nx
        exact kp6 c o (fun z => y2 (List.mem_singleton.mp z)) (by rw [upd_ne y2, upd_ne y1]; exact e)
      have up : ∀ c, upd (upd H5 dx (.own x)) x (.ins a.Store dx []) c = none -> H5 c = none := fun c h => by
        have h' := up1 h
        exact (up1 h'.2).2
      have smo : ¬ Sto.own x hd rl ll sm := fun h => by
        have : H5 sm = none := by
          rcases h with z | z | z | z | z
          · rw [z]; exact nx
          · rw [z]; exact up _ f1
          · rw [z]; exact up _ f2
          · rw [z]; exact up _ (f3 _)
          · rw [z]; exact up _ (f3 _)
        rw [m5] at this; cases this
      have V6 : Ev w a.Store H6 ⟨x, hd, rl, ll⟩ [] (fun _ => []) sm cvs ks := ⟨S6, fun p hp => (by cases hp), fun b p hp => (by cases hp), smo, Paired.mapP p5 fun _ _ q => q.keep fun b vs e => e6 b _ e, e6 _ _ m5⟩
      generalize hs : (⟨x, hd, rl, ll⟩ : SA) = s at V6
      have hsx : x = s.x := by rw [← hs]
      subst hsx
      refine ⟨_, rfl, _, rfl, s, [], _, sm, cvs, ks, rfl, V6, hks, fun A H7 e7 _ T7 => ?_⟩
      have V7 := V6.same e7
      have e07 : Same H H7 := e5.trans (e6.trans e7)
      clear S6 kp6 f1 f2 f3 up smo V6 p5 m5 e6 e7 nx ndx nex
      refine ⟨by show 1 <= sizeLine; decide, fun p hp => ⟨_, rfl, _, rfl, _, rfl, l, _, rfl, (e07.trans (same_new hp)).seq hS, fun q hq => ⟨p, q, _, _, rfl, rfl, SqL.of (by rw [upd_ne (ne_of_none upd_same hq)]; exact upd_same), SqL.of upd_same, cut_len hlen, fun t ht => ⟨t, rfl, ⟨_, SqL.of upd_same⟩, ?_⟩⟩⟩⟩
      have e8' : Same H7 (upd (upd H7 p (.lst [V.int 0])) q (.lst (cutV (ns.map V.int) (some 1) (some 25)))) := (same_new hp).trans (same_new hq)
      have e8 : Same H7 (upd (upd (upd H7 p (.lst [V.int 0])) q (.lst (cutV (ns.map V.int) (some 1) (some 25)))) t (.lst ([V.int 0] ++ cutV (ns.map V.int) (some 1) (some 25)))) := e8'.trans (same_new ht)
      have tno := (V7.same e8').fresh ht
      have clen : ([V.int 0] ++ cutV (ns.map V.int) (some 1) (some 25)).length <= 64 := by
        rw [List.length_append]
        have := cutV_length (ns.map V.int) (some 1) (some 25)
        rw [List.length_map] at this
        show 1 + _ <= 64
        omega
      refine for_list (K := K) (a := t) (xs := [V.int 0] ++ cutV (ns.map V.int) (some 1) (some 25)) (fun i σ H2 => ∃ A M r, (∃ v3 v4 v7 v8, σ = [some (.ref l), some (.ref g), some (.ref sm), v3, v4, some (.ref s.x), some (.ref A.D), v7, v8]) /\ H2 t = some (.lst ([V.int 0] ++ cutV (ns.map V.int) (some 1) (some 25))) /\ Ev w a.Store H2 s M r sm cvs ks /\ Tl H2 A r (ks.map (look M)) /\ tot M r <= 3 * i)
        ⟨A, [], fun _ => [], ⟨_, _, _, _, rfl⟩, upd_same, V7.same e8, T7.same e8, Nat.le_refl _⟩ (fun _ _ _ _ ⟨_, _, _, z⟩ => SqL.of z.2.1) ?_ ?_
      · rintro i y σ H2 hi ⟨A, M, r, ⟨v3, v4, v7, v8, rfl⟩, ht2, V2, T2, n2⟩
        have hil : i < 64 := Nat.lt_of_lt_of_le (List.getElem?_eq_some_iff.mp hi).1 clen
        obtain ⟨z, rfl⟩ := cut_int (List.mem_of_getElem? hi)
        refine ⟨_, rfl, z, rfl, fun g' rw hr0 hrow => ?_⟩
        have htr : t ≠ g' := ne_of_none ht2 hr0
        have gno := V2.fresh hr0
        have gA : g' ∉ A.ls := fun hc => by
          obtain ⟨o, e, _⟩ := T2.there hc
          rw [hr0] at e; cases e
        have e3 := same_new (o := .lst rw) hr0
        have R3 : Rw (upd H2 g' (.lst rw)) g' := ⟨rw, upd_same, hrow⟩
        have ht3 := e3 _ _ ht2
        have V3 := V2.same e3
        have T3 := T2.same e3
        generalize upd H2 g' (.lst rw) = H3 at R3 ht3 V3 T3 ⊢
        refine ⟨_, rfl, g', 3, rfl, R3, by decide, by decide, fun j H4 j0 j1 S4 => ⟨_, _, rfl, rfl, 1 + j, rfl, by omega, by omega, ?_⟩⟩
        refine for_range (n := (1 + j).toNat) (fun m σ H' => ∃ A M r, (∃ v3 v8, σ = [some (.ref l), some (.ref g), some (.ref sm), v3, some (.int z), some (.ref s.x), some (.ref A.D), some (.ref g'), v8]) /\ H' t = some (.lst ([V.int 0] ++ cutV (ns.map V.int) (some 1) (some 25))) /\ Ev w a.Store H' s M r sm cvs ks /\ Tl H' A r (ks.map (look M)) /\ tot M r <= 3 * i + m /\ Rw H' g' /\ g' ∉ A.ls)
          ⟨A, M, r, ⟨_, _, rfl⟩, S4.keep _ _ htr ht3, V3.stp R3 gno S4, T3.kp S4.kp (fun c hc => by rw [List.mem_singleton.mp hc]; exact gA) (fun c hc => by rw [List.mem_singleton.mp hc]; exact R3.notup), n2, S4.row, gA⟩ ?_ ?_
        · rintro m σ H5 hm ⟨A, M, r, ⟨v3, v8, rfl⟩, ht5, V5, T5, n5, R5, gA⟩
          refine ⟨_, rfl, rfl, _, rfl, ?_⟩
          rw [decide_eq_false (by intro z; cases z)]
          refine iteF ?_
          refine ⟨_, rfl, _, rfl, _, rfl, _, rfl, g', s, M, r, sm, cvs, ks, A, rfl, V5, T5, R5, gno, gA, hks0, hks, by omega, fun A1 H6 M1 r1 V6 T6 R6 n6 kp6 => ?_⟩
          refine ⟨_, rfl, _, rfl, s, M1, r1, sm, cvs, ks, rfl, V6, hks, fun A2 H7 e7 f7 T7 => ?_⟩
          have T6' := T6.same e7
          have V7 := V6.same e7
          have hmem : ∀ v ∈ ks.map (look M1), WV H7 v := fun v hv => by
            obtain ⟨k, _, rfl⟩ := List.mem_map.mp hv
            exact WV.look V7.wm k
          obtain ⟨d1, d2, l1, l2'⟩ := tl_data T7 V7.wr hmem
          obtain ⟨d3, d4, _, _⟩ := tl_data T6' V7.wr hmem
          refine ⟨_, rfl, _, rfl, A2.D, A1.D, _, _, _, _, _, _, _, _, _, _, rfl, rfl, T7.d, T6'.d, inr_ne ne_rm, ⟨d1, d2, d3, d4⟩, ⟨l1, l2', l1, l2'⟩, _, rfl, ?_⟩
          rw [eqv_refl _ l1.1, eqv_refl _ l2'.1]
          refine iteF ⟨A2, M1, r1, ⟨_, _, rfl⟩, e7 _ _ (kp6 t _ ?_ ht5), V7, T7, by omega, (by obtain ⟨rw, e, q⟩ := R6; exact ⟨rw, e7 _ _ e, q⟩), fun z => ?_⟩
          · intro z
            simp only [List.mem_cons, List.not_mem_nil, or_false] at z
            rcases z with z | z | z | z
            · exact htr z
            · exact tno (.inl (by rw [z]; exact own_l _))
            · exact tno (.inl (by rw [z]; exact own_l _))
            · exact tno (.inl (by rw [z]; exact own_hd))
          · have := f7 _ z
            obtain ⟨rw, e, _⟩ := R6
            rw [e] at this; cases this
        · rintro σ H5 ⟨A, M, r, ⟨v3, v8, rfl⟩, ht5, V5, T5, n5, R5, gA⟩
          exact ⟨A, M, r, ⟨_, _, _, _, rfl⟩, ht5, V5, T5, by omega⟩
      · rintro σ H2 ⟨A, M, r, ⟨v3, v4, v7, v8, rfl⟩, ht2, V2, T2, n2⟩
        refine ⟨_, rfl, rfl, ?_⟩
        rw [decide_eq_false (by intro z; cases z)]
        exact k _
end
theorem all_mk {l : PySem.W.OpenLaw} {w : World} {K : PySem.W.Frag} {h : Heap} {mg : Str -> Option Value} {fa : Addr} (X : K.In h) (G : h.Ns mainGlobals mg) (hfa : mg "law" = some (.ref fa))
    {f_wall f_Store__init f_Store_become f_Store_write f_Store_drain f_Store_fence f_Store_read f_Store_memory f_Store_waits f_Store_cells f_law_stream f_law_take f_law_cell f_law_worth f_law_looks f_law_drained f_law_step f_law C_Store : Addr}
    {od_wall an_wall : Option Addr} {sl_wall : Array (Option Value)} {oc_wall kV_wall dc_wall pm_wall cd_wall ct_wall : Value}
    {od_Store__init an_Store__init : Option Addr} {sl_Store__init : Array (Option Value)} {oc_Store__init kV_Store__init dc_Store__init pm_Store__init cd_Store__init ct_Store__init : Value}
    {od_Store_become an_Store_become : Option Addr} {sl_Store_become : Array (Option Value)} {oc_Store_become kV_Store_become dc_Store_become pm_Store_become cd_Store_become ct_Store_become : Value}
    {od_Store_write an_Store_write : Option Addr} {sl_Store_write : Array (Option Value)} {oc_Store_write kV_Store_write dc_Store_write pm_Store_write cd_Store_write ct_Store_write : Value}
    {od_Store_drain an_Store_drain : Option Addr} {sl_Store_drain : Array (Option Value)} {oc_Store_drain kV_Store_drain dc_Store_drain pm_Store_drain cd_Store_drain ct_Store_drain : Value}
    {od_Store_fence an_Store_fence : Option Addr} {sl_Store_fence : Array (Option Value)} {oc_Store_fence kV_Store_fence dc_Store_fence pm_Store_fence cd_Store_fence ct_Store_fence : Value}
    {od_Store_read an_Store_read : Option Addr} {sl_Store_read : Array (Option Value)} {oc_Store_read kV_Store_read dc_Store_read pm_Store_read cd_Store_read ct_Store_read : Value}
    {od_Store_memory an_Store_memory : Option Addr} {sl_Store_memory : Array (Option Value)} {oc_Store_memory kV_Store_memory dc_Store_memory pm_Store_memory cd_Store_memory ct_Store_memory : Value}
    {od_Store_waits an_Store_waits : Option Addr} {sl_Store_waits : Array (Option Value)} {oc_Store_waits kV_Store_waits dc_Store_waits pm_Store_waits cd_Store_waits ct_Store_waits : Value}
    {od_Store_cells an_Store_cells : Option Addr} {sl_Store_cells : Array (Option Value)} {oc_Store_cells kV_Store_cells dc_Store_cells pm_Store_cells cd_Store_cells ct_Store_cells : Value}
    {od_law_stream an_law_stream : Option Addr} {sl_law_stream : Array (Option Value)} {oc_law_stream kV_law_stream dc_law_stream pm_law_stream cd_law_stream ct_law_stream : Value}
    {od_law_take an_law_take : Option Addr} {sl_law_take : Array (Option Value)} {oc_law_take kV_law_take dc_law_take pm_law_take cd_law_take ct_law_take : Value}
    {od_law_cell an_law_cell : Option Addr} {sl_law_cell : Array (Option Value)} {oc_law_cell kV_law_cell dc_law_cell pm_law_cell cd_law_cell ct_law_cell : Value}
    {od_law_worth an_law_worth : Option Addr} {sl_law_worth : Array (Option Value)} {oc_law_worth kV_law_worth dc_law_worth pm_law_worth cd_law_worth ct_law_worth : Value}
    {od_law_looks an_law_looks : Option Addr} {sl_law_looks : Array (Option Value)} {oc_law_looks kV_law_looks dc_law_looks pm_law_looks cd_law_looks ct_law_looks : Value}
    {od_law_drained an_law_drained : Option Addr} {sl_law_drained : Array (Option Value)} {oc_law_drained kV_law_drained dc_law_drained pm_law_drained cd_law_drained ct_law_drained : Value}
    {od_law_step an_law_step : Option Addr} {sl_law_step : Array (Option Value)} {oc_law_step kV_law_step dc_law_step pm_law_step cd_law_step ct_law_step : Value}
    {od_law an_law : Option Addr} {sl_law : Array (Option Value)} {oc_law kV_law dc_law pm_law cd_law ct_law : Value}
    (aC_Store : PySem.W.nsIn K mainGlobals "Store" = some (some (.ref C_Store)))
    (a_wall : PySem.W.nsIn K mainGlobals "_wall" = some (some (.ref f_wall)))
    (l_wall : K.lookup f_wall = some ⟨oc_wall, od_wall, .func (PySem.W.fnOf "_wall" "_wall" (defArgs s_wall) (defBody s_wall) (defScope s_wall) .none kV_wall dc_wall pm_wall an_wall cd_wall ct_wall), sl_wall⟩)
    (c_wall : PySem.W.codeIn K cd_wall "_wall" = true)
    (k_wall : PySem.W.keepIn K (.ref f_wall) = true)
    (a_Store__init : PySem.W.findIn K (.ref C_Store) "__init__" = some (some (.ref f_Store__init)))
    (i_Store__init : PySem.W.isFn K (.ref f_Store__init) = true)
    (l_Store__init : K.lookup f_Store__init = some ⟨oc_Store__init, od_Store__init, .func (PySem.W.fnOf "__init__" "Store.__init__" (defArgs s_Store__init) (defBody s_Store__init) (defScope s_Store__init) .none kV_Store__init dc_Store__init pm_Store__init an_Store__init cd_Store__init ct_Store__init), sl_Store__init⟩)
    (c_Store__init : PySem.W.codeIn K cd_Store__init "Store.__init__" = true)
    (k_Store__init : PySem.W.keepIn K (.ref f_Store__init) = true)
    (a_Store_become : PySem.W.findIn K (.ref C_Store) "become" = some (some (.ref f_Store_become)))
    (i_Store_become : PySem.W.isFn K (.ref f_Store_become) = true)
    (l_Store_become : K.lookup f_Store_become = some ⟨oc_Store_become, od_Store_become, .func (PySem.W.fnOf "become" "Store.become" (defArgs s_Store_become) (defBody s_Store_become) (defScope s_Store_become) .none kV_Store_become dc_Store_become pm_Store_become an_Store_become cd_Store_become ct_Store_become), sl_Store_become⟩)
    (c_Store_become : PySem.W.codeIn K cd_Store_become "Store.become" = true)
    (k_Store_become : PySem.W.keepIn K (.ref f_Store_become) = true)
    (a_Store_write : PySem.W.findIn K (.ref C_Store) "write" = some (some (.ref f_Store_write)))
    (i_Store_write : PySem.W.isFn K (.ref f_Store_write) = true)
    (l_Store_write : K.lookup f_Store_write = some ⟨oc_Store_write, od_Store_write, .func (PySem.W.fnOf "write" "Store.write" (defArgs s_Store_write) (defBody s_Store_write) (defScope s_Store_write) .none kV_Store_write dc_Store_write pm_Store_write an_Store_write cd_Store_write ct_Store_write), sl_Store_write⟩)
    (c_Store_write : PySem.W.codeIn K cd_Store_write "Store.write" = true)
    (k_Store_write : PySem.W.keepIn K (.ref f_Store_write) = true)
    (a_Store_drain : PySem.W.findIn K (.ref C_Store) "drain" = some (some (.ref f_Store_drain)))
    (i_Store_drain : PySem.W.isFn K (.ref f_Store_drain) = true)
    (l_Store_drain : K.lookup f_Store_drain = some ⟨oc_Store_drain, od_Store_drain, .func (PySem.W.fnOf "drain" "Store.drain" (defArgs s_Store_drain) (defBody s_Store_drain) (defScope s_Store_drain) .none kV_Store_drain dc_Store_drain pm_Store_drain an_Store_drain cd_Store_drain ct_Store_drain), sl_Store_drain⟩)
    (c_Store_drain : PySem.W.codeIn K cd_Store_drain "Store.drain" = true)
    (k_Store_drain : PySem.W.keepIn K (.ref f_Store_drain) = true)
    (a_Store_fence : PySem.W.findIn K (.ref C_Store) "fence" = some (some (.ref f_Store_fence)))
    (i_Store_fence : PySem.W.isFn K (.ref f_Store_fence) = true)
    (l_Store_fence : K.lookup f_Store_fence = some ⟨oc_Store_fence, od_Store_fence, .func (PySem.W.fnOf "fence" "Store.fence" (defArgs s_Store_fence) (defBody s_Store_fence) (defScope s_Store_fence) .none kV_Store_fence dc_Store_fence pm_Store_fence an_Store_fence cd_Store_fence ct_Store_fence), sl_Store_fence⟩)
    (c_Store_fence : PySem.W.codeIn K cd_Store_fence "Store.fence" = true)
    (k_Store_fence : PySem.W.keepIn K (.ref f_Store_fence) = true)
    (a_Store_read : PySem.W.findIn K (.ref C_Store) "read" = some (some (.ref f_Store_read)))
    (i_Store_read : PySem.W.isFn K (.ref f_Store_read) = true)
    (l_Store_read : K.lookup f_Store_read = some ⟨oc_Store_read, od_Store_read, .func (PySem.W.fnOf "read" "Store.read" (defArgs s_Store_read) (defBody s_Store_read) (defScope s_Store_read) .none kV_Store_read dc_Store_read pm_Store_read an_Store_read cd_Store_read ct_Store_read), sl_Store_read⟩)
    (c_Store_read : PySem.W.codeIn K cd_Store_read "Store.read" = true)
    (k_Store_read : PySem.W.keepIn K (.ref f_Store_read) = true)
    (a_Store_memory : PySem.W.findIn K (.ref C_Store) "memory" = some (some (.ref f_Store_memory)))
    (i_Store_memory : PySem.W.isFn K (.ref f_Store_memory) = true)
    (l_Store_memory : K.lookup f_Store_memory = some ⟨oc_Store_memory, od_Store_memory, .func (PySem.W.fnOf "memory" "Store.memory" (defArgs s_Store_memory) (defBody s_Store_memory) (defScope s_Store_memory) .none kV_Store_memory dc_Store_memory pm_Store_memory an_Store_memory cd_Store_memory ct_Store_memory), sl_Store_memory⟩)
    (c_Store_memory : PySem.W.codeIn K cd_Store_memory "Store.memory" = true)
    (k_Store_memory : PySem.W.keepIn K (.ref f_Store_memory) = true)
    (a_Store_waits : PySem.W.findIn K (.ref C_Store) "waits" = some (some (.ref f_Store_waits)))
    (i_Store_waits : PySem.W.isFn K (.ref f_Store_waits) = true)
    (l_Store_waits : K.lookup f_Store_waits = some ⟨oc_Store_waits, od_Store_waits, .func (PySem.W.fnOf "waits" "Store.waits" (defArgs s_Store_waits) (defBody s_Store_waits) (defScope s_Store_waits) .none kV_Store_waits dc_Store_waits pm_Store_waits an_Store_waits cd_Store_waits ct_Store_waits), sl_Store_waits⟩)
    (c_Store_waits : PySem.W.codeIn K cd_Store_waits "Store.waits" = true)
    (k_Store_waits : PySem.W.keepIn K (.ref f_Store_waits) = true)
    (a_Store_cells : PySem.W.findIn K (.ref C_Store) "cells" = some (some (.ref f_Store_cells)))
    (i_Store_cells : PySem.W.isFn K (.ref f_Store_cells) = true)
    (l_Store_cells : K.lookup f_Store_cells = some ⟨oc_Store_cells, od_Store_cells, .func (PySem.W.fnOf "cells" "Store.cells" (defArgs s_Store_cells) (defBody s_Store_cells) (defScope s_Store_cells) .none kV_Store_cells dc_Store_cells pm_Store_cells an_Store_cells cd_Store_cells ct_Store_cells), sl_Store_cells⟩)
    (c_Store_cells : PySem.W.codeIn K cd_Store_cells "Store.cells" = true)
    (k_Store_cells : PySem.W.keepIn K (.ref f_Store_cells) = true)
    (a_law_stream : PySem.W.nsIn K mainGlobals "_law_stream" = some (some (.ref f_law_stream)))
    (l_law_stream : K.lookup f_law_stream = some ⟨oc_law_stream, od_law_stream, .func (PySem.W.fnOf "_law_stream" "_law_stream" (defArgs s_law_stream) (defBody s_law_stream) (defScope s_law_stream) .none kV_law_stream dc_law_stream pm_law_stream an_law_stream cd_law_stream ct_law_stream), sl_law_stream⟩)
    (c_law_stream : PySem.W.codeIn K cd_law_stream "_law_stream" = true)
    (k_law_stream : PySem.W.keepIn K (.ref f_law_stream) = true)
    (a_law_take : PySem.W.nsIn K mainGlobals "_law_take" = some (some (.ref f_law_take)))
    (l_law_take : K.lookup f_law_take = some ⟨oc_law_take, od_law_take, .func (PySem.W.fnOf "_law_take" "_law_take" (defArgs s_law_take) (defBody s_law_take) (defScope s_law_take) .none kV_law_take dc_law_take pm_law_take an_law_take cd_law_take ct_law_take), sl_law_take⟩)
    (c_law_take : PySem.W.codeIn K cd_law_take "_law_take" = true)
    (k_law_take : PySem.W.keepIn K (.ref f_law_take) = true)
    (a_law_cell : PySem.W.nsIn K mainGlobals "_law_cell" = some (some (.ref f_law_cell)))
    (l_law_cell : K.lookup f_law_cell = some ⟨oc_law_cell, od_law_cell, .func (PySem.W.fnOf "_law_cell" "_law_cell" (defArgs s_law_cell) (defBody s_law_cell) (defScope s_law_cell) .none kV_law_cell dc_law_cell pm_law_cell an_law_cell cd_law_cell ct_law_cell), sl_law_cell⟩)
    (c_law_cell : PySem.W.codeIn K cd_law_cell "_law_cell" = true)
    (k_law_cell : PySem.W.keepIn K (.ref f_law_cell) = true)
    (a_law_worth : PySem.W.nsIn K mainGlobals "_law_worth" = some (some (.ref f_law_worth)))
    (l_law_worth : K.lookup f_law_worth = some ⟨oc_law_worth, od_law_worth, .func (PySem.W.fnOf "_law_worth" "_law_worth" (defArgs s_law_worth) (defBody s_law_worth) (defScope s_law_worth) .none kV_law_worth dc_law_worth pm_law_worth an_law_worth cd_law_worth ct_law_worth), sl_law_worth⟩)
    (c_law_worth : PySem.W.codeIn K cd_law_worth "_law_worth" = true)
    (k_law_worth : PySem.W.keepIn K (.ref f_law_worth) = true)
    (a_law_looks : PySem.W.nsIn K mainGlobals "_law_looks" = some (some (.ref f_law_looks)))
    (l_law_looks : K.lookup f_law_looks = some ⟨oc_law_looks, od_law_looks, .func (PySem.W.fnOf "_law_looks" "_law_looks" (defArgs s_law_looks) (defBody s_law_looks) (defScope s_law_looks) .none kV_law_looks dc_law_looks pm_law_looks an_law_looks cd_law_looks ct_law_looks), sl_law_looks⟩)
    (c_law_looks : PySem.W.codeIn K cd_law_looks "_law_looks" = true)
    (k_law_looks : PySem.W.keepIn K (.ref f_law_looks) = true)
    (a_law_drained : PySem.W.nsIn K mainGlobals "_law_drained" = some (some (.ref f_law_drained)))
    (l_law_drained : K.lookup f_law_drained = some ⟨oc_law_drained, od_law_drained, .func (PySem.W.fnOf "_law_drained" "_law_drained" (defArgs s_law_drained) (defBody s_law_drained) (defScope s_law_drained) .none kV_law_drained dc_law_drained pm_law_drained an_law_drained cd_law_drained ct_law_drained), sl_law_drained⟩)
    (c_law_drained : PySem.W.codeIn K cd_law_drained "_law_drained" = true)
    (k_law_drained : PySem.W.keepIn K (.ref f_law_drained) = true)
    (a_law_step : PySem.W.nsIn K mainGlobals "_law_step" = some (some (.ref f_law_step)))
    (l_law_step : K.lookup f_law_step = some ⟨oc_law_step, od_law_step, .func (PySem.W.fnOf "_law_step" "_law_step" (defArgs s_law_step) (defBody s_law_step) (defScope s_law_step) .none kV_law_step dc_law_step pm_law_step an_law_step cd_law_step ct_law_step), sl_law_step⟩)
    (c_law_step : PySem.W.codeIn K cd_law_step "_law_step" = true)
    (k_law_step : PySem.W.keepIn K (.ref f_law_step) = true)
    (a_law : PySem.W.nsIn K mainGlobals "law" = some (some (.ref f_law)))
    (l_law : K.lookup f_law = some ⟨oc_law, od_law, .func (PySem.W.fnOf "law" "law" (defArgs s_law) (defBody s_law) (defScope s_law) .none kV_law dc_law pm_law an_law cd_law ct_law), sl_law⟩)
    (c_law : PySem.W.codeIn K cd_law "law" = true)
    (k_law : PySem.W.keepIn K (.ref f_law) = true)
    (pg_Store : PySem.W.plainGet K C_Store Str.empty = true)
    (hd_Store : PySem.W.hasDictIn K C_Store = true)
    (po_Store : PySem.W.plainOver K C_Store = true)
    (sa_Store : PySem.W.findIn K (.ref C_Store) "__setattr__" = some (some (.builtin "object.__setattr__")))
    (mk_Store : PySem.W.makesIn K C_Store = true)
    (kc_Store : PySem.W.keepIn K (.ref C_Store) = true)
    (na_Store_held : PySem.W.findIn K (.ref C_Store) "held" = some none)
    (na_Store_rows : PySem.W.findIn K (.ref C_Store) "rows" = some none)
    (n_int : PySem.W.nsIn K mainGlobals "int" = some none)
    (n_len : PySem.W.nsIn K mainGlobals "len" = some none)
    (n_list : PySem.W.nsIn K mainGlobals "list" = some none)
    (n_range : PySem.W.nsIn K mainGlobals "range" = some none)
    (n_reversed : PySem.W.nsIn K mainGlobals "reversed" = some none) :
    ∃ fd : FuncData, (∀ (s : Shared) (v : Value), BindsTo s fd ⟨[v], []⟩ [("script", v)]) /\ ∀ base : Heap, K.In base -> base.Ns mainGlobals mg -> FnOk l.prog w K mg base CX0 6 fa fd ["script"] (sp_law K) := by
  have e := hfa.symm.trans (PySem.W.mg_of X G a_law)
  cases e
  have F_wall := fun_mk (st := s_wall) l_wall c_wall k_wall
  have B_wall := F_wall.binds (ps := ["k"]) fun _ _ _ _ _ _ us hl => match us, hl with | [_], _ => rfl
  have F_Store__init := fun_mk (st := s_Store__init) l_Store__init c_Store__init k_Store__init
  have B_Store__init := F_Store__init.binds (ps := ["self"]) fun _ _ _ _ _ _ us hl => match us, hl with | [_], _ => rfl
  have F_Store_become := fun_mk (st := s_Store_become) l_Store_become c_Store_become k_Store_become
  have B_Store_become := F_Store_become.binds (ps := ["self", "one"]) fun _ _ _ _ _ _ us hl => match us, hl with | [_, _], _ => rfl
  have F_Store_write := fun_mk (st := s_Store_write) l_Store_write c_Store_write k_Store_write
  have B_Store_write := F_Store_write.binds (ps := ["self", "side", "cell", "worth"]) fun _ _ _ _ _ _ us hl => match us, hl with | [_, _, _, _], _ => rfl
  have F_Store_drain := fun_mk (st := s_Store_drain) l_Store_drain c_Store_drain k_Store_drain
  have B_Store_drain := F_Store_drain.binds (ps := ["self", "side"]) fun _ _ _ _ _ _ us hl => match us, hl with | [_, _], _ => rfl
  have F_Store_fence := fun_mk (st := s_Store_fence) l_Store_fence c_Store_fence k_Store_fence
  have B_Store_fence := F_Store_fence.binds (ps := ["self", "side"]) fun _ _ _ _ _ _ us hl => match us, hl with | [_, _], _ => rfl
  have F_Store_read := fun_mk (st := s_Store_read) l_Store_read c_Store_read k_Store_read
  have B_Store_read := F_Store_read.binds (ps := ["self", "side", "cell"]) fun _ _ _ _ _ _ us hl => match us, hl with | [_, _, _], _ => rfl
  have F_Store_memory := fun_mk (st := s_Store_memory) l_Store_memory c_Store_memory k_Store_memory
  have B_Store_memory := F_Store_memory.binds (ps := ["self", "cell"]) fun _ _ _ _ _ _ us hl => match us, hl with | [_, _], _ => rfl
  have F_Store_waits := fun_mk (st := s_Store_waits) l_Store_waits c_Store_waits k_Store_waits
  have B_Store_waits := F_Store_waits.binds (ps := ["self", "side"]) fun _ _ _ _ _ _ us hl => match us, hl with | [_, _], _ => rfl
  have F_Store_cells := fun_mk (st := s_Store_cells) l_Store_cells c_Store_cells k_Store_cells
  have B_Store_cells := F_Store_cells.binds (ps := ["self"]) fun _ _ _ _ _ _ us hl => match us, hl with | [_], _ => rfl
  have F_law_stream := fun_mk (st := s_law_stream) l_law_stream c_law_stream k_law_stream
  have B_law_stream := F_law_stream.binds (ps := ["cell"]) fun _ _ _ _ _ _ us hl => match us, hl with | [_], _ => rfl
  have F_law_take := fun_mk (st := s_law_take) l_law_take c_law_take k_law_take
  have B_law_take := F_law_take.binds (ps := ["row", "many"]) fun _ _ _ _ _ _ us hl => match us, hl with | [_, _], _ => rfl
  have F_law_cell := fun_mk (st := s_law_cell) l_law_cell c_law_cell k_law_cell
  have B_law_cell := F_law_cell.binds (ps := ["row"]) fun _ _ _ _ _ _ us hl => match us, hl with | [_], _ => rfl
  have F_law_worth := fun_mk (st := s_law_worth) l_law_worth c_law_worth k_law_worth
  have B_law_worth := F_law_worth.binds (ps := ["row"]) fun _ _ _ _ _ _ us hl => match us, hl with | [_], _ => rfl
  have F_law_looks := fun_mk (st := s_law_looks) l_law_looks c_law_looks k_law_looks
  have B_law_looks := F_law_looks.binds (ps := ["store", "some"]) fun _ _ _ _ _ _ us hl => match us, hl with | [_, _], _ => rfl
  have F_law_drained := fun_mk (st := s_law_drained) l_law_drained c_law_drained k_law_drained
  have B_law_drained := F_law_drained.binds (ps := ["told", "some", "side"]) fun _ _ _ _ _ _ us hl => match us, hl with | [_, _, _], _ => rfl
  have F_law_step := fun_mk (st := s_law_step) l_law_step c_law_step k_law_step
  have B_law_step := F_law_step.binds (ps := ["row", "store", "some", "ahead"]) fun _ _ _ _ _ _ us hl => match us, hl with | [_, _, _, _], _ => rfl
  have F_law := fun_mk (st := s_law) l_law c_law k_law
  have B_law := F_law.binds (ps := ["script"]) fun _ _ _ _ _ _ us hl => match us, hl with | [_], _ => rfl
  let ad : Ad := ⟨f_wall, f_Store__init, f_Store_become, f_Store_write, f_Store_drain, f_Store_fence, f_Store_read, f_Store_memory, f_Store_waits, f_Store_cells, f_law_stream, f_law_take, f_law_cell, f_law_worth, f_law_looks, f_law_drained, f_law_step, fa, C_Store⟩
  let dd : Fd := ⟨PySem.W.fnOf "_wall" "_wall" (defArgs s_wall) (defBody s_wall) (defScope s_wall) .none kV_wall dc_wall pm_wall an_wall cd_wall ct_wall, PySem.W.fnOf "__init__" "Store.__init__" (defArgs s_Store__init) (defBody s_Store__init) (defScope s_Store__init) .none kV_Store__init dc_Store__init pm_Store__init an_Store__init cd_Store__init ct_Store__init, PySem.W.fnOf "become" "Store.become" (defArgs s_Store_become) (defBody s_Store_become) (defScope s_Store_become) .none kV_Store_become dc_Store_become pm_Store_become an_Store_become cd_Store_become ct_Store_become, PySem.W.fnOf "write" "Store.write" (defArgs s_Store_write) (defBody s_Store_write) (defScope s_Store_write) .none kV_Store_write dc_Store_write pm_Store_write an_Store_write cd_Store_write ct_Store_write, PySem.W.fnOf "drain" "Store.drain" (defArgs s_Store_drain) (defBody s_Store_drain) (defScope s_Store_drain) .none kV_Store_drain dc_Store_drain pm_Store_drain an_Store_drain cd_Store_drain ct_Store_drain, PySem.W.fnOf "fence" "Store.fence" (defArgs s_Store_fence) (defBody s_Store_fence) (defScope s_Store_fence) .none kV_Store_fence dc_Store_fence pm_Store_fence an_Store_fence cd_Store_fence ct_Store_fence, PySem.W.fnOf "read" "Store.read" (defArgs s_Store_read) (defBody s_Store_read) (defScope s_Store_read) .none kV_Store_read dc_Store_read pm_Store_read an_Store_read cd_Store_read ct_Store_read, PySem.W.fnOf "memory" "Store.memory" (defArgs s_Store_memory) (defBody s_Store_memory) (defScope s_Store_memory) .none kV_Store_memory dc_Store_memory pm_Store_memory an_Store_memory cd_Store_memory ct_Store_memory, PySem.W.fnOf "waits" "Store.waits" (defArgs s_Store_waits) (defBody s_Store_waits) (defScope s_Store_waits) .none kV_Store_waits dc_Store_waits pm_Store_waits an_Store_waits cd_Store_waits ct_Store_waits, PySem.W.fnOf "cells" "Store.cells" (defArgs s_Store_cells) (defBody s_Store_cells) (defScope s_Store_cells) .none kV_Store_cells dc_Store_cells pm_Store_cells an_Store_cells cd_Store_cells ct_Store_cells, PySem.W.fnOf "_law_stream" "_law_stream" (defArgs s_law_stream) (defBody s_law_stream) (defScope s_law_stream) .none kV_law_stream dc_law_stream pm_law_stream an_law_stream cd_law_stream ct_law_stream, PySem.W.fnOf "_law_take" "_law_take" (defArgs s_law_take) (defBody s_law_take) (defScope s_law_take) .none kV_law_take dc_law_take pm_law_take an_law_take cd_law_take ct_law_take, PySem.W.fnOf "_law_cell" "_law_cell" (defArgs s_law_cell) (defBody s_law_cell) (defScope s_law_cell) .none kV_law_cell dc_law_cell pm_law_cell an_law_cell cd_law_cell ct_law_cell, PySem.W.fnOf "_law_worth" "_law_worth" (defArgs s_law_worth) (defBody s_law_worth) (defScope s_law_worth) .none kV_law_worth dc_law_worth pm_law_worth an_law_worth cd_law_worth ct_law_worth, PySem.W.fnOf "_law_looks" "_law_looks" (defArgs s_law_looks) (defBody s_law_looks) (defScope s_law_looks) .none kV_law_looks dc_law_looks pm_law_looks an_law_looks cd_law_looks ct_law_looks, PySem.W.fnOf "_law_drained" "_law_drained" (defArgs s_law_drained) (defBody s_law_drained) (defScope s_law_drained) .none kV_law_drained dc_law_drained pm_law_drained an_law_drained cd_law_drained ct_law_drained, PySem.W.fnOf "_law_step" "_law_step" (defArgs s_law_step) (defBody s_law_step) (defScope s_law_step) .none kV_law_step dc_law_step pm_law_step an_law_step cd_law_step ct_law_step, PySem.W.fnOf "law" "law" (defArgs s_law) (defBody s_law) (defScope s_law) .none kV_law dc_law pm_law an_law cd_law ct_law⟩
  have GG : Gs K mg ad dd := ⟨F_wall, B_wall, PySem.W.mg_of X G a_wall, F_Store__init, B_Store__init, F_Store_become, B_Store_become, ⟨a_Store_become, i_Store_become, k_Store_become⟩, F_Store_write, B_Store_write, ⟨a_Store_write, i_Store_write, k_Store_write⟩, F_Store_drain, B_Store_drain, ⟨a_Store_drain, i_Store_drain, k_Store_drain⟩, F_Store_fence, B_Store_fence, ⟨a_Store_fence, i_Store_fence, k_Store_fence⟩, F_Store_read, B_Store_read, ⟨a_Store_read, i_Store_read, k_Store_read⟩, F_Store_memory, B_Store_memory, ⟨a_Store_memory, i_Store_memory, k_Store_memory⟩, F_Store_waits, B_Store_waits, ⟨a_Store_waits, i_Store_waits, k_Store_waits⟩, F_Store_cells, B_Store_cells, ⟨a_Store_cells, i_Store_cells, k_Store_cells⟩, F_law_stream, B_law_stream, PySem.W.mg_of X G a_law_stream, F_law_take, B_law_take, PySem.W.mg_of X G a_law_take, F_law_cell, B_law_cell, PySem.W.mg_of X G a_law_cell, F_law_worth, B_law_worth, PySem.W.mg_of X G a_law_worth, F_law_looks, B_law_looks, PySem.W.mg_of X G a_law_looks, F_law_drained, B_law_drained, PySem.W.mg_of X G a_law_drained, F_law_step, B_law_step, PySem.W.mg_of X G a_law_step, F_law, B_law, PySem.W.mg_of X G a_law, ⟨pg_Store, hd_Store, po_Store, sa_Store⟩, PySem.W.mg_of X G aC_Store, ⟨mk_Store, a_Store__init, i_Store__init, kc_Store⟩, na_Store_held, na_Store_rows, PySem.W.mg_none_of X G n_int, PySem.W.mg_none_of X G n_len, PySem.W.mg_none_of X G n_list, PySem.W.mg_none_of X G n_range, PySem.W.mg_none_of X G n_reversed⟩
  exact ⟨dd.law, fun s v => .of_eq rfl, fun base _ _ => ok_law GG⟩
theorem walk {l : PySem.W.OpenLaw} {q : Program} {loose : List Str} {XP : (Str -> Option Value) -> Heap -> Prop} {YP : World -> Heap -> Prop} {d : DefRec} {K : Params -> PySem.W.Frag} (hn : l.most = some 63) (hdf : d.params.defaults = [])
    (hY : ∀ (w : World) (h : Heap), YP w h -> (K w.params).In h)
    (F : ∀ (w : World) (mg : Str -> Option Value) (fa : Addr) (h : Heap), (K w.params).In h -> h.Ns mainGlobals mg -> mg d.name = some (.ref fa) ->
      ∃ fd : FuncData, (∀ (s : Shared) (u : Value), BindsTo s fd ⟨[u], []⟩ [("script", u)]) /\ ∀ base : Heap, (K w.params).In base -> base.Ns mainGlobals mg -> FnOk l.prog w (K w.params) mg base CX0 6 fa fd ["script"] (sp_law (K w.params))) :
    PySem.W.WalkO q loose XP YP l.row.toRowW d [] (fun f vs => PySem.call f vs) :=
  L2.walk_of (n := 63) (k := 6) (x := "script") (CX := fun _ => CX0) (sp := fun w => sp_law (K w.params)) hn (by decide) hdf ⟨rfl, by decide, by decide⟩ hY F (fun _ _ a ns hl _ hS => ⟨a, ns, rfl, hS, hl, fun _ => rfl⟩) fun _ _ _ _ _ z => z
end My
open PySem PySem.W PyProof.Rows
set_option maxRecDepth 100000 in
set_option maxHeartbeats 0 in
theorem PySem.Challenge.cw_askring_k08_whole_each_deed_by_its_looks_holds : PySem.Challenge.rw_askring_k08_whole_each_deed_by_its_looks.Holds := by
  w_on; o_law; k_head; (case hw => w_witness2)
  k_fill
  refine My.walk (l := PySem.Challenge.rw_askring_k08_whole_each_deed_by_its_looks) rfl rfl (fun w h Y => PySem.W.kIn_of Y) ?F
  case F =>
    intro w mg fa h KX G hmg
    refine' My.all_mk KX G hmg ?aC_Store ?a_wall ?l_wall ?c_wall ?k_wall ?a_Store__init ?i_Store__init ?l_Store__init ?c_Store__init ?k_Store__init ?a_Store_become ?i_Store_become ?l_Store_become ?c_Store_become ?k_Store_become ?a_Store_write ?i_Store_write ?l_Store_write ?c_Store_write ?k_Store_write ?a_Store_drain ?i_Store_drain ?l_Store_drain ?c_Store_drain ?k_Store_drain ?a_Store_fence ?i_Store_fence ?l_Store_fence ?c_Store_fence ?k_Store_fence ?a_Store_read ?i_Store_read ?l_Store_read ?c_Store_read ?k_Store_read ?a_Store_memory ?i_Store_memory ?l_Store_memory ?c_Store_memory ?k_Store_memory ?a_Store_waits ?i_Store_waits ?l_Store_waits ?c_Store_waits ?k_Store_waits ?a_Store_cells ?i_Store_cells ?l_Store_cells ?c_Store_cells ?k_Store_cells ?a_law_stream ?l_law_stream ?c_law_stream ?k_law_stream ?a_law_take ?l_law_take ?c_law_take ?k_law_take ?a_law_cell ?l_law_cell ?c_law_cell ?k_law_cell ?a_law_worth ?l_law_worth ?c_law_worth ?k_law_worth ?a_law_looks ?l_law_looks ?c_law_looks ?k_law_looks ?a_law_drained ?l_law_drained ?c_law_drained ?k_law_drained ?a_law_step ?l_law_step ?c_law_step ?k_law_step ?a_law ?l_law ?c_law ?k_law ?pg_Store ?hd_Store ?po_Store ?sa_Store ?mk_Store ?kc_Store ?na_Store_held ?na_Store_rows ?n_int ?n_len ?n_list ?n_range ?n_reversed
    (case aC_Store => k_is)
    (case a_wall => k_is)
    (case l_wall => k_is)
    (case c_wall => k_is)
    (case k_wall => k_is)
    (case a_Store__init => k_is)
    (case i_Store__init => k_is)
    (case l_Store__init => k_is)
    (case c_Store__init => k_is)
    (case k_Store__init => k_is)
    (case a_Store_become => k_is)
    (case i_Store_become => k_is)
    (case l_Store_become => k_is)
    (case c_Store_become => k_is)
    (case k_Store_become => k_is)
    (case a_Store_write => k_is)
    (case i_Store_write => k_is)
    (case l_Store_write => k_is)
    (case c_Store_write => k_is)
    (case k_Store_write => k_is)
    (case a_Store_drain => k_is)
    (case i_Store_drain => k_is)
    (case l_Store_drain => k_is)
    (case c_Store_drain => k_is)
    (case k_Store_drain => k_is)
    (case a_Store_fence => k_is)
    (case i_Store_fence => k_is)
    (case l_Store_fence => k_is)
    (case c_Store_fence => k_is)
    (case k_Store_fence => k_is)
    (case a_Store_read => k_is)
    (case i_Store_read => k_is)
    (case l_Store_read => k_is)
    (case c_Store_read => k_is)
    (case k_Store_read => k_is)
    (case a_Store_memory => k_is)
    (case i_Store_memory => k_is)
    (case l_Store_memory => k_is)
    (case c_Store_memory => k_is)
    (case k_Store_memory => k_is)
    (case a_Store_waits => k_is)
    (case i_Store_waits => k_is)
    (case l_Store_waits => k_is)
    (case c_Store_waits => k_is)
    (case k_Store_waits => k_is)
    (case a_Store_cells => k_is)
    (case i_Store_cells => k_is)
    (case l_Store_cells => k_is)
    (case c_Store_cells => k_is)
    (case k_Store_cells => k_is)
    (case a_law_stream => k_is)
    (case l_law_stream => k_is)
    (case c_law_stream => k_is)
    (case k_law_stream => k_is)
    (case a_law_take => k_is)
    (case l_law_take => k_is)
    (case c_law_take => k_is)
    (case k_law_take => k_is)
    (case a_law_cell => k_is)
    (case l_law_cell => k_is)
    (case c_law_cell => k_is)
    (case k_law_cell => k_is)
    (case a_law_worth => k_is)
    (case l_law_worth => k_is)
    (case c_law_worth => k_is)
    (case k_law_worth => k_is)
    (case a_law_looks => k_is)
    (case l_law_looks => k_is)
    (case c_law_looks => k_is)
    (case k_law_looks => k_is)
    (case a_law_drained => k_is)
    (case l_law_drained => k_is)
    (case c_law_drained => k_is)
    (case k_law_drained => k_is)
    (case a_law_step => k_is)
    (case l_law_step => k_is)
    (case c_law_step => k_is)
    (case k_law_step => k_is)
    (case a_law => k_is)
    (case l_law => k_is)
    (case c_law => k_is)
    (case k_law => k_is)
    (case pg_Store => k_is)
    (case hd_Store => k_is)
    (case po_Store => k_is)
    (case sa_Store => k_is)
    (case mk_Store => k_is)
    (case kc_Store => k_is)
    (case na_Store_held => k_is)
    (case na_Store_rows => k_is)
    (case n_int => k_is)
    (case n_len => k_is)
    (case n_list => k_is)
    (case n_range => k_is)
    (case n_reversed => k_is)
#print axioms PySem.Challenge.cw_askring_k08_whole_each_deed_by_its_looks_holds

