import PyProof.Rows.All
import Wide.All
import OpenK.AllK
import Wide.FinOn
import Lean
import PyProof.EqAt
import PyProof.EqKinds
import PyProof.TupleCall
import KE.KTryMore
import PyProof.NsDelKeeps
import PyProof.StationsW
import KE.KItem
import KE.BitLaws
import KE.KRevIter
import PyProof.JoinWalk
import PyProof.CollectIter
import PyProof.StrCalls
import PyProof.DictStraight
import PyProof.StrWalks
import PyProof.Rows.Range3
import PySem.Challenge.RW_namehouses_k11_names_as_texts
set_option Elab.async false
section
set_option Elab.async false
set_option linter.all false
set_option maxRecDepth 100000
/-! THE HAND LAYER, for ints, bools, texts, own classes, LISTS and tuples (index, slices, in, append, pop ..), calls, loops. Paste it whole ahead of your own text; what your proof does not reach may be deleted. -/
namespace L2
open PySem PySem.Spec PyProof.Rows

/-- a key: an int or a str -/
abbrev Key := Sum Int Str
def keyIs : Key → Value → Bool
  | .inl k, v => Value.isInt k v
  | .inr x, v => Value.isStrOf x v
def keyH (w : World) : Key → Int
  | .inl k => hashInt k
  | .inr x => hashStr w x
theorem keyIs_shape : ∀ {k : Key} {v : Value}, keyIs k v = true → (∃ i t, k = Sum.inl i ∧ v = Value.int i t) ∨ (∃ x t, k = Sum.inr x ∧ v = Value.str x t)
  | .inl i, v, h => by
    obtain ⟨t, e⟩ := Value.isInt_shape (k := i) (v := v) h
    exact .inl ⟨i, t, rfl, e⟩
  | .inr x, v, h => by
    obtain ⟨t, e⟩ := Value.isStrOf_shape (x := x) (v := v) h
    exact .inr ⟨x, t, rfl, e⟩
theorem key_ll (a b : Int) : decide ((Sum.inl a : Key) = Sum.inl b) = (a == b) := by
  by_cases e : a = b
  · subst e; simp
  · have h : ¬ (Sum.inl a : Key) = Sum.inl b := fun q => e (Sum.inl.inj q)
    rw [decide_eq_false h]
    exact (beq_eq_false_iff_ne.mpr e).symm
theorem key_rr (a b : Str) : decide ((Sum.inr a : Key) = Sum.inr b) = decide (a = b) := by
  by_cases e : a = b
  · subst e; simp
  · have h : ¬ (Sum.inr a : Key) = Sum.inr b := fun q => e (Sum.inr.inj q)
    rw [decide_eq_false h, decide_eq_false e]
theorem key_lr (a : Int) (b : Str) : decide ((Sum.inl a : Key) = Sum.inr b) = false := decide_eq_false (fun q => nomatch q)
theorem key_rl (a : Str) (b : Int) : decide ((Sum.inr a : Key) = Sum.inl b) = false := decide_eq_false (fun q => nomatch q)

def mixKind (prog : Program) (w : World) : PySem.KeyKind prog w Key where
  is := keyIs
  hash := keyH w
  inj := fun v a b ha hb => by
    rcases keyIs_shape ha with ⟨i, t, rfl, rfl⟩ | ⟨x, t, rfl, rfl⟩
    · rcases keyIs_shape hb with ⟨j, u, rfl, e⟩ | ⟨y, u, rfl, e⟩
      · injection e with e1 _; rw [e1]
      · exact nomatch e
    · rcases keyIs_shape hb with ⟨j, u, rfl, e⟩ | ⟨y, u, rfl, e⟩
      · exact nomatch e
      · injection e with e1 _; rw [e1]
  byValue := fun k v h => by
    rcases keyIs_shape h with ⟨i, t, rfl, rfl⟩ | ⟨x, t, rfl, rfl⟩ <;> rfl
  pyHash := fun hv h => by
    rcases keyIs_shape hv with ⟨i, t, rfl, rfl⟩ | ⟨x, t, rfl, rfl⟩
    · exact wpAny_pyHash_int h
    · exact wpAny_pyHash_str h
  eqBool := fun hu hv h => by
    rcases keyIs_shape hu with ⟨i, t, rfl, rfl⟩ | ⟨x, t, rfl, rfl⟩
    · rcases keyIs_shape hv with ⟨j, u, rfl, rfl⟩ | ⟨y, u, rfl, rfl⟩
      · rw [key_ll] at h; exact wpAny_eqBool_int h
      · rw [key_lr] at h; exact SeqAt.EqAt.int_str i t y u _ _ _ _ h
    · rcases keyIs_shape hv with ⟨j, u, rfl, rfl⟩ | ⟨y, u, rfl, rfl⟩
      · rw [key_rl] at h; exact SeqAt.EqAt.str_int x t j u _ _ _ _ h
      · rw [key_rr] at h; exact wpAny_eqBool_str h
  «strs» := fun k x t v h => by
    rcases keyIs_shape h with ⟨i, u, rfl, e⟩ | ⟨y, u, rfl, e⟩
    · exact nomatch e
    · injection e with e1 _
      subst e1
      cases v <;> rfl

end L2

namespace L2
open PySem PySem.Spec PyProof.Rows

/-- a value, without the heap -/
inductive V where
  | non | bl (b : Bool) | int (i : Int) | str (x : Str) | byt (b : Array UInt8) | flt (b : UInt64) | ref (a : Addr) | ty (n : String)
  deriving DecidableEq

def RelV : V → Value → Prop
  | .non, u => u = Value.none
  | .bl b, u => u = Value.bool b
  | .int i, u => ∃ t, u = Value.int i t
  | .str x, u => ∃ t, u = Value.str x t
  | .byt b, u => ∃ t, u = Value.bytes b t
  | .flt b, u => ∃ t, u = Value.float b t
  | .ref a, u => u = Value.ref a
  | .ty n, u => u = Value.type n

abbrev Vals : List V → List Value → Prop := Paired RelV
theorem Vals.length {xs : List V} {us : List Value} (r : Vals xs us) : xs.length = us.length := Paired.length r
theorem Vals.get : ∀ {xs : List V} {us : List Value} {i : Nat} {x : V}, Vals xs us → xs[i]? = some x → ∃ u, us[i]? = some u ∧ RelV x u
  | _, _, _, _, .nil, e => by simp at e
  | _, _, 0, _, .cons r _, e => by simp at e; subst e; exact ⟨_, rfl, r⟩
  | _, _, i + 1, x, .cons _ t, e => by
    obtain ⟨u, h1, h2⟩ := Vals.get (i := i) (x := x) t (by simpa using e)
    exact ⟨u, by simpa using h1, h2⟩
theorem Vals.set {x : V} {u : Value} (r : RelV x u) : ∀ {xs : List V} {us : List Value} (i : Nat), Vals xs us → Vals (xs.set i x) (us.set i u)
  | _, _, _, .nil => .nil
  | _, _, 0, .cons _ t => .cons r t
  | _, _, i + 1, .cons q t => .cons q (Vals.set r i t)
theorem Vals.append : ∀ {xs ys : List V} {us ws : List Value}, Vals xs us → Vals ys ws → Vals (xs ++ ys) (us ++ ws)
  | _, _, _, _, .nil, s => s
  | _, _, _, _, .cons r t, s => .cons r (Vals.append t s)
theorem Vals.take : ∀ {xs : List V} {us : List Value} (n : Nat), Vals xs us → Vals (xs.take n) (us.take n)
  | _, _, 0, _ => .nil
  | _, _, _ + 1, .nil => .nil
  | _, _, n + 1, .cons r t => .cons r (Vals.take n t)
theorem Vals.drop : ∀ {xs : List V} {us : List Value} (n : Nat), Vals xs us → Vals (xs.drop n) (us.drop n)
  | _, _, 0, r => r
  | _, _, _ + 1, .nil => .nil
  | _, _, n + 1, .cons _ t => Vals.drop n t
def RelO : Option V → Option Value → Prop
  | some v, some u => RelV v u
  | none, none => True
  | _, _ => False
def KV {κ : Type} : List (κ × V) → List (κ × Value) → Prop := Paired fun (p : κ × V) (q : κ × Value) => p.1 = q.1 ∧ RelV p.2 q.2

/-- a key of a dict (00_mix): an int or a text -/
def kV : Key → V
  | .inl i => .int i
  | .inr x => .str x

/-- what stands at a tracked address -/
inductive HO where
  /-- a list -/
  | lst (xs : List V)
  /-- a tuple (never changes) -/
  | tup (xs : List V)
  /-- a dict whose keys are ints and texts; one whose keys are tuples of ints and texts (the empty one is both) -/
  | dK (kvs : List (Key × V)) | dT (kvs : List (List Key × V))
  /-- a set of ints: its members, its size -/
  | set (S : Int → Bool) (n : Nat)
  /-- an instance of the class at C, its dict at dx, its attributes -/
  | ins (C dx : Addr) (fs : List (Str × V))
  /-- the dict of the instance at x -/
  | own (x : Addr)
  /-- the dict of an exception -/
  | xd (fs : List (Str × V))
  /-- a bound method, f of x -/
  | met (f x : Addr)
  /-- a range object lo, lo + 1, .. below hi -/
  | rng (lo hi : Int)
  /-- a thing that is known to the object (the script; a dict while a loop walks it): read, never written while it is so -/
  | frz (o : Obj) (u : HO)
  /-- a code object's table -/
  | tbl (ps : Array Value)
  /-- any other thing, by what is true of its one object (a def of one's own: SetO a S n := HO.ext fun h => ..) -/
  | ext (φ : Heap → Prop)

abbrev Hp := Addr → Option HO
def upd (H : Hp) (a : Addr) (o : HO) : Hp := fun b => if b = a then some o else H b
theorem upd_same {H : Hp} {a : Addr} {o : HO} : upd H a o a = some o := by unfold upd; rw [if_pos rfl]
theorem upd_ne {H : Hp} {a b : Addr} {o : HO} (h : b ≠ a) : upd H a o b = H b := by unfold upd; rw [if_neg h]
theorem ne_of_none {H : Hp} {a b : Addr} {o : HO} (h : H a = some o) (h' : H b = none) : a ≠ b := by
  intro e; subst e; rw [h] at h'; cases h'

section
variable (P : Program) (w : World)
def ObjOk (H : Hp) (h : Heap) (a : Addr) : HO → Prop
  | .lst xs => xs.length ≤ sizeLine ∧ ∃ (its : List Value) (n : Nat), Vals xs its ∧ h.get? a = some { cls := .type "list", data := .seq its.toArray n }
  | .tup xs => xs.length ≤ sizeLine ∧ ∃ its : List Value, Vals xs its ∧ IsTup h a its.toArray
  | .dK kvs => kvs.length ≤ sizeLine ∧ (a == sysModules) = false ∧ ∃ vs, KV kvs vs ∧ h.DictOf (mixKind P w) a vs
  | .dT kvs => kvs.length ≤ sizeLine ∧ (a == sysModules) = false ∧ ∃ xs : List (List Key × Addr × Value),
      Paired (fun (p : List Key × V) (q : List Key × Addr × Value) => p.1 = q.1 ∧ H q.2.1 = some (.tup (p.1.map kV)) ∧ RelV p.2 q.2.2) kvs xs ∧
      ∃ o es ep, h.get? a = some o ∧ o.ExactDict ∧ o.data = .dict es ep ∧ es.toList = xs.map (entryOfKey (tupleKind (mixKind P w))) ∧ (xs.map (·.1)).Nodup
  | .set S n => h.SetOf (intKind P w) a S n
  | .ins C dx fs => H dx = some (.own a) ∧ fs.length ≤ 1000 ∧ dx ≠ a ∧ h.get? a = some (PySem.W.instObj C dx) ∧
      ∃ mA, h.Ns1 dx mA ∧ (∀ f, RelO (fs.lookup f) (mA f)) ∧ PySem.Within mA (fs.map (·.1))
  | .own _ => ∃ o, h.get? a = some o
  | .xd fs => ∃ mA, h.Ns1 a mA ∧ ∀ f, RelO (fs.lookup f) (mA f)
  | .rng lo hi => ∃ t u v, h.get? a = some { cls := .type "range", data := .fields #[.int lo t, .int hi u, .int 1 v] }
  | .frz o u => h.get? a = some o ∧ ObjOk H h a u
  | .tbl ps => h.get? a = some { cls := .none, data := .fields ps }
  | .met f x => h.get? a = some (PySem.W.methodObj (.ref f) (.ref x))
  | .ext φ => φ h ∧ (∃ o, h.get? a = some o) ∧ ∀ h1 h2 : Heap, φ h1 → (∀ o, h1.get? a = some o → h2.get? a = some o) → φ h2
/-- the abstract heap is held -/
def HOk (H : Hp) (h : Heap) : Prop := ∀ a o, H a = some o → ObjOk P w H h a o
end

section
variable {P : Program} {w : World} {H H' : Hp} {h h' : Heap} {a : Addr} {o : HO}
theorem ObjOk.lt (x : ObjOk P w H h a o) : a < h.objs.size := by
  cases o with
  | lst xs => obtain ⟨_, _, _, _, e⟩ := x; exact Heap.lt_size e
  | tup xs => obtain ⟨_, _, _, p⟩ := x; exact p.lt
  | dK kvs => obtain ⟨_, _, _, _, o, _, _, e, _⟩ := x; exact Heap.lt_size e
  | dT kvs => obtain ⟨_, _, _, _, o, _, _, e, _⟩ := x; exact Heap.lt_size e
  | set S n => obtain ⟨o, _, _, _, e, _⟩ := x; exact Heap.lt_size e
  | ins C dx fs => obtain ⟨_, _, _, e, _⟩ := x; exact Heap.lt_size e
  | own y => obtain ⟨_, e⟩ := x; exact Heap.lt_size e
  | xd fs => obtain ⟨_, ⟨_, _, _, e, _⟩, _⟩ := x; exact Heap.lt_size e
  | rng lo hi => obtain ⟨_, _, _, e⟩ := x; exact Heap.lt_size e
  | frz ob u => obtain ⟨e, _⟩ := x; exact Heap.lt_size e
  | tbl ps => exact Heap.lt_size (show h.get? a = some _ from x)
  | met f y => exact Heap.lt_size (show h.get? a = some _ from x)
  | ext φ => obtain ⟨_, ⟨_, e⟩, _⟩ := x; exact Heap.lt_size e
theorem Paired.mapP {α β : Type} {F G : α → β → Prop} : ∀ {l₁ : List α} {l₂ : List β}, Paired F l₁ l₂ → (∀ a b, F a b → G a b) → Paired G l₁ l₂
  | _, _, .nil, _ => .nil
  | _, _, .cons r t, f => .cons (f _ _ r) (Paired.mapP t f)
/-- what an object's description leans on: its own object, its own dict, the tuples -/
theorem ObjOk.stay (x : ObjOk P w H h a o) (k : ∀ b u, (b = a ∨ H b = some (.own a)) → h.get? b = some u → h'.get? b = some u)
    (ho : ∀ b, H b = some (.own a) → H' b = some (.own a)) (ht : ∀ b xs, H b = some (.tup xs) → H' b = some (.tup xs)) : ObjOk P w H' h' a o := by
  induction o with
  | lst xs => obtain ⟨z, its, n, r, e⟩ := x; exact ⟨z, its, n, r, k _ _ (.inl rfl) e⟩
  | tup xs => obtain ⟨z, its, r, ob, e, c⟩ := x; exact ⟨z, its, r, ob, k _ _ (.inl rfl) e, c⟩
  | dK kvs => obtain ⟨z, y, vs, r, ob, es, ep, e, c⟩ := x; exact ⟨z, y, vs, r, ob, es, ep, k _ _ (.inl rfl) e, c⟩
  | dT kvs =>
    obtain ⟨z, y, xs, r, ob, es, ep, e, c⟩ := x
    exact ⟨z, y, xs, Paired.mapP r fun p q z => ⟨z.1, ht _ _ z.2.1, z.2.2⟩, ob, es, ep, k _ _ (.inl rfl) e, c⟩
  | set S n => obtain ⟨ob, es, ep, t, e, c⟩ := x; exact ⟨ob, es, ep, t, k _ _ (.inl rfl) e, c⟩
  | ins C dx fs =>
    obtain ⟨d, z, ne, e, mA, ⟨od, es, ep, e2, c⟩, r⟩ := x
    exact ⟨ho _ d, z, ne, k _ _ (.inl rfl) e, mA, ⟨od, es, ep, k _ _ (.inr d) e2, c⟩, r⟩
  | own y => obtain ⟨ob, e⟩ := x; exact ⟨ob, k _ _ (.inl rfl) e⟩
  | xd fs => obtain ⟨mA, ⟨od, es, ep, e, c⟩, r⟩ := x; exact ⟨mA, ⟨od, es, ep, k _ _ (.inl rfl) e, c⟩, r⟩
  | rng lo hi => obtain ⟨t, u, v, e⟩ := x; exact ⟨t, u, v, k _ _ (.inl rfl) e⟩
  | frz ob u ih => obtain ⟨e, q⟩ := x; exact ⟨k _ _ (.inl rfl) e, ih q⟩
  | tbl ps =>
    have e : h.get? a = some { cls := .none, data := .fields ps } := x
    show h'.get? a = some { cls := .none, data := .fields ps }
    exact k a _ (.inl rfl) e
  | met f y =>
    have e : h.get? a = some (PySem.W.methodObj (.ref f) (.ref y)) := x
    show h'.get? a = some (PySem.W.methodObj (.ref f) (.ref y))
    exact k a _ (.inl rfl) e
  | ext φ => obtain ⟨p, ⟨o, e⟩, st⟩ := x; exact ⟨st _ _ p fun o q => k _ _ (.inl rfl) q, ⟨o, k _ _ (.inl rfl) e⟩, st⟩
theorem HOk.lt (x : HOk P w H h) (e : H a = some o) : a < h.objs.size := (x a o e).lt
theorem HOk.fresh (x : HOk P w H h) (e : h.objs.size ≤ a) : H a = none := by
  cases q : H a with
  | none => rfl
  | some u => exact absurd (Nat.lt_of_lt_of_le (x.lt q) e) (Nat.lt_irrefl _)
/-- every object of the heap is kept -/
theorem HOk.kept (x : HOk P w H h) (k : ∀ b u, h.get? b = some u → h'.get? b = some u) : HOk P w H h' := fun a o e =>
  (x a o e).stay (fun b u _ q => k b u q) (fun _ q => q) fun _ _ q => q
/-- a new object is laid and tracked -/
theorem HOk.laid (x : HOk P w H h) (k : ∀ b u, h.get? b = some u → h'.get? b = some u) (hp : h.objs.size ≤ a) (new : ObjOk P w (upd H a o) h' a o) : HOk P w (upd H a o) h' := fun b u e => by
  have hn := x.fresh hp
  by_cases hb : b = a
  · subst hb; rw [upd_same] at e; cases e; exact new
  · rw [upd_ne hb] at e
    exact (x b u e).stay (fun c v _ q => k c v q) (fun c q => by rw [upd_ne (ne_of_none q hn)]; exact q) fun c xs q => by rw [upd_ne (ne_of_none q hn)]; exact q
end

/-- what may be read as u: it is u, or a known u -/
def Rd (H : Hp) (a : Addr) (u : HO) : Prop := H a = some u ∨ ∃ o, H a = some (.frz o u)
theorem Rd.ok {P : Program} {w : World} {H : Hp} {h : Heap} {a : Addr} {u : HO} (r : Rd H a u) (x : HOk P w H h) : ObjOk P w H h a u := by
  rcases r with r | ⟨o, r⟩
  · exact x a u r
  · obtain ⟨_, q⟩ := x a _ r
    exact q
/-- what may be written -/
def Mut : Option HO → Prop
  | some (.lst _) => True
  | some (.dK _) => True
  | some (.dT _) => True
  | some (.set _ _) => True
  | some (.ins _ _ _) => True
  | some (.ext _) => True
  | _ => False
section
variable {P : Program} {w : World} {H : Hp} {h h' : Heap} {x e : Addr} {o' : HO}
/-- the object at e is changed: x itself, or the dict of the instance x -/
theorem HOk.write (ok : HOk P w H h) (mu : Mut (H x)) (he : e = x ∨ H e = some (.own x)) (k : ∀ b u, b ≠ e → h.get? b = some u → h'.get? b = some u) (heo : ∃ u, h'.get? e = some u)
    (new : ObjOk P w (upd H x o') h' x o') : HOk P w (upd H x o') h' := fun b u q => by
  have nown : ∀ c y, H c = some (.own y) → c ≠ x := fun c y r z => by subst z; rw [r] at mu; exact mu
  have ntup : ∀ c xs, H c = some (.tup xs) → c ≠ x := fun c xs r z => by subst z; rw [r] at mu; exact mu
  by_cases hb : b = x
  · subst hb; rw [upd_same] at q; cases q; exact new
  · rw [upd_ne hb] at q
    by_cases hbe : b = e
    · have q' : H b = some (.own x) := by
        rcases he with z | z
        · exact absurd (hbe.trans z) hb
        · rw [hbe]; exact z
      rw [q] at q'; cases q'
      obtain ⟨v, hv⟩ := heo
      exact ⟨v, by rw [hbe]; exact hv⟩
    · refine (ok b u q).stay (fun c v hc r => k c v ?_ r) (fun c r => by rw [upd_ne (nown c b r)]; exact r) fun c xs r => by rw [upd_ne (ntup c xs r)]; exact r
      rcases hc with rfl | hc
      · exact hbe
      · rintro rfl
        rcases he with z | z
        · exact nown c b hc z
        · rw [hc] at z; cases z; exact hb rfl
end

/-! ### kept unless tracked; of the frames at fs (the callers') the slots may change (an exception that passes writes there); of the records at ex (iterators) nothing is said -/
structure Un (fs ex : List Addr) (H H' : Hp) (h h' : Heap) : Prop where
  keep : ∀ b o, h.get? b = some o → H b = none → b ∉ fs → b ∉ ex → h'.get? b = some o
  slot : ∀ b o, h.get? b = some o → H b = none → b ∈ fs → b ∉ ex → ∃ sl, h'.get? b = some { o with slots := sl }
  free : ∀ b o, h.get? b = some o → H b = none → b ∉ ex → H' b = none
  there : ∀ b o, h.get? b = some o → b ∉ ex → ∃ o', h'.get? b = some o'
  tups : ∀ b xs, H b = some (.tup xs) → H' b = some (.tup xs)
  frzs : ∀ b o u, H b = some (.frz o u) → H' b = some (.frz o u)
  tbls : ∀ b ps, H b = some (.tbl ps) → ∃ more, H' b = some (.tbl (ps ++ more))
section
variable {fs fs' ex ex' : List Addr} {H H1 H2 : Hp} {h h1 h2 h' : Heap} {a x e : Addr} {o : HO}
theorem Un.any (u : Un fs ex H H1 h h1) {b : Addr} {ob : Obj} (q : h.get? b = some ob) (n : H b = none) (hx : b ∉ ex) : ∃ sl, h1.get? b = some { ob with slots := sl } := by
  by_cases hb : b ∈ fs
  · exact u.slot b ob q n hb hx
  · exact ⟨ob.slots, u.keep b ob q n hb hx⟩
theorem Un.kept (k : ∀ b u, h.get? b = some u → h'.get? b = some u) : Un fs ex H H h h' :=
  ⟨fun b ob q _ _ _ => k b ob q, fun b ob q _ _ _ => ⟨ob.slots, k b ob q⟩, fun _ _ _ n _ => n, fun b ob q _ => ⟨ob, k b ob q⟩, fun _ _ q => q, fun _ _ _ q => q, fun _ ps q => ⟨#[], by rw [q]; simp⟩⟩
theorem Un.refl : Un fs ex H H h h := Un.kept fun _ _ q => q
theorem Un.laid (k : ∀ b u, h.get? b = some u → h'.get? b = some u) (hp : h.objs.size ≤ a) (hn : H a = none) : Un fs ex H (upd H a o) h h' where
  keep := fun b u q _ _ _ => k b u q
  slot := fun b u q _ _ _ => ⟨u.slots, k b u q⟩
  free := fun b u q n _ => by rw [upd_ne (Nat.ne_of_lt (Nat.lt_of_lt_of_le (Heap.lt_size q) hp))]; exact n
  there := fun b u q _ => ⟨u, k b u q⟩
  tups := fun b xs q => by rw [upd_ne (ne_of_none q hn)]; exact q
  frzs := fun b u xs q => by rw [upd_ne (ne_of_none q hn)]; exact q
  tbls := fun b ps q => ⟨#[], by rw [upd_ne (ne_of_none q hn), q]; simp⟩
theorem Un.write (mu : Mut (H x)) (he : e = x ∨ H e = some (.own x)) (k : ∀ b u, b ≠ e → h.get? b = some u → h'.get? b = some u) (heo : ∃ u, h'.get? e = some u) : Un fs ex H (upd H x o) h h' := by
  have hx : ∀ b, H b = none → b ≠ x := fun b n z => by subst z; rw [n] at mu; exact mu
  have hb : ∀ b, H b = none → b ≠ e := fun b n z => by
    subst z
    rcases he with r | r
    · exact hx b n r
    · rw [n] at r; cases r
  have hm : ∀ b u, H b = some u → ¬ Mut (some u) → b ≠ x := fun b u q nm z => by subst z; rw [q] at mu; exact nm mu
  refine ⟨fun b u q n _ _ => k b u (hb b n) q, fun b u q n _ _ => ⟨u.slots, k b u (hb b n) q⟩, fun b u q n _ => by rw [upd_ne (hx b n)]; exact n, fun b u q _ => ?_,
    fun b xs q => by rw [upd_ne (hm b _ q fun z => z)]; exact q, fun b u xs q => by rw [upd_ne (hm b _ q fun z => z)]; exact q, fun b ps q => ⟨#[], by rw [upd_ne (hm b _ q fun z => z), q]; simp⟩⟩
  by_cases hbe : b = e
  · subst hbe; exact heo
  · exact ⟨u, k b u hbe q⟩
end

/-! ### the heap without what is tracked -/
def trk (h : Heap) (H : Hp) : List Addr := (List.range h.objs.size).filter fun a => (H a).isSome
def hidT (h : Heap) (H : Hp) : Heap := PySem.W.hideAll h (trk h H)
theorem hidT_size (h : Heap) (H : Hp) : (hidT h H).objs.size = h.objs.size := PySem.W.hideAll_size _ _
theorem hidT_get {h : Heap} {H : Hp} {b : Addr} {o : Obj} (e : h.get? b = some o) (n : H b = none) : (hidT h H).get? b = some o :=
  PySem.W.hideAll_get _ e fun hm => by
    have q : (H b).isSome = true := (List.mem_filter.mp hm).2
    rw [n] at q; simp at q
theorem of_hidT {h : Heap} {H : Hp} {b : Addr} {o : Obj} (e : (hidT h H).get? b = some o) : h.get? b = some o ∧ H b = none := by
  have e' : h.get? b = some o := PySem.W.of_hideAll (trk h H) e
  refine ⟨e', ?_⟩
  cases q : H b with
  | none => rfl
  | some x =>
    have hm : b ∈ trk h H := List.mem_filter.mpr ⟨List.mem_range.mpr (Heap.lt_size e'), by simp [q]⟩
    have z : (hidT h H).get? b = none := PySem.W.hideAll_none (trk h H) hm
    rw [z] at e; cases e

/-! ### OpenK's ledger, filled with every new object but one -/
def allNews (g h : Heap) (L : Addr) : List (Addr × Obj) := (List.range h.objs.size).filterMap fun a => if a = L ∨ (g.get? a).isSome = true then none else (h.get? a).map fun o => (a, o)
def rest (g h : Heap) (L d : Addr) : List (Addr × Obj) := (allNews g h L).filter fun p => decide (p.1 ≠ d)
end L2

namespace L2
open PySem PySem.Spec PyProof.Rows

/-- the module's facts, over the base: the heap at the law's entry without what is tracked there -/
structure Mod (K : PySem.W.Frag) (mg : Str → Option Value) (base : Heap) : Prop where
  kin : K.In base
  glob : base.Ns mainGlobals mg
  blt : ∃ mb, base.Ns builtinsNs mb ∧ ∀ x : Str, x ≠ "__name__" → mb x = bootBuiltins x
  nolimit : base.NoLimit

/-- the context: a def's body (or a comprehension's block) running. base: fixed through the whole law; s₀, H₀: the entry; outer: the frames whose slots others may change (a def's callers); stack: all frames that run;
   ex: iterators that were made ahead of the entry and are walked here (a comprehension's); fn: the names whose cells were made at the entry (a def: all; a comprehension's block: its own); calm: not within an except suite; pn: pins that every state bears; xe: what is wanted of an exception that leaves the code -/
structure Cx where
  prog : Program
  w : World
  K : PySem.W.Frag
  mg : Str → Option Value
  base : Heap
  A : Around
  N : List Str
  s₀ : Shared
  H₀ : Hp
  env : Env
  outer : List Env
  stack : List Env
  ex : List Addr
  fn : Str → Bool
  calm : Bool
  pn : List (Addr × Obj)
  xe : Value → Shared → Prop
/-- the callers' frames -/
def frs (l : List Env) : List Addr := l.filterMap (·.frame)
abbrev Cx.fs (X : Cx) : List Addr := frs X.outer

def Vis (sc : Scope) (x : Str) : Prop := sc.names.lookup x = some .local ∨ sc.names.lookup x = some .cell ∨ sc.names.lookup x = some .free
def Loc (sc : Scope) (x : Str) : Prop := sc.names.lookup x = some .local ∨ sc.names.lookup x = some .cell
def Look (env : Env) (h : Heap) (m : Str → Option Value) (x : Str) (u : Value) : Prop :=
  (env.kindOf x = some .local ∧ m x = some u) ∨ ((env.kindOf x = some .cell ∨ env.kindOf x = some .free) ∧ ∃ c, env.cells.lookup x = some c ∧ h.IsCell c (some u))

structure Cx.Ok (X : Cx) : Prop where
  mod : Mod X.K X.mg X.base
  kind : X.env.scope.kind = .function
  glob : X.env.globals = mainGlobals
  blt : X.env.builtins = builtinsNs
  above : X.s₀.heap.objs.size ≤ X.env.locals
  inj : ∀ x y c, X.env.cells.lookup x = some c → X.env.cells.lookup y = some c → x = y
  has : ∀ x, (X.env.kindOf x = some .cell ∨ X.env.kindOf x = some .free) → ∃ c, X.env.cells.lookup x = some c
  cab : ∀ x c, X.fn x = true → X.env.cells.lookup x = some c → X.s₀.heap.objs.size ≤ c
  hd : X.calm = true → X.A.handled = none
  frames : X.A.frames = some X.stack
  stk : X.stack = X.outer ∨ (X.stack = X.env :: X.outer ∧ X.env.frame = some X.env.locals)
  exf : ∀ b ∈ X.ex, b ≠ X.env.locals ∧ ∀ x c, X.env.cells.lookup x = some c → c ≠ b
  bs : ∀ b o, X.base.get? b = some o → X.s₀.heap.get? b = some o ∧ X.H₀ b = none
  bsz : X.base.objs.size ≤ X.s₀.heap.objs.size
  noex : ∀ b o, X.base.get? b = some o → b ∉ X.ex
  exfs : ∀ b ∈ X.ex, b ∉ X.fs
  funs : X.s₀.heap.FunFrames X.base X.outer
  frf : ∀ b ∈ X.fs, X.H₀ b = none

structure Inv (X : Cx) (pins : List (Addr × Obj)) (σ : List (Option V)) (H : Hp) (s : Shared) : Prop where
  ok : X.Ok
  os : s.os = X.s₀.os
  bare : AllBare s.gens
  base : Un X.fs X.ex X.H₀ H X.s₀.heap s.heap
  loc : ∃ m, s.heap.Ns X.env.locals m ∧ ∀ (i : Nat) (x : Str) (v : V), X.N[i]? = some x → σ[i]? = some (some v) → Vis X.env.scope x → ∃ u, RelV v u ∧ Look X.env s.heap m x u
  cell : ∀ x c, X.env.cells.lookup x = some c → ∃ v, s.heap.IsCell c v
  free : H X.env.locals = none
  freeC : ∀ x c, X.env.cells.lookup x = some c → H c = none
  pin : ∀ p ∈ X.pn ++ pins, s.heap.get? p.1 = some p.2 ∧ H p.1 = none ∧ p.1 ≠ X.env.locals ∧ p.1 ∉ X.fs ∧ ∀ v, p.2.data ≠ .cell v
  hok : HOk X.prog X.w H s.heap
  len : σ.length = X.N.length

section
variable {X : Cx} {pins : List (Addr × Obj)} {σ : List (Option V)} {H H' : Hp} {s : Shared} {h' : Heap}

theorem Cx.Ok.nofr (ok : X.Ok) {b : Addr} {o : Obj} (e : X.base.get? b = some o) : b ∉ X.fs := fun hb => by
  have := (ok.funs.mem hb).1
  rw [e] at this; cases this
theorem Inv.bs (I : Inv X pins σ H s) : ∀ b o, X.base.get? b = some o → s.heap.get? b = some o ∧ H b = none := fun b o e =>
  ⟨I.base.keep b o (I.ok.bs b o e).1 (I.ok.bs b o e).2 (I.ok.nofr e) (I.ok.noex b o e), I.base.free b o (I.ok.bs b o e).1 (I.ok.bs b o e).2 (I.ok.noex b o e)⟩
theorem Inv.bk (I : Inv X pins σ H s) : ∀ b o, X.base.get? b = some o → s.heap.get? b = some o := fun b o e => (I.bs b o e).1
theorem Inv.mod (I : Inv X pins σ H s) : Mod X.K X.mg X.base := I.ok.mod
theorem Inv.kIn (I : Inv X pins σ H s) : X.K.In s.heap := I.ok.mod.kin.keeps I.bk
theorem Inv.lt (I : Inv X pins σ H s) : X.env.locals < s.heap.objs.size := let ⟨_, hn, _⟩ := I.loc; hn.lt
theorem Inv.sz (I : Inv X pins σ H s) : X.s₀.heap.objs.size ≤ s.heap.objs.size := Nat.le_trans I.ok.above (Nat.le_of_lt I.lt)
theorem Inv.nofs (I : Inv X pins σ H s) {a : Addr} (h : s.heap.objs.size ≤ a) : a ∉ X.fs := fun hb => by
  obtain ⟨_, o, ho, _⟩ := I.ok.funs.mem hb
  exact absurd (Nat.lt_of_lt_of_le (Heap.lt_size ho) (Nat.le_trans I.sz h)) (Nat.lt_irrefl _)
theorem Inv.cne (I : Inv X pins σ H s) : ∀ x c, X.env.cells.lookup x = some c → c ≠ X.env.locals := fun x c e z => by
  obtain ⟨v, o, ho, hd⟩ := I.cell x c e
  obtain ⟨m, ⟨o', es, ep, ho', hd', _⟩, _⟩ := I.loc
  rw [z, ho'] at ho; cases ho; rw [hd'] at hd; cases hd
theorem Inv.funs (I : Inv X pins σ H s) : s.heap.FunFrames X.base X.outer := by
  have all : ∀ (l : List Env), (∀ b ∈ frs l, b ∈ X.fs) → X.s₀.heap.FunFrames X.base l → s.heap.FunFrames X.base l := by
    intro l
    induction l with
    | nil => intro _ _; trivial
    | cons env r ih =>
      intro hs hl
      obtain ⟨hk, ⟨L, o, hf, hn, ho, hd⟩, hr⟩ := hl
      have hL : L ∈ X.fs := hs L (by unfold frs; rw [List.filterMap_cons, hf]; exact List.mem_cons_self)
      obtain ⟨sl, e⟩ := I.base.slot L o ho (I.ok.frf L hL) hL fun z => I.ok.exfs L z hL
      exact ⟨hk, ⟨L, _, hf, hn, e, hd⟩, ih (fun b hb => hs b (by unfold frs; rw [List.filterMap_cons, hf]; exact List.mem_cons_of_mem _ hb)) hr⟩
  exact all X.outer (fun _ hb => hb) I.ok.funs

/-- the frames that run, for a call -/
theorem Inv.stack (I : Inv X pins σ H s) : s.heap.FunFrames X.base X.stack := by
  rcases I.ok.stk with e | ⟨e, hf⟩
  · rw [e]; exact I.funs
  · rw [e]
    obtain ⟨m, hn, _⟩ := I.loc
    refine .cons (by rw [I.ok.kind]; decide) hf hn ?_ I.funs
    exact Heap.get?_none_of_le (Nat.le_trans I.ok.bsz I.ok.above)
theorem Inv.stkSub (I : Inv X pins σ H s) : ∀ b ∈ frs X.stack, b ∈ X.env.locals :: X.fs := fun b hb => by
  rcases I.ok.stk with e | ⟨e, hf⟩
  · rw [e] at hb; exact List.mem_cons_of_mem _ hb
  · rw [e] at hb
    unfold frs at hb
    rw [List.filterMap_cons, hf] at hb
    exact hb
theorem Inv.stkFree (I : Inv X pins σ H s) : ∀ b ∈ frs X.stack, H b = none := fun b hb => by
  rcases List.mem_cons.mp (I.stkSub b hb) with e | hb
  · rw [e]; exact I.free
  · obtain ⟨_, o, ho, _⟩ := I.ok.funs.mem hb
    exact I.base.free b o ho (I.ok.frf b hb) fun z => I.ok.exfs b z hb

/-- THE STEP: the untracked objects but the frame and the records at ch are kept (the callers' frames up to slots), the frame's map is kept, the new abstract heap is held -/
theorem Inv.step {g' : Array GenState} {t' : Nat} {d' : Drawn} {ch : List Addr} (I : Inv X pins σ H s)
    (hch : ∀ b ∈ ch, (b ∈ X.ex ∨ X.s₀.heap.objs.size ≤ b) ∧ b ≠ X.env.locals ∧ (∀ x c, X.env.cells.lookup x = some c → c ≠ b) ∧ ∀ p ∈ X.pn ++ pins, p.1 ≠ b)
    (keep : ∀ b o, b ≠ X.env.locals → b ∉ X.fs → b ∉ ch → s.heap.get? b = some o → H b = none → h'.get? b = some o)
    (slot : ∀ b o, b ≠ X.env.locals → b ∈ X.fs → b ∉ ch → s.heap.get? b = some o → H b = none → ∃ sl, h'.get? b = some { o with slots := sl }) (free : ∀ b o, b ∉ ch → s.heap.get? b = some o → H b = none → H' b = none)
    (there : ∀ b o, b ∉ ch → s.heap.get? b = some o → ∃ o', h'.get? b = some o')
    (tups : ∀ b xs, H b = some (.tup xs) → H' b = some (.tup xs)) (frzs : ∀ b o u, H b = some (.frz o u) → H' b = some (.frz o u)) (tbls : ∀ b ps, H b = some (.tbl ps) → ∃ more, H' b = some (.tbl (ps ++ more)))
    (ns : ∀ m, s.heap.Ns X.env.locals m → h'.Ns X.env.locals m) (hok : HOk X.prog X.w H' h') (hg : AllBare g') :
    Inv X pins σ H' { s with heap := h', gens := g', drawn := d', toks := t' } := by
  have neL : ∀ b o, X.s₀.heap.get? b = some o → b ≠ X.env.locals := fun b o e => Nat.ne_of_lt (Nat.lt_of_lt_of_le (Heap.lt_size e) I.ok.above)
  have neC : ∀ b o, X.s₀.heap.get? b = some o → b ∉ X.ex → b ∉ ch := fun b o e hx hb => by
    rcases (hch b hb).1 with z | z
    · exact hx z
    · exact absurd (Nat.lt_of_lt_of_le (Heap.lt_size e) z) (Nat.lt_irrefl _)
  have cellK : ∀ x c, X.env.cells.lookup x = some c → ∀ v, s.heap.IsCell c v → h'.IsCell c v := fun x c e v ⟨o, ho, hd⟩ => by
    have nch : c ∉ ch := fun z => (hch c z).2.2.1 x c e rfl
    by_cases hc : c ∈ X.fs
    · obtain ⟨sl, q⟩ := slot c o (I.cne x c e) hc nch ho (I.freeC x c e)
      exact ⟨_, q, hd⟩
    · exact ⟨o, keep c o (I.cne x c e) hc nch ho (I.freeC x c e), hd⟩
  refine ⟨I.ok, I.os, hg, ⟨fun b o e n hb hx => ?_, fun b o e n hb hx => ?_, fun b o e n hx => ?_, fun b o e hx => ?_, fun b xs e => tups b xs (I.base.tups b xs e), fun b o xs e => frzs b o xs (I.base.frzs b o xs e), fun b ps e => ?_⟩, ?_, fun x c e => ?_, ?_, fun x c e => ?_, fun p hp => ?_, hok, I.len⟩
  · exact keep b o (neL b o e) hb (neC b o e hx) (I.base.keep b o e n hb hx) (I.base.free b o e n hx)
  · obtain ⟨sl, e1⟩ := I.base.slot b o e n hb hx
    obtain ⟨sl', e2⟩ := slot b _ (neL b o e) hb (neC b o e hx) e1 (I.base.free b o e n hx)
    exact ⟨sl', e2⟩
  · obtain ⟨o', e1⟩ := I.base.there b o e hx
    exact free b o' (neC b o e hx) e1 (I.base.free b o e n hx)
  · obtain ⟨o', e1⟩ := I.base.there b o e hx
    exact there b o' (neC b o e hx) e1
  · obtain ⟨m1, e1⟩ := I.base.tbls b ps e
    obtain ⟨m2, e2⟩ := tbls b _ e1
    exact ⟨m1 ++ m2, by rw [e2, Array.append_assoc]⟩
  · obtain ⟨m, hn, hl⟩ := I.loc
    refine ⟨m, ns m hn, fun i x v e1 e2 e3 => ?_⟩
    obtain ⟨u, r, l⟩ := hl i x v e1 e2 e3
    refine ⟨u, r, ?_⟩
    rcases l with l | ⟨k, c, e, z⟩
    · exact .inl l
    · exact .inr ⟨k, c, e, cellK x c e _ z⟩
  · obtain ⟨v, z⟩ := I.cell x c e
    exact ⟨v, cellK x c e v z⟩
  · obtain ⟨m, ⟨o, _, _, ho, _⟩, _⟩ := I.loc
    exact free _ o (fun z => (hch _ z).2.1 rfl) ho I.free
  · obtain ⟨v, o, ho, hd⟩ := I.cell x c e
    exact free c o (fun z => (hch c z).2.2.1 x c e rfl) ho (I.freeC x c e)
  · obtain ⟨e, n, ne, nf, d⟩ := I.pin p hp
    have nch : p.1 ∉ ch := fun z => (hch p.1 z).2.2.2 p hp rfl
    exact ⟨keep p.1 p.2 ne nf nch e n, free p.1 p.2 nch e n, ne, nf, d⟩
/-- .. where the frame's own object is kept too -/
theorem Inv.un {t' : Nat} (I : Inv X pins σ H s) (u : Un X.fs [] H H' s.heap h') (hok : HOk X.prog X.w H' h') : Inv X pins σ H' { s with heap := h', toks := t' } := by
  obtain ⟨m, ⟨o, es, ep, ho, r⟩, _⟩ := id I.loc
  obtain ⟨sl, hL⟩ := u.any ho I.free (by simp)
  exact I.step (g' := s.gens) (d' := s.drawn) (ch := []) (fun _ z => nomatch z) (fun b o _ hb _ e n => u.keep b o e n hb (by simp)) (fun b o _ hb _ e n => u.slot b o e n hb (by simp)) (fun b o _ e n => u.free b o e n (by simp)) (fun b o _ e => u.there b o e (by simp)) u.tups u.frzs u.tbls (fun m' hm => by
    obtain ⟨o', es', ep', ho', r'⟩ := hm
    rw [ho] at ho'; cases ho'
    exact ⟨_, es', ep', hL, r'⟩) hok I.bare
/-- behind a call (or a comprehension's block): the slots of this frame may have changed too, the records at ch may have turned -/
theorem Inv.call {g' : Array GenState} {t' : Nat} {d' : Drawn} {ch : List Addr} (I : Inv X pins σ H s) (u : Un (frs X.stack) ch H H' s.heap h') (hok : HOk X.prog X.w H' h') (hg : AllBare g')
    (hch : ∀ b ∈ ch, (b ∈ X.ex ∨ X.s₀.heap.objs.size ≤ b) ∧ b ≠ X.env.locals ∧ (∀ x c, X.env.cells.lookup x = some c → c ≠ b) ∧ ∀ p ∈ X.pn ++ pins, p.1 ≠ b) :
    Inv X pins σ H' { s with heap := h', gens := g', drawn := d', toks := t' } := by
  obtain ⟨m, ⟨o, es, ep, ho, r⟩, _⟩ := id I.loc
  obtain ⟨sl, hL⟩ := u.any ho I.free fun z => (hch _ z).2.1 rfl
  exact I.step (ch := ch) hch (fun b o hL hb hc e n => u.keep b o e n (fun z => (List.mem_cons.mp (I.stkSub b z)).elim hL hb) hc) (fun b o _ _ hc e n => u.any e n hc) (fun b o hc e n => u.free b o e n hc) (fun b o hc e => u.there b o e hc) u.tups u.frzs u.tbls (fun m' hm => by
    obtain ⟨o', es', ep', ho', r'⟩ := hm
    rw [ho] at ho'; cases ho'
    exact ⟨_, es', ep', hL, r'⟩) hok hg
/-- an untracked record of ours (an iterator) has turned -/
theorem Inv.turned {t' : Nat} {it : Addr} (I : Inv X pins σ H s) (k : ∀ b o, b ≠ it → s.heap.get? b = some o → h'.get? b = some o) (hn : H it = none) (hL : it ≠ X.env.locals)
    (h1 : it ∈ X.ex ∨ X.s₀.heap.objs.size ≤ it) (h2 : ∀ x c, X.env.cells.lookup x = some c → c ≠ it) (h3 : ∀ p ∈ X.pn ++ pins, p.1 ≠ it) : Inv X pins σ H { s with heap := h', toks := t' } := by
  have nit : ∀ b u, H b = some u → b ≠ it := fun b u e z => by rw [z, hn] at e; cases e
  refine I.step (g' := s.gens) (d' := s.drawn) (ch := [it]) (fun b hb => ?_) (fun b o _ _ hc e _ => k b o (fun z => hc (by simp [z])) e) (fun b o _ _ hc e _ => ⟨o.slots, k b o (fun z => hc (by simp [z])) e⟩) (fun _ _ _ _ n => n)
    (fun b o hc e => ⟨o, k b o (fun z => hc (by simp [z])) e⟩) (fun _ _ e => e) (fun _ _ _ e => e) (fun b ps e => ⟨#[], by rw [e]; simp⟩) (fun m hm => ?_) (fun b u e => ?_) I.bare
  · have e : b = it := by simpa using hb
    subst e
    exact ⟨h1, hL, h2, h3⟩
  · obtain ⟨o, es, ep, ho, r⟩ := hm
    exact ⟨o, es, ep, k _ o (Ne.symm hL) ho, r⟩
  · refine (I.hok b u e).stay (fun c v hc q => k c v ?_ q) (fun _ q => q) fun _ _ q => q
    rcases hc with z | z
    · rw [z]; exact nit b u e
    · exact nit c _ z
theorem Inv.tok (I : Inv X pins σ H s) (t : Nat) : Inv X pins σ H { s with toks := t } := I.un (h' := s.heap) (t' := t) Un.refl I.hok
/-- all objects kept -/
theorem Inv.kept {t' : Nat} (I : Inv X pins σ H s) (k : ∀ b u, s.heap.get? b = some u → h'.get? b = some u) : Inv X pins σ H { s with heap := h', toks := t' } := I.un (Un.kept k) (I.hok.kept k)
/-- a new object laid and tracked -/
theorem Inv.laid {a : Addr} {o : HO} {t' : Nat} (I : Inv X pins σ H s) (k : ∀ b u, s.heap.get? b = some u → h'.get? b = some u) (hp : s.heap.objs.size ≤ a) (new : ObjOk X.prog X.w (upd H a o) h' a o) :
    Inv X pins σ (upd H a o) { s with heap := h', toks := t' } := I.un (Un.laid k hp (I.hok.fresh hp)) (I.hok.laid k hp new)
/-- an object written -/
theorem Inv.write {x e : Addr} {o : HO} {t' : Nat} (I : Inv X pins σ H s) (mu : Mut (H x)) (he : e = x ∨ H e = some (.own x)) (k : ∀ b u, b ≠ e → s.heap.get? b = some u → h'.get? b = some u) (heo : ∃ u, h'.get? e = some u)
    (new : ObjOk X.prog X.w (upd H x o) h' x o) : Inv X pins σ (upd H x o) { s with heap := h', toks := t' } := I.un (Un.write mu he k heo) (I.hok.write mu he k heo new)
theorem Inv.pins_of {pins' : List (Addr × Obj)} (I : Inv X pins σ H s) (h : ∀ p ∈ pins', s.heap.get? p.1 = some p.2 ∧ H p.1 = none ∧ p.1 ≠ X.env.locals ∧ p.1 ∉ X.fs ∧ ∀ v, p.2.data ≠ .cell v) : Inv X pins' σ H s :=
  ⟨I.ok, I.os, I.bare, I.base, I.loc, I.cell, I.free, I.freeC, fun p hp => (List.mem_append.mp hp).elim (fun z => I.pin p (List.mem_append_left _ z)) (h p), I.hok, I.len⟩

theorem nodup_ix {N : List Str} (hN : N.Nodup) {i j : Nat} {x : Str} (a : N[i]? = some x) (b : N[j]? = some x) : i = j := by
  obtain ⟨h1, e1⟩ := List.getElem?_eq_some_iff.mp a
  obtain ⟨h2, e2⟩ := List.getElem?_eq_some_iff.mp b
  exact (List.getElem_inj hN).mp (e1.trans e2.symm)

/-- a name is stored; what changed -/
theorem store_ok2 {M : Model} {A : Around} {E : Value → Shared → Prop} {i : Nat} {x : Str} {v : V} {u : Value} {Q : Unit → Shared → Prop} (I : Inv X pins σ H s) (hN : X.N.Nodup) (hi : X.N[i]? = some x) (hx : Loc X.env.scope x) (r : RelV v u)
    (h : ∀ s', Inv X pins (σ.set i (some v)) H s' → (∃ a, Heap.SameBut a s.heap s'.heap ∧ (a = X.env.locals ∨ X.env.cells.lookup x = some a)) → Q () s') (hf : X.fn x = true ∨ X.env.scope.names.lookup x = some .local := by first | exact .inl rfl | exact .inr rfl | assumption) : wpAny M A (storeName X.env x u) Q E s := by
  obtain ⟨m, hn, hl⟩ := id I.loc
  have hcls : (X.env.scope.kind == .class || (X.env.scope.kind == .module && X.env.locals != X.env.globals)) = false := by rw [I.ok.kind]; rfl
  have hiσ : i < σ.length := by rw [I.len]; exact (List.getElem?_eq_some_iff.mp hi).1
  have cne := I.cne
  have tracked : ∀ {a : Addr} {h' : Heap}, (∃ o, s.heap.get? a = some o ∧ H a = none) → Heap.SameBut a s.heap h' → HOk X.prog X.w H h' := fun {a h'} ha hs b ob e => by
    obtain ⟨_, _, hfree⟩ := ha
    refine (I.hok b ob e).stay (fun c w' hc q => (hs.2 c ?_).trans q) (fun _ q => q) fun _ _ q => q
    rintro rfl
    rcases hc with rfl | hc
    · rw [hfree] at e; cases e
    · rw [hfree] at hc; cases hc
  rcases hx with hk | hk
  · refine wpAny_storeName_local hk hn (fun h' hn' hs => ?_) hcls
    obtain ⟨oL, _, _, hoL, _⟩ := id hn
    refine h _ ⟨I.ok, I.os, I.bare, ⟨fun b o e n hb hx => ?_, fun b o e n hb hx => ?_, I.base.free, fun b o e hx => ?_, I.base.tups, I.base.frzs, I.base.tbls⟩, ⟨_, hn', fun j y v' e1 e2 e3 => ?_⟩, fun y c e => ?_, I.free, I.freeC, fun p hp => ?_, tracked ⟨oL, hoL, I.free⟩ hs, by simpa using I.len⟩ ⟨_, hs, .inl rfl⟩
    · exact (hs.2 b (Nat.ne_of_lt (Nat.lt_of_lt_of_le (Heap.lt_size e) I.ok.above))).trans (I.base.keep b o e n hb hx)
    · obtain ⟨sl, e1⟩ := I.base.slot b o e n hb hx
      exact ⟨sl, (hs.2 b (Nat.ne_of_lt (Nat.lt_of_lt_of_le (Heap.lt_size e) I.ok.above))).trans e1⟩
    · obtain ⟨o', e1⟩ := I.base.there b o e hx
      exact ⟨o', (hs.2 b (Nat.ne_of_lt (Nat.lt_of_lt_of_le (Heap.lt_size e) I.ok.above))).trans e1⟩
    · by_cases hj : j = i
      · subst hj
        rw [hi] at e1; cases e1
        rw [List.getElem?_set_self hiσ] at e2
        cases e2
        exact ⟨u, r, .inl ⟨hk, by simp⟩⟩
      · rw [List.getElem?_set_ne (Ne.symm hj)] at e2
        obtain ⟨u', r', q⟩ := hl j y v' e1 e2 e3
        refine ⟨u', r', ?_⟩
        rcases q with ⟨k, e⟩ | ⟨k, c, e, z⟩
        · refine .inl ⟨k, ?_⟩
          have : y ≠ x := fun e => hj (nodup_ix hN e1 (e ▸ hi))
          simp [this, e]
        · exact .inr ⟨k, c, e, z.sameBut hs (cne y c e)⟩
    · obtain ⟨w', z⟩ := I.cell y c e
      exact ⟨w', z.sameBut hs (cne y c e)⟩
    · obtain ⟨e, n, ne, nf, d⟩ := I.pin p hp
      exact ⟨(hs.2 p.1 ne).trans e, n, ne, nf, d⟩
  · have hfn : X.fn x = true := by
      rcases hf with z | z
      · exact z
      · rw [z] at hk; cases hk
    obtain ⟨c, hc⟩ := I.ok.has x (.inl hk)
    obtain ⟨w', z⟩ := I.cell x c hc
    refine wpAny_storeName_cell I.ok.kind hk hc z (fun h' hc' hs => ?_)
    obtain ⟨oc, hoc, hocd⟩ := id z
    refine h { s with heap := h' } ⟨I.ok, I.os, I.bare, ⟨fun b o e n hb hx => ?_, fun b o e n hb hx => ?_, I.base.free, fun b o e hx => ?_, I.base.tups, I.base.frzs, I.base.tbls⟩, ⟨m, hn.sameBut hs (Ne.symm (cne x c hc)), fun j y v' e1 e2 e3 => ?_⟩, fun y c' e => ?_, I.free, I.freeC, fun p hp => ?_, tracked ⟨oc, hoc, I.freeC x c hc⟩ hs, by simpa using I.len⟩ ⟨c, hs, .inr hc⟩
    · exact (hs.2 b (Nat.ne_of_lt (Nat.lt_of_lt_of_le (Heap.lt_size e) (I.ok.cab x c hfn hc)))).trans (I.base.keep b o e n hb hx)
    · obtain ⟨sl, e1⟩ := I.base.slot b o e n hb hx
      exact ⟨sl, (hs.2 b (Nat.ne_of_lt (Nat.lt_of_lt_of_le (Heap.lt_size e) (I.ok.cab x c hfn hc)))).trans e1⟩
    · obtain ⟨o', e1⟩ := I.base.there b o e hx
      exact ⟨o', (hs.2 b (Nat.ne_of_lt (Nat.lt_of_lt_of_le (Heap.lt_size e) (I.ok.cab x c hfn hc)))).trans e1⟩
    · by_cases hj : j = i
      · subst hj
        rw [hi] at e1; cases e1
        rw [List.getElem?_set_self hiσ] at e2
        cases e2
        exact ⟨u, r, .inr ⟨.inl hk, c, hc, hc'⟩⟩
      · rw [List.getElem?_set_ne (Ne.symm hj)] at e2
        obtain ⟨u', r', q⟩ := hl j y v' e1 e2 e3
        refine ⟨u', r', ?_⟩
        rcases q with q | ⟨k, c', e, z'⟩
        · exact .inl q
        · refine .inr ⟨k, c', e, z'.sameBut hs ?_⟩
          rintro rfl
          exact hj (nodup_ix hN e1 (I.ok.inj _ _ _ e hc ▸ hi))
    · by_cases hcc : c' = c
      · subst hcc; exact ⟨_, hc'⟩
      · obtain ⟨w2, z2⟩ := I.cell y c' e
        exact ⟨w2, z2.sameBut hs hcc⟩
    · obtain ⟨e, n, ne, nf, d⟩ := I.pin p hp
      refine ⟨(hs.2 p.1 ?_).trans e, n, ne, nf, d⟩
      intro q
      rw [q, hoc] at e
      have q' : oc = p.2 := Option.some.inj e
      exact d w' (by rw [← q']; exact hocd)
theorem store_ok {M : Model} {A : Around} {E : Value → Shared → Prop} {i : Nat} {x : Str} {v : V} {u : Value} {Q : Unit → Shared → Prop} (I : Inv X pins σ H s) (hN : X.N.Nodup) (hi : X.N[i]? = some x) (hx : Loc X.env.scope x) (r : RelV v u)
    (h : ∀ s', Inv X pins (σ.set i (some v)) H s' → Q () s') (hf : X.fn x = true ∨ X.env.scope.names.lookup x = some .local := by first | exact .inl rfl | exact .inr rfl | assumption) : wpAny M A (storeName X.env x u) Q E s :=
  store_ok2 I hN hi hx r (fun s' I' _ => h s' I') hf
/-- behind a call or a block, the state as it is -/
theorem Inv.call' {s' : Shared} {ch : List Addr} (I : Inv X pins σ H s) (ho : s'.os = s.os) (u : Un (frs X.stack) ch H H' s.heap s'.heap) (hok : HOk X.prog X.w H' s'.heap) (hg : AllBare s'.gens)
    (hch : ∀ b ∈ ch, (b ∈ X.ex ∨ X.s₀.heap.objs.size ≤ b) ∧ b ≠ X.env.locals ∧ (∀ x c, X.env.cells.lookup x = some c → c ≠ b) ∧ ∀ p ∈ X.pn ++ pins, p.1 ≠ b) : Inv X pins σ H' s' := by
  obtain ⟨h', g', d', t', o'⟩ := s'
  have e : o' = s.os := ho
  subst e
  exact I.call (g' := g') (t' := t') (d' := d') u hok hg hch
end

/-! ### the judgements -/
/-- an exception: its class, its own dict's address (where it has one), the abstract heap behind it -/
abbrev XK := Value → Option Addr → Hp → Prop
abbrev St := List (Option V)
abbrev VK := V → Hp → Prop
/-- an expression's reading; a test's; an argument list's -/
abbrev TE := St → Hp → VK → Prop
abbrev TT := St → Hp → (Bool → Hp → Prop) → Prop
abbrev TA := St → Hp → (List V → Hp → Prop) → Prop
/-- what is wanted behind a statement -/
structure Ends where
  nx : St → Hp → Prop
  rt : VK
  bk : St → Hp → Prop := fun _ _ => False
  ct : St → Hp → Prop := fun _ _ => False
abbrev TS := Ends → St → Hp → Prop

def EP (X : Cx) (pins : List (Addr × Obj)) (σ : St) (Q : VK) (u : Value) (s' : Shared) : Prop := ∃ v H', Inv X pins σ H' s' ∧ RelV v u ∧ Q v H'
def TP (X : Cx) (pins : List (Addr × Obj)) (σ : St) (Q : Bool → Hp → Prop) (b : Bool) (s' : Shared) : Prop := ∃ H', Inv X pins σ H' s' ∧ Q b H'
def AP (X : Cx) (pins : List (Addr × Obj)) (σ : St) (Q : List V → Hp → Prop) (us : List Value) (s' : Shared) : Prop := ∃ vs H', Inv X pins σ H' s' ∧ Vals vs us ∧ Q vs H'
def SP (X : Cx) (pins : List (Addr × Obj)) (D : Ends) (f : Flow) (s' : Shared) : Prop :=
  match f with
  | .next => ∃ σ' H', Inv X pins σ' H' s' ∧ D.nx σ' H'
  | .brk => ∃ σ' H', Inv X pins σ' H' s' ∧ D.bk σ' H'
  | .cont => ∃ σ' H', Inv X pins σ' H' s' ∧ D.ct σ' H'
  | .ret u => ∃ v σ' H', Inv X pins σ' H' s' ∧ RelV v u ∧ D.rt v H'

def PE (X : Cx) (e : Expr) (t : TE) : Prop :=
  ∀ (pins : List (Addr × Obj)) (s : Shared) (σ : St) (H : Hp) (Q : VK), Inv X pins σ H s → t σ H Q → wpAny (model X.prog X.w) X.A (eval e X.env) (EP X pins σ Q) X.xe s
def PT (X : Cx) (e : Expr) (t : TT) : Prop :=
  ∀ (pins : List (Addr × Obj)) (s : Shared) (σ : St) (H : Hp) (Q : Bool → Hp → Prop), Inv X pins σ H s → t σ H Q → wpAny (model X.prog X.w) X.A (isTrue e X.env (eval e X.env)) (TP X pins σ Q) X.xe s
/-- a test whatever its 'whole' is (and, or) -/
def PW (X : Cx) (e : Expr) (t : TT) : Prop :=
  ∀ (whole : Sem Value) (pins : List (Addr × Obj)) (s : Shared) (σ : St) (H : Hp) (Q : Bool → Hp → Prop), Inv X pins σ H s → t σ H Q → wpAny (model X.prog X.w) X.A (isTrue e X.env whole) (TP X pins σ Q) X.xe s
theorem PW.pt {X : Cx} {e : Expr} {t : TT} (h : PW X e t) : PT X e t := h _
/-- an argument list (no star), from the left -/
def PA (X : Cx) (es : List Expr) (t : TA) : Prop :=
  ∀ (pos : Pos) (pins : List (Addr × Obj)) (s : Shared) (σ : St) (H : Hp) (Q : List V → Hp → Prop), Inv X pins σ H s → t σ H Q → wpAny (model X.prog X.w) X.A (spliced (backTo pos (starEach es X.env))) (AP X pins σ Q) X.xe s
def PS (X : Cx) (st : Stmt) (t : TS) : Prop :=
  ∀ (pins : List (Addr × Obj)) (s : Shared) (σ : St) (H : Hp) (D : Ends), Inv X pins σ H s → t D σ H → wpAny (model X.prog X.w) X.A (exec st X.env) (SP X pins D) X.xe s
def PSs (X : Cx) (st : List Stmt) (t : TS) : Prop :=
  ∀ (pins : List (Addr × Obj)) (s : Shared) (σ : St) (H : Hp) (D : Ends), Inv X pins σ H s → t D σ H → wpAny (model X.prog X.w) X.A (execs st X.env) (SP X pins D) X.xe s
/-- weaken the end -/
theorem thn {α : Type} {t : Sem α} {Q Q' : α → Shared → Prop} {M : Model} {A : Around} {E : Value → Shared → Prop} {s : Shared} (h : wpAny M A t Q E s) (hQ : ∀ a s, Q a s → Q' a s) : wpAny M A t Q' E s := wpAny_mono h hQ fun _ _ x => x
end L2

namespace L2
open PySem PySem.Spec PyProof.Rows
section
variable {X : Cx}

/-! ### names and constants -/
def tVar (i : Nat) : TE := fun σ H Q => ∃ v, σ[i]? = some (some v) ∧ Q v H
def tC (v : V) : TE := fun _ H Q => Q v H
theorem pe_var {i : Nat} {x : Str} {pos : Pos} (hN : X.N[i]? = some x) (hv : Vis X.env.scope x) (hd : (x == ("__debug__" : Str)) = false := by decide) (hcd : (x == ("__classdict__" : Str)) = false := by decide) : PE X (.Name x pos) (tVar i) := by
  intro pins s σ H Q I h
  obtain ⟨v, e, h⟩ := h
  obtain ⟨m, hn, hl⟩ := I.loc
  obtain ⟨u, r, l⟩ := hl i x v hN e hv
  have fin : EP X pins σ Q u s := ⟨v, H, I, r, h⟩
  rcases l with ⟨hk, hm⟩ | ⟨hk, c, hc, hcell⟩
  · exact wpAny_Name (wpAny_loadName_local I.ok.kind hk hn hm fin) hd
  · rcases hk with hk | hk
    · exact wpAny_Name (wpAny_loadName_cell I.ok.kind hk hc hcell fin) hd
    · exact wpAny_Name (wpAny_loadName_free I.ok.kind hk hc hcell fin hcd) hd
theorem pe_int {i j pos} : PE X (.Constant (.int i) j pos) (tC (.int i)) := fun _ _ _ H _ I h => wpAny_Constant_int ⟨.int i, H, I.tok _, ⟨_, rfl⟩, h⟩
theorem pe_bl {b j pos} : PE X (.Constant (.bool b) j pos) (tC (.bl b)) := fun _ _ _ H _ I h => Constant_bool ⟨.bl b, H, I, rfl, h⟩
theorem pe_non {j pos} : PE X (.Constant .none j pos) (tC .non) := fun _ _ _ H _ I h => Constant_none ⟨.non, H, I, rfl, h⟩
theorem pe_str {x j pos} : PE X (.Constant (.str x) j pos) (tC (.str x)) := fun _ _ _ H _ I h => Calls.Constant_str ⟨.str x, H, I.tok _, ⟨_, rfl⟩, h⟩

/-- a global name of the def -/
def Gl (X : Cx) (x : Str) : Prop := X.env.kindOf x = some .globalImplicit
theorem ld_glob {E : Value → Shared → Prop} {pins : List (Addr × Obj)} {s : Shared} {σ : St} {H : Hp} {x : Str} {u : Value} {pos : Pos} {Q : Value → Shared → Prop} (I : Inv X pins σ H s) (hg : Gl X x) (hm : X.mg x = some u) (h : Q u s)
    (hd : (x == ("__debug__" : Str)) = false := by decide) : wpAny (model X.prog X.w) X.A (eval (.Name x pos) X.env) Q E s :=
  Calls.Name_function_global I.ok.kind hg (Calls.loadGlobal_global (by rw [I.ok.glob]; exact I.mod.glob.keeps I.bk) hm h) hd
theorem ld_blt {E : Value → Shared → Prop} {pins : List (Addr × Obj)} {s : Shared} {σ : St} {H : Hp} {x : Str} {u : Value} {pos : Pos} {Q : Value → Shared → Prop} (I : Inv X pins σ H s) (hg : Gl X x) (hm : X.mg x = none) (hv : bootBuiltins x = some u) (h : Q u s)
    (hn : x ≠ "__name__" := by decide) (hd : (x == ("__debug__" : Str)) = false := by decide) : wpAny (model X.prog X.w) X.A (eval (.Name x pos) X.env) Q E s := by
  obtain ⟨mb, h1, h2⟩ := I.mod.blt
  exact Calls.Name_function_global I.ok.kind hg (Calls.loadGlobal_builtin (by rw [I.ok.glob]; exact I.mod.glob.keeps I.bk) hm (by rw [I.ok.blt]; exact h1.keeps I.bk) ((h2 x hn).trans hv) h) hd
/-- a module's constant, a class, a function, as a value -/
theorem pe_glob {x : Str} {v : V} {u : Value} {pos : Pos} (hg : Gl X x) (hm : X.mg x = some u) (r : RelV v u) (hd : (x == ("__debug__" : Str)) = false := by decide) : PE X (.Name x pos) (tC v) :=
  fun _ _ _ H _ I h => ld_glob I hg hm ⟨v, H, I, r, h⟩ hd
theorem pe_bltn {x : Str} {v : V} {u : Value} {pos : Pos} (hg : Gl X x) (hm : X.mg x = none) (hv : bootBuiltins x = some u) (r : RelV v u) (hn : x ≠ "__name__" := by decide) (hd : (x == ("__debug__" : Str)) = false := by decide) : PE X (.Name x pos) (tC v) :=
  fun _ _ _ H _ I h => ld_blt I hg hm hv ⟨v, H, I, r, h⟩ hn hd

/-! ### arithmetic -/
/-- two ints -/
def t2I (ta tb : TE) (k : Int → Int → Hp → Prop) : St → Hp → Prop := fun σ H => ta σ H fun x H1 => tb σ H1 fun y H2 => ∃ i j, x = .int i ∧ y = .int j ∧ k i j H2
def tAdd (ta tb : TE) : TE := fun σ H Q => t2I ta tb (fun i j H2 => Q (.int (i + j)) H2) σ H
def tSub (ta tb : TE) : TE := fun σ H Q => t2I ta tb (fun i j H2 => Q (.int (i - j)) H2) σ H
/-- the left factor below 2^64 -/
def tMul (ta tb : TE) : TE := fun σ H Q => t2I ta tb (fun i j H2 => (-(2 ^ 64) < i ∧ i < 2 ^ 64) ∧ Q (.int (i * j)) H2) σ H
variable {a b : Expr} {ta tb : TE} {pos : Pos}
/-! ### comparisons -/
def PC (X : Cx) (op : CmpOp) (a b : Expr) (t : TE) : Prop :=
  ∀ (pins : List (Addr × Obj)) (s : Shared) (σ : St) (H : Hp) (Q : VK), Inv X pins σ H s → t σ H Q →
    wpAny (model X.prog X.w) X.A (eval a X.env) (fun v s₁ => wpAny (model X.prog X.w) X.A (eval b X.env) (fun u s₂ => wpAny (model X.prog X.w) X.A (compareOp op v u) (EP X pins σ Q) X.xe s₂) X.xe s₁) X.xe s
def tCmp (p : Int → Int → Bool) (ta tb : TE) : TE := fun σ H Q => t2I ta tb (fun i j H2 => Q (.bl (p i j)) H2) σ H
abbrev tLt : TE → TE → TE := tCmp fun i j => decide (i < j)
abbrev tLe : TE → TE → TE := tCmp fun i j => decide (i ≤ j)
abbrev tGt : TE → TE → TE := tCmp fun i j => decide (j < i)
abbrev tGe : TE → TE → TE := tCmp fun i j => decide (j ≤ i)
abbrev tEqI : TE → TE → TE := tCmp fun i j => decide (i = j)
abbrev tNeI : TE → TE → TE := tCmp fun i j => !decide (i = j)
/-- is None -/
def tIsN (ta : TE) : TE := fun σ H Q => ta σ H fun x H1 => Q (.bl (decide (x = .non))) H1
def tNotN (ta : TE) : TE := fun σ H Q => ta σ H fun x H1 => Q (.bl (!decide (x = .non))) H1
/-- a comparison as a value, as a test -/
def tB (t : TE) : TT := fun σ H Q => t σ H fun x H1 => ∃ c, x = .bl c ∧ Q c H1
/-! ### and, or, not -/
variable {tA tB' : TT} {rest : List Expr}
def tAnd (t u : TT) : TT := fun σ H Q => t σ H fun c H1 => if c = true then u σ H1 Q else Q false H1
def tOr (t u : TT) : TT := fun σ H Q => t σ H fun c H1 => if c = true then Q true H1 else u σ H1 Q
def tNot (t : TT) : TT := fun σ H Q => t σ H fun c H1 => Q (!c) H1
theorem pw_and1 (ha : PT X a tA) : PW X (.BoolOp .And [a] pos) tA := by
  intro wh pins s σ H Q I h
  refine isTrue_and (thn (ha pins s σ H Q I h) fun c s1 e => ?_)
  cases c with
  | true => exact isTrue_and_nil e
  | false => exact e
theorem pw_or1 (ha : PT X a tA) : PW X (.BoolOp .Or [a] pos) tA := by
  intro wh pins s σ H Q I h
  refine isTrue_or (thn (ha pins s σ H Q I h) fun c s1 e => ?_)
  cases c with
  | false => exact isTrue_or_nil e
  | true => exact e
theorem pw_and (ha : PT X a tA) (hb : PW X (.BoolOp .And (b :: rest) pos) tB') : PW X (.BoolOp .And (a :: b :: rest) pos) (tAnd tA tB') := by
  intro wh pins s σ H Q I h
  refine isTrue_and (thn (ha pins s σ H _ I h) fun c s1 ⟨H1, I1, q1⟩ => ?_)
  cases c with
  | true => exact hb wh pins s1 σ H1 Q I1 q1
  | false => exact ⟨H1, I1, q1⟩
theorem pw_or (ha : PT X a tA) (hb : PW X (.BoolOp .Or (b :: rest) pos) tB') : PW X (.BoolOp .Or (a :: b :: rest) pos) (tOr tA tB') := by
  intro wh pins s σ H Q I h
  refine isTrue_or (thn (ha pins s σ H _ I h) fun c s1 ⟨H1, I1, q1⟩ => ?_)
  cases c with
  | true => exact ⟨H1, I1, q1⟩
  | false => exact hb wh pins s1 σ H1 Q I1 q1
theorem pt_not (ha : PT X a tA) : PT X (.UnaryOp .Not a pos) (tNot tA) := by
  intro pins s σ H Q I h
  exact isTrue_not (ha pins s σ H (fun c H1 => Q (!c) H1) I h)
/-- .. as values (bools) -/
def tAndV (ta tb : TE) : TE := fun σ H Q => ta σ H fun x H1 => ∃ c, x = .bl c ∧ if c = true then tb σ H1 Q else Q (.bl false) H1
def tOrV (ta tb : TE) : TE := fun σ H Q => ta σ H fun x H1 => ∃ c, x = .bl c ∧ if c = true then Q (.bl true) H1 else tb σ H1 Q
def tNotV (ta : TE) : TE := fun σ H Q => ta σ H fun x H1 => ∃ c, x = .bl c ∧ Q (.bl (!c)) H1
theorem pe_one {op} {t : TE} (h : PE X a t) : PE X (.BoolOp op [a] pos) t := fun pins s σ H Q I hw => BoolOp_one (h pins s σ H Q I hw)
/-- a if t else b -/
def tIf (t : TT) (ta tb : TE) : TE := fun σ H Q => t σ H fun c H1 => if c = true then ta σ H1 Q else tb σ H1 Q
end
end L2

namespace L2
open PySem PySem.Spec PyProof.Rows

/-! ### a list, a tuple that is read: tracked, frozen, or an object of the module -/
def SqL (K : PySem.W.Frag) (H : Hp) (a : Addr) (xs : List V) : Prop :=
  Rd H a (.lst xs) ∨
    ∃ (o : Obj) (its : Array Value) (n : Nat), K.lookup a = some o ∧ o.cls = .type "list" ∧ o.dict = none ∧ o.data = .seq its n ∧ its.size ≤ sizeLine ∧ Vals xs its.toList
def SqT (K : PySem.W.Frag) (H : Hp) (a : Addr) (xs : List V) : Prop :=
  Rd H a (.tup xs) ∨
    ∃ (o : Obj) (its : Array Value) (n : Nat), K.lookup a = some o ∧ o.cls = .type "tuple" ∧ o.data = .seq its n ∧ its.size ≤ sizeLine ∧ Vals xs its.toList
def absV : Value → Option V
  | .none => some .non
  | .bool b => some (.bl b)
  | .int i _ => some (.int i)
  | .str x _ => some (.str x)
  | .bytes b _ => some (.byt b)
  | .float b _ => some (.flt b)
  | .ref a => some (.ref a)
  | .type n => some (.ty n)
  | _ => none
theorem RelV.abs {x : V} {u : Value} (r : RelV x u) : absV u = some x := by
  cases x with
  | non => cases r; rfl
  | bl _ => cases r; rfl
  | int _ => obtain ⟨t, rfl⟩ := r; rfl
  | str _ => obtain ⟨t, rfl⟩ := r; rfl
  | byt _ => obtain ⟨t, rfl⟩ := r; rfl
  | flt _ => obtain ⟨t, rfl⟩ := r; rfl
  | ref _ => cases r; rfl
  | ty _ => cases r; rfl
theorem RelV.inj {x y : V} {u : Value} (r : RelV x u) (q : RelV y u) : x = y := Option.some.inj (r.abs.symm.trans q.abs)
theorem Vals.inj : ∀ {xs ys : List V} {us : List Value}, Vals xs us → Vals ys us → xs = ys
  | _, _, _, .nil, .nil => rfl
  | _, _, _, .cons r t, .cons r' t' => by rw [r.inj r', Vals.inj t t']
section
variable {X : Cx} {pins : List (Addr × Obj)} {σ : St} {H : Hp} {s : Shared} {a : Addr} {xs ys : List V}
theorem Inv.list (I : Inv X pins σ H s) (h : SqL X.K H a xs) : ∃ its : List Value, Vals xs its ∧ PlainL s.heap a its.toArray ∧ xs.length ≤ sizeLine := by
  rcases h with h | ⟨o, its, n, hk, hc, hd, hs, hz, r⟩
  · obtain ⟨z, its, n, r, e⟩ := h.ok I.hok
    exact ⟨its, r, ⟨_, n, e, rfl, rfl, rfl⟩, z⟩
  · refine ⟨its.toList, r, ⟨o, n, I.kIn a o hk, hc, hd, by simpa using hs⟩, ?_⟩
    have e := r.length
    simp only [Array.length_toList] at e
    omega
theorem Inv.tuple (I : Inv X pins σ H s) (h : SqT X.K H a xs) : ∃ its : List Value, Vals xs its ∧ IsTup s.heap a its.toArray ∧ xs.length ≤ sizeLine := by
  rcases h with h | ⟨o, its, n, hk, hc, hs, hz, r⟩
  · obtain ⟨z, its, r, p⟩ := h.ok I.hok
    exact ⟨its, r, p, z⟩
  · refine ⟨its.toList, r, ⟨o, I.kIn a o hk, hc, n, by simpa using hs⟩, ?_⟩
    have e := r.length
    simp only [Array.length_toList] at e
    omega
theorem Inv.list_inj (I : Inv X pins σ H s) (h : SqL X.K H a xs) (h' : SqL X.K H a ys) : xs = ys := by
  obtain ⟨its, r, ⟨o, n, e, _, _, d⟩, _⟩ := I.list h
  obtain ⟨its', r', ⟨o', n', e', _, _, d'⟩, _⟩ := I.list h'
  rw [e] at e'; cases e'
  rw [d] at d'
  injection d' with d1 _
  have : its = its' := by simpa using congrArg Array.toList d1
  subst this
  exact r.inj r'
theorem Inv.tuple_inj (I : Inv X pins σ H s) (h : SqT X.K H a xs) (h' : SqT X.K H a ys) : xs = ys := by
  obtain ⟨its, r, ⟨o, e, _, n, d⟩, _⟩ := I.tuple h
  obtain ⟨its', r', ⟨o', e', _, n', d'⟩, _⟩ := I.tuple h'
  rw [e] at e'; cases e'
  rw [d] at d'
  injection d' with d1 _
  have : its = its' := by simpa using congrArg Array.toList d1
  subst this
  exact r.inj r'
end

/-! ### another wish about exceptions -/
abbrev Cx.wish (X : Cx) (E : Value → Shared → Prop) : Cx := { X with xe := E }
/-- no exception leaves -/
abbrev Cx.nox (X : Cx) : Cx := X.wish fun _ _ => False
theorem Cx.Ok.wish {X : Cx} (ok : X.Ok) (E : Value → Shared → Prop) : (X.wish E).Ok :=
  ⟨ok.mod, ok.kind, ok.glob, ok.blt, ok.above, ok.inj, ok.has, ok.cab, ok.hd, ok.frames, ok.stk, ok.exf, ok.bs, ok.bsz, ok.noex, ok.exfs, ok.funs, ok.frf⟩
theorem Cx.Ok.unwish {X : Cx} {E : Value → Shared → Prop} (ok : (X.wish E).Ok) : X.Ok :=
  ⟨ok.mod, ok.kind, ok.glob, ok.blt, ok.above, ok.inj, ok.has, ok.cab, ok.hd, ok.frames, ok.stk, ok.exf, ok.bs, ok.bsz, ok.noex, ok.exfs, ok.funs, ok.frf⟩
section
variable {X : Cx} {pins : List (Addr × Obj)} {σ : St} {H : Hp} {s : Shared} {E : Value → Shared → Prop}
theorem Inv.wish (I : Inv X pins σ H s) (E : Value → Shared → Prop) : Inv (X.wish E) pins σ H s := ⟨I.ok.wish E, I.os, I.bare, I.base, I.loc, I.cell, I.free, I.freeC, I.pin, I.hok, I.len⟩
theorem Inv.unwish (I : Inv (X.wish E) pins σ H s) : Inv X pins σ H s := ⟨I.ok.unwish, I.os, I.bare, I.base, I.loc, I.cell, I.free, I.freeC, I.pin, I.hok, I.len⟩
theorem SP.unwish {D : Ends} {f : Flow} {s' : Shared} (h : SP (X.wish E) pins D f s') : SP X pins D f s' := by
  cases f with
  | next => obtain ⟨σ', H', I, q⟩ := h; exact ⟨σ', H', I.unwish, q⟩
  | brk => obtain ⟨σ', H', I, q⟩ := h; exact ⟨σ', H', I.unwish, q⟩
  | cont => obtain ⟨σ', H', I, q⟩ := h; exact ⟨σ', H', I.unwish, q⟩
  | ret u => obtain ⟨v, σ', H', I, r, q⟩ := h; exact ⟨v, σ', H', I.unwish, r, q⟩
end

/-! ### blocks and small statements -/
section
variable {X : Cx} {st : Stmt} {rest : List Stmt} {t u : TS} {e : Expr} {te : TE} {pos : Pos}
def tNext : TS := fun D σ H => D.nx σ H
def tSeq (t u : TS) : TS := fun D σ H => t { D with nx := u D } σ H
theorem pss_nil : PSs X [] tNext := fun _ _ σ H _ I h => wpAny_execs_nil ⟨σ, H, I, h⟩
theorem pss_cons (h1 : PS X st t) (h2 : PSs X rest u) : PSs X (st :: rest) (tSeq t u) := by
  intro pins s σ H D I h
  refine wpAny_execs_cons (thn (h1 pins s σ H { D with nx := u D } I h) fun f s1 q => ?_)
  cases f with
  | next =>
    obtain ⟨σ', H', I', q⟩ := q
    exact h2 pins s1 σ' H' D I' q
  | ret v => exact q
  | brk => exact q
  | cont => exact q
def tBreak : TS := fun D σ H => D.bk σ H
def tCont : TS := fun D σ H => D.ct σ H
theorem ps_pass : PS X (.Pass pos) tNext := fun _ _ σ H _ I h => wpAny_Pass ⟨σ, H, I, h⟩
theorem ps_break : PS X (.Break pos) tBreak := fun _ _ σ H _ I h => wpAny_Break ⟨σ, H, I, h⟩
theorem ps_continue : PS X (.Continue pos) tCont := fun _ _ σ H _ I h => wpAny_Continue ⟨σ, H, I, h⟩
/-- in a def's body nothing is shown -/
theorem Inv.quiet {pins : List (Addr × Obj)} {σ : St} {H : Hp} {s : Shared} (I : Inv X pins σ H s) : interactive X.env = false := by simp [interactive, I.ok.kind]
/-- an expression whose value is dropped -/
def tDrop (te : TE) : TS := fun D σ H => te σ H fun _ H1 => D.nx σ H1
theorem ps_expr (he : PE X e te) (hs : swapsWith e none pos.line X.env = pure false := by rfl) : PS X (.Expr e pos) (tDrop te) := by
  intro pins s σ H D I h
  exact wpAny_Expr_any (thn (he pins s σ H _ I h) fun v s1 ⟨x, H1, I1, r1, q1⟩ => ⟨σ, H1, I1, q1⟩) I.quiet hs
def tRet (te : TE) : TS := fun D σ H => te σ H D.rt
theorem ps_ret (he : PE X e te) : PS X (.Return (some e) pos) (tRet te) := by
  intro pins s σ H D I h
  exact wpAny_Return_some (thn (he pins s σ H _ I h) fun v s1 ⟨x, H1, I1, r1, q1⟩ => ⟨x, σ, H1, I1, r1, q1⟩)
def tRetN : TS := fun D _ H => D.rt .non H
theorem ps_retN : PS X (.Return none pos) tRetN := fun _ _ σ H _ I h => wpAny_Return_none ⟨.non, σ, H, I, rfl, h⟩
def tIfS (c : TT) (t u : TS) : TS := fun D σ H => c σ H fun b H1 => if b = true then t D σ H1 else u D σ H1
theorem ps_if {c : Expr} {a b : List Stmt} {tc : TT} (hc : PT X c tc) (ha : PSs X a t) (hb : PSs X b u) : PS X (.If c a b pos) (tIfS tc t u) := by
  intro pins s σ H D I h
  refine wpAny_If (thn (hc pins s σ H _ I h) fun d s1 ⟨H1, I1, q1⟩ => ?_)
  cases d with
  | true => exact ha pins s1 σ H1 D I1 q1
  | false => exact hb pins s1 σ H1 D I1 q1
/-- code that the proof never comes to -/
def tNever : TS := fun _ _ _ => False
end

/-! ### targets -/
abbrev TG := V → St → Hp → (St → Hp → Prop) → Prop
abbrev TGs := List V → St → Hp → (St → Hp → Prop) → Prop
def PG (X : Cx) (target : Expr) (t : TG) : Prop :=
  ∀ (pins : List (Addr × Obj)) (s : Shared) (σ : St) (H : Hp) (v : V) (u : Value) (Q : St → Hp → Prop), Inv X pins σ H s → RelV v u → t v σ H Q →
    wpAny (model X.prog X.w) X.A (assign target X.env u) (fun _ s' => ∃ σ' H', Inv X pins σ' H' s' ∧ Q σ' H') X.xe s
/-- several targets, one after another -/
def PGs (X : Cx) (ts : List Expr) (t : TGs) : Prop :=
  ∀ (pins : List (Addr × Obj)) (s : Shared) (σ : St) (H : Hp) (vs : List V) (us : List Value) (Q : St → Hp → Prop), Inv X pins σ H s → Vals vs us → t vs σ H Q →
    wpAny (model X.prog X.w) X.A (assignInOrder ((assignEach ts X.env).map (·.2)) us) (fun _ s' => ∃ σ' H', Inv X pins σ' H' s' ∧ Q σ' H') X.xe s
/-- o[i] = v, by values -/
abbrev TSet := V → V → V → Hp → (Hp → Prop) → Prop
def PSet (X : Cx) (t : TSet) : Prop :=
  ∀ (pins : List (Addr × Obj)) (s : Shared) (σ : St) (H : Hp) (o i v : V) (ov iv u : Value) (Q : Hp → Prop), Inv X pins σ H s → RelV o ov → RelV i iv → RelV v u → t o i v H Q →
    wpAny (model X.prog X.w) X.A (setItem ov iv u) (fun _ s' => ∃ H', Inv X pins σ H' s' ∧ Q H') X.xe s
/-- a op= b, by values -/
abbrev TIp := V → V → Hp → VK → Prop
def PIp (X : Cx) (op : Operator) (t : TIp) : Prop :=
  ∀ (pins : List (Addr × Obj)) (s : Shared) (σ : St) (H : Hp) (x y : V) (v u : Value) (Q : VK), Inv X pins σ H s → RelV x v → RelV y u → t x y H Q →
    wpAny (model X.prog X.w) X.A (inplaceOp op v u) (EP X pins σ Q) X.xe s
section
variable {X : Cx} {pos : Pos}
def gName (i : Nat) : TG := fun v σ H Q => Q (σ.set i (some v)) H
theorem pg_name {i : Nat} {x : Str} (hN : X.N.Nodup) (hi : X.N[i]? = some x) (hx : Loc X.env.scope x) (hf : X.fn x = true ∨ X.env.scope.names.lookup x = some .local := by first | exact .inl rfl | exact .inr rfl | assumption) : PG X (.Name x pos) (gName i) := by
  intro pins s σ H v u Q I r h
  exact wpAny_assign_Name (store_ok I hN hi hx r (fun s' I' => ⟨_, H, I', h⟩) hf)
def gNil : TGs := fun vs σ H Q => vs = [] ∧ Q σ H
def gCons (t : TG) (u : TGs) : TGs := fun vs σ H Q => ∃ v r, vs = v :: r ∧ t v σ H fun σ' H' => u r σ' H' Q
theorem pgs_nil : PGs X [] gNil := by
  intro pins s σ H vs us Q I r h
  obtain ⟨e, h⟩ := h
  subst e
  cases r
  exact assignInOrder_nil ⟨σ, H, I, h⟩
theorem pgs_cons {e : Expr} {es : List Expr} {t : TG} {u : TGs} (h1 : PG X e t) (h2 : PGs X es u)
    (hs : (assignEach (e :: es) X.env).map (·.2) = assign e X.env :: (assignEach es X.env).map (·.2) := by rfl) : PGs X (e :: es) (gCons t u) := by
  intro pins s σ H vs us Q I r h
  obtain ⟨v, vr, e1, h⟩ := h
  subst e1
  cases r with
  | cons r rr =>
    rw [hs]
    refine assignInOrder_cons (thn (h1 pins s σ H _ _ _ I r h) fun _ s1 ⟨σ1, H1, I1, q1⟩ => ?_)
    exact h2 pins s1 σ1 H1 _ _ Q I1 rr q1
/-- (a, b, ..) = a tuple of that length -/
def gTup (K : PySem.W.Frag) (n : Nat) (t : TGs) : TG := fun v σ H Q => ∃ a xs, v = .ref a ∧ SqT K H a xs ∧ xs.length = n ∧ t xs σ H Q
theorem pg_tup {es : List Expr} {k : Nat} {t : TGs} {n : Nat} (hc : X.calm = true) (h : PGs X es t)
    (hn : (assignEach es X.env).length = n := by rfl) (hst : (assignEach es X.env).findIdx? (·.1) = none := by rfl) : PG X (.Tuple es k pos) (gTup X.K n t) := by
  intro pins s σ H v u Q I r hw
  obtain ⟨a, xs, e1, hq, hl, hw⟩ := hw
  subst e1
  cases r
  obtain ⟨its, rv, ht, hz⟩ := I.tuple hq
  refine assign_Tuple_tuple (I.ok.hd hc) ht (by simp [hn, ← hl, rv.length]) hst fun h' hx => ?_
  have I1 : Inv X pins σ H { s with heap := h' } := I.kept (t' := s.toks) fun b o e => hx b o (Nat.ne_of_lt (Heap.lt_size e)) e
  exact h pins _ σ H xs _ Q I1 (by simpa using rv) hw
/-- o[i] = .. -/
def gSub (to ti : TE) (t : TSet) : TG := fun v σ H Q => to σ H fun o H1 => ti σ H1 fun i H2 => t o i v H2 fun H3 => Q σ H3
theorem pg_sub {o i : Expr} {to ti : TE} {t : TSet} (ho : PE X o to) (hi : PE X i ti) (hs : PSet X t)
    (ha : ∀ v, assign (.Subscript o i pos) X.env v = (do
      let ov ← holding [v] (eval o X.env)
      let iv ← holding [v, ov] (eval i X.env)
      standAt pos
      holding [v, ov, iv] (setItem ov iv v)
      release [v, ov, iv] []) := by intro _; rfl) : PG X (.Subscript o i pos) (gSub to ti t) := by
  intro pins s σ H v u Q I r h
  rw [ha]
  refine wpAny_bind (wpAny_holding (thn (ho pins s σ H _ I h) fun ov s1 ⟨x, H1, I1, r1, q1⟩ => ?_))
  refine wpAny_bind (wpAny_holding (thn (hi pins s1 σ H1 _ I1 q1) fun iv s2 ⟨y, H2, I2, r2, q2⟩ => ?_))
  refine wpAny_bind (wpAny_standAt (wpAny_bind (wpAny_holding (thn (hs pins s2 σ H2 x y v ov iv u _ I2 r1 r2 r q2) fun _ s3 ⟨H3, I3, q3⟩ => ?_))))
  exact wpAny_release ⟨σ, H3, I3, q3⟩
/-- target = value -/
def tAsg (te : TE) (g : TG) : TS := fun D σ H => te σ H fun x H1 => g x σ H1 D.nx
theorem ps_asg {tg e : Expr} {te : TE} {g : TG} (he : PE X e te) (hg : PG X tg g) (hs : swapsWithSole [tg] e pos.line X.env = pure false := by rfl) (hw : swappedStores [tg] e X.env = pure none := by rfl)
    (h1 : (assignEach [tg] X.env).map (·.2) = [assign tg X.env] := by rfl) : PS X (.Assign [tg] e pos) (tAsg te g) := by
  intro pins s σ H D I h
  refine wpAny_Assign_stores (thn (he pins s σ H _ I h) fun v s1 ⟨x, H1, I1, r1, q1⟩ => ?_) hs hw
  rw [h1]
  exact thn (hg pins s1 σ H1 x v _ I1 r1 q1) fun _ s2 q => q
/-- name = value -/
theorem ps_set {i : Nat} {x : Str} {e : Expr} {te : TE} {pos' : Pos} (hN : X.N.Nodup) (hi : X.N[i]? = some x) (hx : Loc X.env.scope x) (he : PE X e te) (hs : swapsWith e (some (.Name x pos')) pos.line X.env = pure false := by rfl) (hf : X.fn x = true ∨ X.env.scope.names.lookup x = some .local := by first | exact .inl rfl | exact .inr rfl | assumption) :
    PS X (.Assign [.Name x pos'] e pos) (tAsg te (gName i)) := by
  intro pins s σ H D I h
  refine wpAny_Assign_Name (thn (he pins s σ H _ I h) fun v s1 ⟨y, H1, I1, r1, q1⟩ => ?_) hs
  exact store_ok I1 hN hi hx r1 (fun s2 I2 => ⟨_, H1, I2, q1⟩) hf
/-- a, b = x, y with plain local names: stored from the right; the pair itself is not tracked (the opening rows as in PyProof/Rows/TupAssign.lean:23) -/
def tPar (i j : Nat) (ta : TA) : TS := fun D σ H => ta σ H fun vs H1 => ∃ v w, vs = [v, w] ∧ D.nx ((σ.set i (some v)).set j (some w)) H1
/-- name op= e -/
def tAug (i : Nat) (te : TE) (ti : TIp) : TS := fun D σ H => ∃ x, σ[i]? = some (some x) ∧ te σ H fun y H1 => ti x y H1 fun z H2 => D.nx (σ.set i (some z)) H2
/-- o[i] op= e -/
def tAugS (to ti te : TE) (tget : V → V → Hp → VK → Prop) (tip : TIp) (tset : TSet) : TS := fun D σ H => to σ H fun o H1 => ti σ H1 fun i H2 => tget o i H2 fun x H3 => te σ H3 fun y H4 => tip x y H4 fun z H5 => tset o i z H5 fun H6 => D.nx σ H6
/-- o[i], by values -/
def PGet (X : Cx) (t : V → V → Hp → VK → Prop) : Prop :=
  ∀ (pins : List (Addr × Obj)) (s : Shared) (σ : St) (H : Hp) (o i : V) (ov iv : Value) (Q : VK), Inv X pins σ H s → RelV o ov → RelV i iv → t o i H Q →
    wpAny (model X.prog X.w) X.A (getItem ov iv) (EP X pins σ Q) X.xe s
/-- ints -/
def ipI (f : Int → Int → Int) : TIp := fun x y H Q => ∃ i j, x = .int i ∧ y = .int j ∧ Q (.int (f i j)) H
end

/-! ### while -/
section
variable {X : Cx} {pos : Pos}
/-- the invariant W with its measure -/
def tWhile (c : TT) (tb : TS) : TS := fun D σ H => ∃ W : Nat → St → Hp → Prop, (∃ m, W m σ H) ∧ ∀ m σ H, W m σ H →
  c σ H fun b H1 => if b = true then ∃ N : St → Hp → Prop, (∀ σ' H', N σ' H' → ∃ m', m' < m ∧ W m' σ' H') ∧ tb { D with nx := N, ct := N, bk := D.nx } σ H1 else D.nx σ H1
theorem ps_while {c : Expr} {body : List Stmt} {tc : TT} {tb : TS} (hp : PassesOwn (model X.prog X.w) X.A X.env X.xe) (hc : PT X c tc) (hb : PSs X body tb) : PS X (.While c body [] pos) (tWhile tc tb) := by
  intro pins s σ H D I h
  obtain ⟨W, ⟨m0, w0⟩, turn⟩ := h
  refine wpAny_While (codeAny_whileLoop (fun n s' => ∃ σ' H', Inv X pins σ' H' s' ∧ W n σ' H') ?_ m0 ⟨σ, H, I, w0⟩)
  rintro n s1 ⟨σ1, H1, I1, w1⟩
  refine wpAny_passesOwn hp (thn (hc pins s1 σ1 H1 _ I1 (turn n σ1 H1 w1)) fun b s2 ⟨H2, I2, q2⟩ => ?_)
  cases b with
  | true =>
    obtain ⟨N, hN, q2⟩ := q2
    rw [if_pos rfl]
    refine wpAny_passesOwn hp (thn (hb pins s2 σ1 H2 _ I2 q2) fun f s3 q3 => ?_)
    cases f with
    | next =>
      obtain ⟨σ3, H3, I3, n3⟩ := q3
      obtain ⟨m', hm, w3⟩ := hN σ3 H3 n3
      exact ⟨m', hm, σ3, H3, I3, w3⟩
    | cont =>
      obtain ⟨σ3, H3, I3, n3⟩ := q3
      obtain ⟨m', hm, w3⟩ := hN σ3 H3 n3
      exact ⟨m', hm, σ3, H3, I3, w3⟩
    | brk => exact q3
    | ret v => exact q3
  | false =>
    rw [if_neg Bool.false_ne_true]
    exact wpAny_execs_nil ⟨σ1, H2, I2, q2⟩
end

/-! ### what a loop or a comprehension walks -/
/-- at turn i: it yields x (the heap may grow), or it stops -/
structure It where
  go : Nat → Hp → Prop
  yld : Nat → Hp → V → Hp → Prop
  stop : Nat → Hp → Prop
/-- the iterator's own objects may turn: they are not the frame's, not pinned, younger than the entry (or a comprehension's own) -/
def FpOk (X : Cx) (pins : List (Addr × Obj)) (H : Hp) (b : Addr) : Prop :=
  H b = none ∧ b ≠ X.env.locals ∧ b ∉ X.fs ∧ (b ∈ X.ex ∨ X.s₀.heap.objs.size ≤ b) ∧ (∀ x c, X.env.cells.lookup x = some c → c ≠ b) ∧ ∀ p ∈ X.pn ++ pins, p.1 ≠ b
theorem Inv.fpOk {X : Cx} {pins : List (Addr × Obj)} {σ : St} {H H' : Hp} {s : Shared} {b : Addr} (I : Inv X pins σ H s) (hb : s.heap.objs.size ≤ b) (hn : H' b = none) : FpOk X pins H' b := by
  refine ⟨hn, Nat.ne_of_gt (Nat.lt_of_lt_of_le I.lt hb), I.nofs hb, .inr (Nat.le_trans I.sz hb), fun x c e z => ?_, fun p hp z => ?_⟩
  · obtain ⟨v, q⟩ := I.cell x c e
    exact absurd (Nat.lt_of_lt_of_le q.lt (by rw [z]; exact hb)) (Nat.lt_irrefl _)
  · exact absurd (Nat.lt_of_lt_of_le (Heap.lt_size (I.pin p hp).1) (by rw [z]; exact hb)) (Nat.lt_irrefl _)
structure Turn (P : Program) (w : World) (K : PySem.W.Frag) (tg : Expr) (J : It) (fp : List Addr) (it : Addr) (tn : Nat → Heap → Prop) : Prop where
  mem : it ∈ fp
  obj : ∀ i h, tn i h → ∀ b ∈ fp, ∃ o, h.get? b = some o ∧ ∀ v, o.data ≠ .cell v
  keep : ∀ i h h', tn i h → (∀ b ∈ fp, ∀ o, h.get? b = some o → h'.get? b = some o) → tn i h'
  item : ∀ (X : Cx), X.prog = P → X.w = w → X.K = K → X.calm = true → ∀ (i : Nat) (pins : List (Addr × Obj)) (s : Shared) (σ : St) (H : Hp) (E : Value → Shared → Prop), Inv X pins σ H s → (∀ b ∈ fp, FpOk X pins H b) → tn i s.heap → J.go i H →
    wpAny (model P w) X.A (pyNext (.ref it)) (fun r s1 => ∃ u, r = some u ∧
      wpAny (model P w) X.A (letOwnedTupleGo tg (.ref it) u) (fun _ s2 => ∃ x H', Inv X pins σ H' s2 ∧ RelV x u ∧ J.yld i H x H' ∧ tn (i + 1) s2.heap ∧ ∀ b ∈ fp, H' b = none) E s1) E s
  done : ∀ (X : Cx), X.prog = P → X.w = w → X.K = K → X.calm = true → ∀ (i : Nat) (pins : List (Addr × Obj)) (s : Shared) (σ : St) (H : Hp) (E : Value → Shared → Prop), Inv X pins σ H s → (∀ b ∈ fp, FpOk X pins H b) → tn i s.heap → J.stop i H →
    wpAny (model P w) X.A (pyNext (.ref it)) (fun r s1 => r = none ∧ Inv X pins σ H s1) E s
  self : ∀ (A : Around) (i : Nat) (s : Shared) (Q : Value → Shared → Prop) (E : Value → Shared → Prop), tn i s.heap → Q (.ref it) s → wpAny (model P w) A (pyIter (.ref it)) Q E s
abbrev TI := St → Hp → (It → Hp → Prop) → Prop
/-- an iterator has come -/
def PIE (X : Cx) (pins : List (Addr × Obj)) (σ : St) (tg : Expr) (R : It → Hp → Prop) (itv : Value) (s2 : Shared) : Prop :=
  ∃ (it : Addr) (fp : List Addr) (tn : Nat → Heap → Prop) (J : It) (H' : Hp), itv = .ref it ∧ Inv X pins σ H' s2 ∧ Turn X.prog X.w X.K tg J fp it tn ∧ tn 0 s2.heap ∧ (∀ b ∈ fp, FpOk X pins H' b) ∧ R J H'
def PI (X : Cx) (tg iter : Expr) (wi : TI) : Prop :=
  ∀ (pins : List (Addr × Obj)) (s : Shared) (σ : St) (H : Hp) (R : It → Hp → Prop), Inv X pins σ H s → wi σ H R →
    wpAny (model X.prog X.w) X.A (eval iter X.env) (fun v s1 => wpAny (model X.prog X.w) X.A (pyIter v) (PIE X pins σ tg R) X.xe s1) X.xe s

/-- the step ahead of the store is nothing for an iterator that keeps no tuple -/
theorem go_of {M : Model} {A : Around} {E : Value → Shared → Prop} {s : Shared} {tg : Expr} {it : Addr} {u : Value} {o : Obj} {n : String} {vs : Array Value} {Q : Unit → Shared → Prop} (ho : s.heap.get? it = some o) (hc : o.cls = .type n) (hd : o.data = .fields vs)
    (hn : ["enumerate", "zip", "dict_itemiterator", "dict_reverseitemiterator", "odict_iterator", "itertools.zip_longest", "itertools.pairwise"].contains n = false) (hQ : Q () s) : wpAny M A (letOwnedTupleGo tg (.ref it) u) Q E s := by
  unfold letOwnedTupleGo
  cases tg <;> first
    | exact wpAny_pure hQ
    | (cases u <;> first
        | exact wpAny_pure hQ
        | (refine wpAny_bind (wpAny_load ho ?_)
           rw [hc, hd]
           show wpAny M A (if (["enumerate", "zip", "dict_itemiterator", "dict_reverseitemiterator", "odict_iterator", "itertools.zip_longest", "itertools.pairwise"].contains n && vs[0]? == some (rawInt _)) = true then _ else _) Q E s
           rw [if_neg (by intro h; rw [hn, Bool.false_and] at h; cases h)]
           exact wpAny_pure hQ))

/-- the list at a, as it stands at each turn (a loop may append to it) -/
def Itl (K : PySem.W.Frag) (a : Addr) : It :=
  ⟨fun i H => ∃ xs x, SqL K H a xs ∧ xs[i]? = some x, fun i H x H' => H' = H ∧ ∀ xs, SqL K H a xs → xs[i]? = some x, fun i H => ∃ xs, SqL K H a xs ∧ xs.length ≤ i⟩
def Itt (K : PySem.W.Frag) (a : Addr) : It :=
  ⟨fun i H => ∃ xs x, SqT K H a xs ∧ xs[i]? = some x, fun i H x H' => H' = H ∧ ∀ xs, SqT K H a xs → xs[i]? = some x, fun i H => ∃ xs, SqT K H a xs ∧ xs.length ≤ i⟩
/-- lo, lo + 1, .. (n of them) -/
def Itr (lo : Int) (n : Nat) : It := ⟨fun i _ => i < n, fun i H x H' => H' = H ∧ x = .int (lo + i), fun i _ => n ≤ i⟩
theorem turn_list {P : Program} {w : World} {K : PySem.W.Frag} {tg : Expr} (a it : Addr) : Turn P w K tg (Itl K a) [it] it (fun i h => h.IsListIter it a i) where
  mem := by simp
  obj := fun i h st b hb => by
    have e : b = it := by simpa using hb
    subst e
    obtain ⟨o, e, c, d⟩ := st
    exact ⟨o, e, fun v z => by rw [d] at z; cases z⟩
  keep := fun i h h' st k => st.at fun o e => k it (by simp) o e
  item := by
    intro X hP hw hK hc i pins s σ H E I hf st hg
    subst hP hw hK
    obtain ⟨xs, x, hq, hx⟩ := hg
    obtain ⟨its, rv, p, hz⟩ := I.list hq
    obtain ⟨u, hu, ru⟩ := rv.get hx
    obtain ⟨f0, f1, f2, f3, f4, f5⟩ := hf it (by simp)
    refine wpAny_pyNext_list_item st p.isList (x := u) (by simpa using hu) fun h' st' sb => ?_
    have I1 : Inv X pins σ H { s with heap := h' } := I.turned (t' := s.toks) (fun b o hb e => (sb.2 b hb).trans e) f0 f1 f3 f4 f5
    obtain ⟨o, e, c, d⟩ := id st'
    exact ⟨u, rfl, go_of (s := { s with heap := h' }) e c d (by decide) ⟨x, H, I1, ru, ⟨rfl, fun ys hy => by rw [I.list_inj hy hq]; exact hx⟩, st', fun b hb => (hf b hb).1⟩⟩
  done := by
    intro X hP hw hK hc i pins s σ H E I hf st hg
    subst hP hw hK
    obtain ⟨xs, hq, hx⟩ := hg
    obtain ⟨its, rv, p, hz⟩ := I.list hq
    obtain ⟨f0, f1, f2, f3, f4, f5⟩ := hf it (by simp)
    have hl := rv.length
    exact wpAny_pyNext_list_end (I.ok.hd hc) st p.isList (by simp; omega) fun h' eb => ⟨rfl, I.turned (t' := s.toks) (fun b o hb e => eb b o hb e) f0 f1 f3 f4 f5⟩
  self := fun _ _ _ _ _ st h => wpAny_pyIter_listiter st h
theorem turn_tuple {P : Program} {w : World} {K : PySem.W.Frag} {tg : Expr} (a it : Addr) : Turn P w K tg (Itt K a) [it] it (fun i h => h.IsTupleIter it a i) where
  mem := by simp
  obj := fun i h st b hb => by
    have e : b = it := by simpa using hb
    subst e
    obtain ⟨o, e, c, d⟩ := st
    exact ⟨o, e, fun v z => by rw [d] at z; cases z⟩
  keep := fun i h h' st k => st.at fun o e => k it (by simp) o e
  item := by
    intro X hP hw hK hc i pins s σ H E I hf st hg
    subst hP hw hK
    obtain ⟨xs, x, hq, hx⟩ := hg
    obtain ⟨its, rv, p, hz⟩ := I.tuple hq
    obtain ⟨u, hu, ru⟩ := rv.get hx
    obtain ⟨f0, f1, f2, f3, f4, f5⟩ := hf it (by simp)
    refine wpAny_pyNext_tuple_item st (show s.heap.IsTuple a its.toArray from p) (x := u) (by simpa using hu) fun h' st' sb => ?_
    have I1 : Inv X pins σ H { s with heap := h' } := I.turned (t' := s.toks) (fun b o hb e => (sb.2 b hb).trans e) f0 f1 f3 f4 f5
    obtain ⟨o, e, c, d⟩ := id st'
    exact ⟨u, rfl, go_of (s := { s with heap := h' }) e c d (by decide) ⟨x, H, I1, ru, ⟨rfl, fun ys hy => by rw [I.tuple_inj hy hq]; exact hx⟩, st', fun b hb => (hf b hb).1⟩⟩
  done := by
    intro X hP hw hK hc i pins s σ H E I hf st hg
    subst hP hw hK
    obtain ⟨xs, hq, hx⟩ := hg
    obtain ⟨its, rv, p, hz⟩ := I.tuple hq
    obtain ⟨f0, f1, f2, f3, f4, f5⟩ := hf it (by simp)
    have hl := rv.length
    exact wpAny_pyNext_tuple_end (I.ok.hd hc) st (show s.heap.IsTuple a its.toArray from p) (by simp; omega) fun h' eb => ⟨rfl, I.turned (t' := s.toks) (fun b o hb e => eb b o hb e) f0 f1 f3 f4 f5⟩
  self := fun _ _ _ _ _ st h => wpAny_pyIter_tupleiter st h
theorem turn_range {P : Program} {w : World} {K : PySem.W.Frag} {tg : Expr} (it : Addr) (lo : Int) (n : Nat) : Turn P w K tg (Itr lo n) [it] it (fun i h => IsRangeIter h it (lo + (i : Nat) * 1) ((n : Int) - (i : Nat)) 1) where
  mem := by simp
  obj := fun i h st b hb => by
    have e : b = it := by simpa using hb
    subst e
    exact ⟨_, st, fun v z => by
      have z' : Data.fields _ = Data.cell v := z
      cases z'⟩
  keep := fun i h h' st k => k it (by simp) _ st
  item := by
    intro X hP hw hK hc i pins s σ H E I hf st hg
    subst hP hw hK
    obtain ⟨f0, f1, f2, f3, f4, f5⟩ := hf it (by simp)
    have W := Walks.range (prog := X.prog) (w := X.w) (I.ok.hd hc) it lo 1 n
    refine W.item i s _ _ hg st fun v h' tk hv st' kk => ?_
    obtain ⟨t, rfl⟩ := hv
    have I1 : Inv X pins σ H { s with heap := h', toks := tk } := I.turned (fun b o hb e => kk b o (by simpa using hb) e) f0 f1 f3 f4 f5
    refine ⟨_, rfl, go_of (s := { s with heap := h', toks := tk }) (n := "range_iterator") st' rfl rfl (by decide) ⟨.int (lo + i), H, I1, ⟨t, ?_⟩, ⟨rfl, rfl⟩, st', fun b hb => (hf b hb).1⟩⟩
    rw [Int.mul_one]
  done := by
    intro X hP hw hK hc i pins s σ H E I hf st hg
    subst hP hw hK
    obtain ⟨f0, f1, f2, f3, f4, f5⟩ := hf it (by simp)
    exact wpAny_pyNext_range_end (I.ok.hd hc) st (by have : n ≤ i := hg; omega) fun h' eb => ⟨rfl, I.turned (t' := s.toks) (fun b o hb e => eb b o hb e) f0 f1 f3 f4 f5⟩
  self := fun _ _ _ _ _ st h => wpAny_pyIter_rangeiter st h
end L2

namespace L2
open PySem PySem.Spec PyProof.Rows
section
variable {X : Cx} {tg : Expr}
def iList (K : PySem.W.Frag) (tl : TE) : TI := fun σ H R => tl σ H fun x H1 => ∃ a, x = .ref a ∧ (∃ xs, SqL K H1 a xs) ∧ R (Itl K a) H1
def iTup (K : PySem.W.Frag) (tl : TE) : TI := fun σ H R => tl σ H fun x H1 => ∃ a, x = .ref a ∧ (∃ xs, SqT K H1 a xs) ∧ R (Itt K a) H1
/-- a range object just made, walked -/
theorem range_it {pins : List (Addr × Obj)} {σ : St} {H : Hp} {s : Shared} {R : It → Hp → Prop} {E : Value → Shared → Prop} {lo hi : Int} {t u v : Tok} {tk : Nat} (I : Inv X pins σ H s) (h1 : -(2 ^ 62) ≤ lo) (h2 : lo < 2 ^ 62) (h3 : -(2 ^ 62) ≤ hi) (h4 : hi < 2 ^ 62)
    (q : R (Itr lo (hi - lo).toNat) H) : wpAny (model X.prog X.w) X.A (pyIter (.ref s.heap.objs.size)) (PIE X pins σ tg R) E { s with heap := s.heap.push { cls := .type "range", data := .fields #[.int lo t, .int hi u, .int 1 v] }, toks := tk } := by
  refine wpAny_pyIter_range (IsRange.new ..) (small_one h1 h2 h3 h4) ?_
  have I1 : Inv X pins σ H { s with heap := s.heap.push { cls := .type "range", data := .fields #[.int lo t, .int hi u, .int 1 v] }, toks := tk } := I.kept fun b o e => Heap.get?_push_of_some _ e
  refine ⟨(s.heap.push { cls := .type "range", data := .fields #[.int lo t, .int hi u, .int 1 v] }).objs.size, [(s.heap.push { cls := .type "range", data := .fields #[.int lo t, .int hi u, .int 1 v] }).objs.size], _, _, H, rfl,
    I1.kept (t' := tk) fun b o e => Heap.get?_push_of_some _ e, turn_range _ lo (hi - lo).toNat, ?_, fun b hb => ?_, q⟩
  · have e1 : lo + ((0 : Nat) : Int) * 1 = lo := by simp
    have e2 : (((hi - lo).toNat : Nat) : Int) - ((0 : Nat) : Int) = Builtin.Range.rangeSize lo hi 1 := by rw [rangeSize_one]; split <;> omega
    show IsRangeIter _ _ (lo + ((0 : Nat) : Int) * 1) ((((hi - lo).toNat : Nat) : Int) - ((0 : Nat) : Int)) 1
    rw [e1, e2]
    exact Heap.get?_push_size _ rfl
  · have e : b = (s.heap.push { cls := .type "range", data := .fields #[.int lo t, .int hi u, .int 1 v] }).objs.size := by simpa using hb
    subst e
    exact I1.fpOk (Nat.le_refl _) (I1.hok.fresh (Nat.le_refl _))
def iRng1 (ta : TA) : TI := fun σ H R => ta σ H fun vs H1 => ∃ j : Int, vs = [.int j] ∧ -(2 ^ 62) ≤ j ∧ j < 2 ^ 62 ∧ R (Itr 0 j.toNat) H1
def iRng2 (ta : TA) : TI := fun σ H R => ta σ H fun vs H1 => ∃ i j : Int, vs = [.int i, .int j] ∧ (-(2 ^ 62) ≤ i ∧ i < 2 ^ 62 ∧ -(2 ^ 62) ≤ j ∧ j < 2 ^ 62) ∧ R (Itr i (j - i).toNat) H1
theorem pi_range1 {a : Expr} {ta : TA} {p pos : Pos} (hg : Gl X "range") (hm : X.mg "range" = none) (ha : PA X [a] ta) (hs : starEach [a] X.env = [(false, eval a X.env)] := by rfl) : PI X tg (.Call (.Name "range" p) [a] [] pos) (iRng1 ta) := by
  intro pins s σ H R I h
  refine Call_ (ld_blt I hg hm boot_range (PyProof.Rows.callWith_type1 (thn (ha pos pins s σ H _ I h) fun us s1 ⟨vs, H1, I1, r1, q1⟩ => ?_) hs rfl))
  obtain ⟨j, e, q1, q2, q⟩ := q1
  subst e
  cases r1 with
  | cons r rr =>
    cases rr
    obtain ⟨t, rfl⟩ := r
    exact call_range_1 (range_it I1 (by omega) (by omega) q1 q2 (by simpa using q))
/-! ### for -/
/-- W: the invariant by the turn and a measure; N: what the body is to reach -/
def tFor (wi : TI) (g : TG) (tb : TS) : TS := fun D σ H => wi σ H fun J H1 => ∃ W : Nat → Nat → St → Hp → Prop, (∃ m, W 0 m σ H1) ∧ ∀ i m σ H, W i m σ H →
  (J.stop i H ∧ D.nx σ H) ∨ (J.go i H ∧ ∃ N : St → Hp → Prop, (∀ σ' H', N σ' H' → ∃ m', m' < m ∧ W (i + 1) m' σ' H') ∧ ∀ x H', J.yld i H x H' → g x σ H' fun σ2 H2 => tb { D with nx := N, ct := N, bk := D.nx } σ2 H2)
/-- the records at fp as they stand -/
def pinsAt (fp : List Addr) (h : Heap) : List (Addr × Obj) := fp.filterMap fun b => (h.get? b).map fun o => (b, o)
theorem mem_pinsAt {fp : List Addr} {h : Heap} {b : Addr} {o : Obj} (hb : b ∈ fp) (e : h.get? b = some o) : (b, o) ∈ pinsAt fp h := List.mem_filterMap.mpr ⟨b, hb, by rw [e]; rfl⟩
theorem of_pinsAt {fp : List Addr} {h : Heap} {p : Addr × Obj} (hp : p ∈ pinsAt fp h) : p.1 ∈ fp ∧ h.get? p.1 = some p.2 := by
  obtain ⟨b, hb, e⟩ := List.mem_filterMap.mp hp
  cases q : h.get? b with
  | none => rw [q] at e; cases e
  | some o =>
    rw [q] at e
    have e' : (b, o) = p := Option.some.inj e
    subst e'
    exact ⟨hb, q⟩
theorem Inv.pinned {pins : List (Addr × Obj)} {σ : St} {H : Hp} {s : Shared} {fp : List Addr} (I : Inv X pins σ H s) (hf : ∀ b ∈ fp, FpOk X pins H b) (ho : ∀ b ∈ fp, ∃ o, s.heap.get? b = some o ∧ ∀ v, o.data ≠ .cell v) : Inv X (pins ++ pinsAt fp s.heap) σ H s :=
  I.pins_of fun p hp => (List.mem_append.mp hp).elim (fun z => I.pin p (List.mem_append_right _ z)) fun z => by
    obtain ⟨hb, e⟩ := of_pinsAt z
    obtain ⟨f0, f1, f2, _⟩ := hf p.1 hb
    obtain ⟨o, e', d⟩ := ho p.1 hb
    rw [e] at e'; cases e'
    exact ⟨e, f0, f1, f2, d⟩
theorem Inv.unpinned {pins pl : List (Addr × Obj)} {σ : St} {H : Hp} {s : Shared} (I : Inv X (pins ++ pl) σ H s) : Inv X pins σ H s := I.pins_of fun p hp => I.pin p (List.mem_append_right _ (List.mem_append_left _ hp))
theorem ps_for {iter : Expr} {body : List Stmt} {wi : TI} {g : TG} {tb : TS} {pos : Pos} (hp : PassesOwn (model X.prog X.w) X.A X.env X.xe) (hc : X.calm = true) (hi : PI X tg iter wi) (hg : PG X tg g) (hb : PSs X body tb)
    (hs : ∀ x, foldedSetIterable iter X.env x = pure x := by intro _; rfl) : PS X (.For tg iter body [] pos) (tFor wi g tb) := by
  intro pins s σ H D I h
  refine wpAny_For (thn (hi pins s σ H _ I h) fun v s1 h1 => thn h1 fun itv s2 h2 => ?_) hs
  obtain ⟨it, fp, tn, J, H2, e, I2, T, st2, f2, W, ⟨m0, w0⟩, turn⟩ := h2
  subst e
  -- what stays true of the iterator's objects through the loop
  have stat : ∀ {H' : Hp}, (∀ b ∈ fp, H' b = none) → ∀ b ∈ fp, FpOk X pins H' b := fun hn b hb => ⟨hn b hb, (f2 b hb).2⟩
  refine codeAny_forLoop_any (fun n s' => ∃ i σ' H', Inv X pins σ' H' s' ∧ tn i s'.heap ∧ (∀ b ∈ fp, H' b = none) ∧ W i n σ' H') ?_ m0 ⟨0, σ, H2, I2, st2, fun b hb => (f2 b hb).1, w0⟩
  rintro n s3 ⟨i, σ3, H3, I3, st3, fr3, w3⟩
  rcases turn i n σ3 H3 w3 with ⟨stop, qn⟩ | ⟨go, N, hN, step⟩
  · refine wpAny_passesOwn hp (thn (T.done X rfl rfl rfl hc i pins s3 σ3 H3 X.xe I3 (stat fr3) st3 stop) fun r s4 ⟨hr, I4⟩ => ?_)
    subst hr
    exact wpAny_execs_nil ⟨σ3, H3, I4, qn⟩
  · refine wpAny_passesOwn hp (thn (T.item X rfl rfl rfl hc i pins s3 σ3 H3 X.xe I3 (stat fr3) st3 go) fun r s4 ⟨u, hr, h4⟩ => ?_)
    subst hr
    refine wpAny_passesOwn hp (thn h4 fun _ s5 ⟨x, H5, I5, r5, y5, st5, fr5⟩ => ?_)
    have I5' := I5.pinned (stat fr5) (T.obj _ _ st5)
    refine wpAny_passesOwn hp (thn (hg _ s5 σ3 H5 x u _ I5' r5 (step x H5 y5)) fun _ s6 ⟨σ6, H6, I6, q6⟩ => ?_)
    refine wpAny_passesOwn hp (thn (hb _ s6 σ6 H6 _ I6 q6) fun f s7 q7 => ?_)
    have again : ∀ {σ7 : St} {H7 : Hp}, Inv X (pins ++ pinsAt fp s5.heap) σ7 H7 s7 → N σ7 H7 → ∃ m, m < n ∧ ∃ i σ' H', Inv X pins σ' H' s7 ∧ tn i s7.heap ∧ (∀ b ∈ fp, H' b = none) ∧ W i m σ' H' := fun {σ7 H7} I7 n7 => by
      obtain ⟨m', hm, w7⟩ := hN σ7 H7 n7
      refine ⟨m', hm, i + 1, σ7, H7, I7.unpinned, T.keep _ _ _ st5 fun b hb o e => (I7.pin (b, o) (List.mem_append_right _ (List.mem_append_right _ (mem_pinsAt hb e)))).1, fun b hb => ?_, w7⟩
      obtain ⟨o, e, d⟩ := T.obj _ _ st5 b hb
      exact (I7.pin (b, o) (List.mem_append_right _ (List.mem_append_right _ (mem_pinsAt hb e)))).2.1
    cases f with
    | next => obtain ⟨σ7, H7, I7, n7⟩ := q7; exact again I7 n7
    | cont => obtain ⟨σ7, H7, I7, n7⟩ := q7; exact again I7 n7
    | brk => obtain ⟨σ7, H7, I7, q7⟩ := q7; exact ⟨σ7, H7, I7.unpinned, q7⟩
    | ret v => obtain ⟨x7, σ7, H7, I7, r7, q7⟩ := q7; exact ⟨x7, σ7, H7, I7.unpinned, r7, q7⟩
end

/-! ### the forms one uses -/
end L2

namespace L2
open PySem PySem.Spec PyProof.Rows

abbrev R2 := V → V → Hp → VK → Prop
/-- a two-place operation on values: f is binaryOp op, inplaceOp op or compareOp op -/
def OpR (X : Cx) (f : Value → Value → Sem Value) (r : R2) : Prop :=
  ∀ (pins : List (Addr × Obj)) (s : Shared) (σ : St) (H : Hp) (x y : V) (v u : Value) (Q : VK), Inv X pins σ H s → RelV x v → RelV y u → r x y H Q →
    wpAny (model X.prog X.w) X.A (f v u) (EP X pins σ Q) X.xe s
/-- a one-place operation -/
def UnR (X : Cx) (f : Value → Sem Value) (r : V → Hp → VK → Prop) : Prop :=
  ∀ (pins : List (Addr × Obj)) (s : Shared) (σ : St) (H : Hp) (x : V) (v : Value) (Q : VK), Inv X pins σ H s → RelV x v → r x H Q →
    wpAny (model X.prog X.w) X.A (f v) (EP X pins σ Q) X.xe s
/-- a call of a value that is known (a builtin, a type) with values -/
def CallR (X : Cx) (f : Value) (r : List V → Hp → VK → Prop) : Prop :=
  ∀ (pins : List (Addr × Obj)) (s : Shared) (σ : St) (H : Hp) (xs : List V) (us : List Value) (Q : VK), Inv X pins σ H s → Vals xs us → r xs H Q →
    wpAny (model X.prog X.w) X.A (call f us) (EP X pins σ Q) X.xe s
/-- a value's truth -/
def TruR (X : Cx) (r : V → Hp → (Bool → Hp → Prop) → Prop) : Prop :=
  ∀ (pins : List (Addr × Obj)) (s : Shared) (σ : St) (H : Hp) (x : V) (v : Value) (Q : Bool → Hp → Prop), Inv X pins σ H s → RelV x v → r x H Q →
    wpAny (model X.prog X.w) X.A (truthy v) (TP X pins σ Q) X.xe s

def tOp (r : R2) (ta tb : TE) : TE := fun σ H Q => ta σ H fun x H1 => tb σ H1 fun y H2 => r x y H2 Q
def tUn (r : V → Hp → VK → Prop) (ta : TE) : TE := fun σ H Q => ta σ H fun x H1 => r x H1 Q
/-- ints in, under C, and a value out -/
def rI (C : Int → Int → Prop) (g : Int → Int → V) : R2 := fun x y H Q => ∃ i j, x = .int i ∧ y = .int j ∧ C i j ∧ Q (g i j) H
def rI0 (g : Int → Int → V) : R2 := fun x y H Q => ∃ i j, x = .int i ∧ y = .int j ∧ Q (g i j) H
def rU (g : Int → V) : V → Hp → VK → Prop := fun x H Q => ∃ i, x = .int i ∧ Q (g i) H

section
variable {X : Cx} {a b c : Expr} {ta tb tc : TE} {pos : Pos}

/-! ### ints -/
theorem opI {f : Value → Value → Sem Value} {C : Int → Int → Prop} {g : Int → Int → Int}
    (rule : ∀ (i j : Int) (t u : Tok) (s : Shared) (Q : Value → Shared → Prop) (E : Value → Shared → Prop), C i j → Q (.int (g i j) s.toks) { s with toks := s.toks + 1 } → wpAny (model X.prog X.w) X.A (f (.int i t) (.int j u)) Q E s) :
    OpR X f (rI C fun i j => .int (g i j)) := by
  intro pins s σ H x y v u Q I rx ry h
  obtain ⟨i, j, rfl, rfl, hc, q⟩ := h
  obtain ⟨t, rfl⟩ := rx
  obtain ⟨t', rfl⟩ := ry
  exact rule i j t t' s _ _ hc ⟨.int (g i j), H, I.tok _, ⟨_, rfl⟩, q⟩
theorem opI0 {f : Value → Value → Sem Value} {g : Int → Int → Int}
    (rule : ∀ (i j : Int) (t u : Tok) (s : Shared) (Q : Value → Shared → Prop) (E : Value → Shared → Prop), Q (.int (g i j) s.toks) { s with toks := s.toks + 1 } → wpAny (model X.prog X.w) X.A (f (.int i t) (.int j u)) Q E s) :
    OpR X f (rI0 fun i j => .int (g i j)) := by
  intro pins s σ H x y v u Q I rx ry h
  obtain ⟨i, j, rfl, rfl, q⟩ := h
  obtain ⟨t, rfl⟩ := rx
  obtain ⟨t', rfl⟩ := ry
  exact rule i j t t' s _ _ ⟨.int (g i j), H, I.tok _, ⟨_, rfl⟩, q⟩
theorem opB0 {f : Value → Value → Sem Value} {g : Int → Int → Bool}
    (rule : ∀ (i j : Int) (t u : Tok) (s : Shared) (Q : Value → Shared → Prop) (E : Value → Shared → Prop), Q (.bool (g i j)) s → wpAny (model X.prog X.w) X.A (f (.int i t) (.int j u)) Q E s) :
    OpR X f (rI0 fun i j => .bl (g i j)) := by
  intro pins s σ H x y v u Q I rx ry h
  obtain ⟨i, j, rfl, rfl, q⟩ := h
  obtain ⟨t, rfl⟩ := rx
  obtain ⟨t', rfl⟩ := ry
  exact rule i j t t' s _ _ ⟨.bl (g i j), H, I, rfl, q⟩

def CDiv (i j : Int) : Prop := 0 < j ∧ j < 1073741824
def CDivN (i j : Int) : Prop := j ≠ 0 ∧ j.natAbs < 1073741824
def CPow (i j : Int) : Prop := 0 ≤ j ∧ j ≤ 1000000 ∧ i.natAbs < 2 ^ 64
def CMul (i j : Int) : Prop := (-(2 ^ 64) < i ∧ i < 2 ^ 64) ∨ (-(2 ^ 64) < j ∧ j < 2 ^ 64)
theorem CMul.ok {i j : Int} (h : CMul i j) : IntMulOk i j := by
  rcases h with ⟨h1, h2⟩ | ⟨h1, h2⟩
  · exact .of_left (intBits_le_64 h1 h2)
  · exact .of_right (intBits_le_64 h1 h2)
theorem two_pow_nn (k : Nat) : (0 : Int) ≤ 2 ^ k := by
  rw [two_pow_cast]
  exact Int.natCast_nonneg _

theorem op_add : OpR X (binaryOp .Add) (rI0 fun i j => .int (i + j)) := opI0 fun _ _ _ _ _ _ _ q => add_int q
theorem op_sub : OpR X (binaryOp .Sub) (rI0 fun i j => .int (i - j)) := opI0 fun _ _ _ _ _ _ _ q => sub_int q
theorem op_mul : OpR X (binaryOp .Mult) (rI CMul fun i j => .int (i * j)) := opI fun _ _ _ _ _ _ _ hc q => mul_int q hc.ok
/-- // by a positive divisor -/
theorem op_fdiv : OpR X (binaryOp .FloorDiv) (rI CDiv fun i j => .int (i / j)) := opI fun i j _ _ _ _ _ hc q => by
  have h1 : (0 : Int) < j := hc.1
  have h2 : j < 1073741824 := hc.2
  exact floordiv_int (by omega) (by rw [Int.fdiv_eq_ediv_of_nonneg i (by omega)]; exact q) (.inl (PyProof.noPylong_small (by omega)))
/-- % by a positive divisor of any size -/
theorem op_mod : OpR X (binaryOp .Mod) (rI (fun _ j => 0 < j) fun i j => .int (i % j)) := opI fun i j _ _ _ _ _ hc q => by
  have h1 : (0 : Int) < j := hc
  exact mod_int' (by omega) (by rw [Int.fmod_eq_emod_of_nonneg i (by omega)]; exact q)
theorem op_pow : OpR X (binaryOp .Pow) (rI CPow fun i j => .int (i ^ j.toNat)) := opI fun _ _ _ _ _ _ _ hc q => pow_int_small hc.1 hc.2.1 hc.2.2 q
theorem op_shr : OpR X (binaryOp .RShift) (rI (fun _ j => 0 ≤ j) fun i j => .int (i / 2 ^ j.toNat)) := opI fun i j _ _ _ _ _ hc q =>
  rshift_int hc (by rw [Int.fdiv_eq_ediv_of_nonneg i (two_pow_nn _)]; exact q)
theorem op_and : OpR X (binaryOp .BitAnd) (rI0 fun i j => .int (Builtin.bitAnd i j)) := opI0 fun _ _ _ _ _ _ _ q => and_int q
theorem unI {f : Value → Sem Value} {g : Int → Int}
    (rule : ∀ (i : Int) (t : Tok) (s : Shared) (Q : Value → Shared → Prop) (E : Value → Shared → Prop), Q (.int (g i) s.toks) { s with toks := s.toks + 1 } → wpAny (model X.prog X.w) X.A (f (.int i t)) Q E s) :
    UnR X f (rU fun i => .int (g i)) := by
  intro pins s σ H x v Q I rx h
  obtain ⟨i, rfl, q⟩ := h
  obtain ⟨t, rfl⟩ := rx
  exact rule i t s _ _ ⟨.int (g i), H, I.tok _, ⟨_, rfl⟩, q⟩
theorem un_neg : UnR X (unaryOp .USub) (rU fun i => .int (-i)) := unI fun _ _ _ _ _ q => neg_int q
/-! ### bools among ints: n += (a < b) -/
end

/-! ### comparisons -/
/-- the scalars that == tells apart as data does -/
def scal : V → V → Bool
  | .non, .non => true | .non, .int _ => true | .int _, .non => true | .non, .bl _ => true | .bl _, .non => true | .non, .str _ => true | .str _, .non => true
  | .int _, .int _ => true | .bl _, .bl _ => true | .str _, .str _ => true | .byt _, .byt _ => true
  | .int _, .str _ => true | .str _, .int _ => true | .bl _, .str _ => true | .str _, .bl _ => true
  | _, _ => false
def rEq : R2 := fun x y H Q => scal x y = true ∧ Q (.bl (decide (x = y))) H
def rNe : R2 := fun x y H Q => scal x y = true ∧ Q (.bl (!decide (x = y))) H

theorem dec_int {i j : Int} : decide (V.int i = V.int j) = (i == j) := by
  rw [Bool.eq_iff_iff]
  simp
theorem dec_bl {i j : Bool} : decide (V.bl i = V.bl j) = (i == j) := by
  rw [Bool.eq_iff_iff]
  simp
theorem dec_str {i j : Str} : decide (V.str i = V.str j) = (i == j) := by
  rw [Bool.eq_iff_iff]
  simp
theorem dec_byt {i j : Array UInt8} : decide (V.byt i = V.byt j) = (i.toList == j.toList) := by
  rw [Bool.eq_iff_iff]
  cases i
  cases j
  simp

section
variable {X : Cx} {a b c : Expr} {ta tb tc : TE} {pos : Pos}
theorem fin_bl {pins : List (Addr × Obj)} {σ : St} {H : Hp} {s : Shared} {Q : VK} {k k' : Bool} (I : Inv X pins σ H s) (q : Q (.bl k) H) (e : k = k') : EP X pins σ Q (.bool k') s := by
  subst e
  exact ⟨.bl k, H, I, rfl, q⟩
theorem op_eq : OpR X (compareOp .Eq) rEq := by
  intro pins s σ H x y v u Q I rx ry h
  obtain ⟨hs, q⟩ := h
  cases x with
  | non =>
    cases rx
    cases y with
    | non => cases ry; exact PySem.EqNone.eq_none_none (fin_bl I q (by simp))
    | bl j => cases ry; exact PySem.EqNone.eq_none_bool (fin_bl I q (by simp))
    | int j => obtain ⟨t', rfl⟩ := ry; exact PySem.EqNone.eq_none_int (fin_bl I q (by simp))
    | str j => obtain ⟨t', rfl⟩ := ry; exact PySem.EqNone.eq_none_str (fin_bl I q (by simp))
    | _ => exact absurd (show false = true from hs) Bool.false_ne_true
  | bl i =>
    cases rx
    cases y with
    | non => cases ry; exact PySem.EqNone.eq_bool_none (fin_bl I q (by simp))
    | bl j => cases ry; exact eq_bool (fin_bl I q dec_bl)
    | str j => obtain ⟨t', rfl⟩ := ry; exact PySem.EqMixed.eq_bool_str (fin_bl I q (by simp))
    | _ => exact absurd (show false = true from hs) Bool.false_ne_true
  | int i =>
    obtain ⟨t, rfl⟩ := rx
    cases y with
    | non => cases ry; exact PySem.EqNone.eq_int_none (fin_bl I q (by simp))
    | int j => obtain ⟨t', rfl⟩ := ry; exact eq_int (fin_bl I q dec_int)
    | str j => obtain ⟨t', rfl⟩ := ry; exact PySem.EqMixed.eq_int_str (fin_bl I q (by simp))
    | _ => exact absurd (show false = true from hs) Bool.false_ne_true
  | str i =>
    obtain ⟨t, rfl⟩ := rx
    cases y with
    | non => cases ry; exact PySem.EqNone.eq_str_none (fin_bl I q (by simp))
    | bl j => cases ry; exact PySem.EqMixed.eq_str_bool (fin_bl I q (by simp))
    | int j => obtain ⟨t', rfl⟩ := ry; exact PySem.EqMixed.eq_str_int (fin_bl I q (by simp))
    | str j => obtain ⟨t', rfl⟩ := ry; exact eq_str (fin_bl I q dec_str)
    | _ => exact absurd (show false = true from hs) Bool.false_ne_true
  | byt i =>
    obtain ⟨t, rfl⟩ := rx
    cases y with
    | byt j => obtain ⟨t', rfl⟩ := ry; exact PySem.W.eq_bytes (fin_bl I q dec_byt)
    | _ => exact absurd (show false = true from hs) Bool.false_ne_true
  | _ => cases y <;> exact absurd (show false = true from hs) Bool.false_ne_true
theorem op_ne : OpR X (compareOp .NotEq) rNe := by
  intro pins s σ H x y v u Q I rx ry h
  obtain ⟨hs, q⟩ := h
  cases x with
  | non =>
    cases rx
    cases y with
    | non => cases ry; exact PySem.EqNone.ne_none_none (fin_bl I q (by simp))
    | bl j => cases ry; exact PySem.EqNone.ne_none_bool (fin_bl I q (by simp))
    | int j => obtain ⟨t', rfl⟩ := ry; exact PySem.EqNone.ne_none_int (fin_bl I q (by simp))
    | str j => obtain ⟨t', rfl⟩ := ry; exact PySem.EqNone.ne_none_str (fin_bl I q (by simp))
    | _ => exact absurd (show false = true from hs) Bool.false_ne_true
  | bl i =>
    cases rx
    cases y with
    | non => cases ry; exact PySem.EqNone.ne_bool_none (fin_bl I q (by simp))
    | bl j => cases ry; exact ne_bool (fin_bl I q (congrArg not dec_bl))
    | str j => obtain ⟨t', rfl⟩ := ry; exact PySem.EqMixed.ne_bool_str (fin_bl I q (by simp))
    | _ => exact absurd (show false = true from hs) Bool.false_ne_true
  | int i =>
    obtain ⟨t, rfl⟩ := rx
    cases y with
    | non => cases ry; exact PySem.EqNone.ne_int_none (fin_bl I q (by simp))
    | int j => obtain ⟨t', rfl⟩ := ry; exact ne_int (fin_bl I q (congrArg not dec_int))
    | str j => obtain ⟨t', rfl⟩ := ry; exact PySem.EqMixed.ne_int_str (fin_bl I q (by simp))
    | _ => exact absurd (show false = true from hs) Bool.false_ne_true
  | str i =>
    obtain ⟨t, rfl⟩ := rx
    cases y with
    | non => cases ry; exact PySem.EqNone.ne_str_none (fin_bl I q (by simp))
    | bl j => cases ry; exact PySem.EqMixed.ne_str_bool (fin_bl I q (by simp))
    | int j => obtain ⟨t', rfl⟩ := ry; exact PySem.EqMixed.ne_str_int (fin_bl I q (by simp))
    | str j => obtain ⟨t', rfl⟩ := ry; exact ne_str (fin_bl I q (congrArg not dec_str))
    | _ => exact absurd (show false = true from hs) Bool.false_ne_true
  | byt i =>
    obtain ⟨t, rfl⟩ := rx
    cases y with
    | byt j => obtain ⟨t', rfl⟩ := ry; exact PySem.W.ne_bytes (fin_bl I q (congrArg not dec_byt))
    | _ => exact absurd (show false = true from hs) Bool.false_ne_true
  | _ => cases y <;> exact absurd (show false = true from hs) Bool.false_ne_true

theorem op_lt : OpR X (compareOp .Lt) (rI0 fun i j => .bl (decide (i < j))) := opB0 fun _ _ _ _ _ _ _ q => lt_int q
theorem op_le : OpR X (compareOp .LtE) (rI0 fun i j => .bl (decide (i ≤ j))) := opB0 fun _ _ _ _ _ _ _ q => le_int q
theorem op_gt : OpR X (compareOp .Gt) (rI0 fun i j => .bl (decide (j < i))) := opB0 fun _ _ _ _ _ _ _ q => gt_int q
theorem op_ge : OpR X (compareOp .GtE) (rI0 fun i j => .bl (decide (j ≤ i))) := opB0 fun _ _ _ _ _ _ _ q => ge_int q
/-- the one string within the other -/
theorem op_in_str : OpR X (compareOp .In) (fun x y H Q => ∃ i j, x = .str i ∧ y = .str j ∧ Q (.bl (!(Builtin.Str.occurrences j i 0 j.length 1).isEmpty)) H) := by
  intro pins s σ H x y v u Q I rx ry h
  obtain ⟨i, j, rfl, rfl, q⟩ := h
  obtain ⟨t, rfl⟩ := rx
  obtain ⟨t', rfl⟩ := ry
  exact in_str (fin_bl I q rfl)

/-- is None, is not None: the right side a value none -/
theorem op_isN : OpR X (compareOp .Is) (fun x y H Q => y = .non ∧ Q (.bl (decide (x = .non))) H) := by
  intro pins s σ H x y v u Q I rx ry h
  obtain ⟨rfl, q⟩ := h
  cases ry
  refine is_none_gen (fin_bl I q ?_)
  cases x <;> first
    | (cases rx; rfl)
    | (obtain ⟨t, rfl⟩ := rx; rfl)
theorem op_notN : OpR X (compareOp .IsNot) (fun x y H Q => y = .non ∧ Q (.bl (!decide (x = .non))) H) := by
  intro pins s σ H x y v u Q I rx ry h
  obtain ⟨rfl, q⟩ := h
  cases ry
  refine isnot_none_gen (fin_bl I q ?_)
  cases x <;> first
    | (cases rx; rfl)
    | (obtain ⟨t, rfl⟩ := rx; rfl)

theorem op_notin_str : OpR X (compareOp .NotIn) (fun x y H Q => ∃ i j, x = .str i ∧ y = .str j ∧ Q (.bl (!(!(Builtin.Str.occurrences j i 0 j.length 1).isEmpty))) H) := by
  intro pins s σ H x y v u Q I rx ry h
  obtain ⟨i, j, rfl, rfl, q⟩ := h
  obtain ⟨t, rfl⟩ := rx
  obtain ⟨t', rfl⟩ := ry
  exact notIn_str (fin_bl I q rfl)
/-- is, is not of two objects that are tracked lists or instances -/
def isObj : HO → Bool
  | .lst _ => true
  | .ins _ _ _ => true
  | _ => false
theorem nomark (b : Expr) {op : CmpOp} (h : op ≠ .In := by decide) (h2 : op ≠ .NotIn := by decide) : behindInMarks op b = false := by
  have e1 : (op == CmpOp.In) = false := by cases op <;> first | rfl | exact absurd rfl h
  have e2 : (op == CmpOp.NotIn) = false := by cases op <;> first | rfl | exact absurd rfl h2
  cases b <;> simp [behindInMarks, e1, e2]
/-- a reading of a value as a test -/
def tTest (t : TE) : TT := fun σ H Q => t σ H fun x H' => ∃ k, x = .bl k ∧ Q k H'
/-- a op1 b op2 c -/
def tChain (r r' : R2) (ta tb tc : TE) : TE := fun σ H Q => ta σ H fun x H1 => tb σ H1 fun y H2 => r x y H2 fun z H3 => ∃ k, z = .bl k ∧
  (if k = true then tc σ H3 fun w' H4 => r' y w' H4 Q else Q (.bl false) H3)
/-! ### truth -/
/-- a value's truth by the abstract heap -/
def TruV (K : PySem.W.Frag) (x : V) (H : Hp) (k : Bool) : Prop :=
  match x with
  | .non => k = false
  | .bl b => k = b
  | .int i => k = (i != 0)
  | .str y => y.length ≤ sizeLine ∧ k = ((y.length : Int) != 0)
  | .byt y => y.size ≤ sizeLine ∧ k = ((y.size : Int) != 0)
  | .ref p => (∃ xs, SqL K H p xs ∧ k = !xs.isEmpty) ∨ (∃ xs, SqT K H p xs ∧ k = !xs.isEmpty) ∨ ∃ kvs, H p = some (.dK kvs) ∧ k = !kvs.isEmpty
  | _ => False
theorem line63 : (sizeLine : Nat) < 2 ^ 63 := by rw [sizeLine_eq]; decide
/-! ### strs and bytes -/
theorem op_add_str : OpR X (binaryOp .Add) (fun x y H Q => ∃ i j, x = .str i ∧ y = .str j ∧ i.length + j.length ≤ sizeLine ∧ Q (.str (i ++ j)) H) := by
  intro pins s σ H x y v u Q I rx ry h
  obtain ⟨i, j, rfl, rfl, hz, q⟩ := h
  obtain ⟨t, rfl⟩ := rx
  obtain ⟨t', rfl⟩ := ry
  exact add_str (fun t' tk => ⟨.str (i ++ j), H, I.tok _, ⟨_, rfl⟩, q⟩) hz
def PlainIxT (b : Expr) : Prop := ∀ o i, subscripted b false o i = operate [o, i] (getItem o i)
/-! ### scalar builtins, by CallR -/
theorem vals1 {x : V} {us : List Value} (r : Vals [x] us) : ∃ u, us = [u] ∧ RelV x u := by
  cases r with
  | cons r1 r2 => cases r2; exact ⟨_, rfl, r1⟩
theorem vals2 {x y : V} {us : List Value} (r : Vals [x, y] us) : ∃ u w', us = [u, w'] ∧ RelV x u ∧ RelV y w' := by
  cases r with
  | cons r1 r2 =>
    cases r2 with
    | cons r3 r4 => cases r4; exact ⟨_, _, rfl, r1, r3⟩
theorem call_int1 : CallR X (.type "int") (fun xs H Q => (∃ i, xs = [.int i] ∧ Q (.int i) H) ∨ ∃ k, xs = [.bl k] ∧ Q (.int (if k then 1 else 0)) H) := by
  intro pins s σ H xs us Q I r h
  rcases h with ⟨i, rfl, q⟩ | ⟨k, rfl, q⟩
  · obtain ⟨u, rfl, t, rfl⟩ := vals1 r
    exact call_int_int ⟨.int i, H, I, ⟨_, rfl⟩, q⟩
  · obtain ⟨u, rfl, r1⟩ := vals1 r
    cases r1
    exact call_int_bool ⟨.int (if k then 1 else 0), H, I.tok _, ⟨_, rfl⟩, q⟩
/-- len of a str, a bytes, a list, a tuple -/
def LenV (K : PySem.W.Frag) (x : V) (H : Hp) (n : Nat) : Prop :=
  match x with
  | .str y => y.length ≤ sizeLine ∧ n = y.length
  | .byt y => y.size ≤ sizeLine ∧ n = y.size
  | .ref p => (∃ xs, SqL K H p xs ∧ n = xs.length) ∨ ∃ xs, SqT K H p xs ∧ n = xs.length
  | _ => False
end
end L2

namespace L2
open PySem PySem.Spec PyProof.Rows

/-! ### an instance, its attributes a map -/
structure ObjM (h : Heap) (x dx C : Addr) (mA : Str → Option Value) : Prop where
  obj : h.get? x = some (PySem.W.instObj C dx)
  ns : h.Ns1 dx mA
  ne : dx ≠ x

theorem lookIn_ns {h : Heap} {dx : Addr} {mA : Str → Option Value} (n : h.Ns1 dx mA) : ∃ od, h.get? dx = some od ∧ ∀ name, PySem.W.lookIn name od = some (mA name) := by
  obtain ⟨o, es, ep, ho, hd, hk, _, hm⟩ := n
  refine ⟨o, ho, fun name => ?_⟩
  have e := hm name
  unfold nsFind findBy at e
  rw [← Array.find?_toList] at e
  unfold PySem.W.lookIn
  rw [hd]
  dsimp only
  split
  · rename_i y q
    rw [q] at e
    exact congrArg some e
  · rename_i q
    rw [q] at e
    have a : es.toList.any (·.refKey) = false := by
      rw [List.any_eq_false]
      intro y hy
      obtain ⟨z, t, hkey⟩ := hk y (Array.mem_toList_iff.mp hy)
      simp [DictEntry.refKey, hkey]
    have a' : ¬ es.toList.any (·.refKey) = true := by rw [a]; exact Bool.false_ne_true
    rw [if_neg a']
    exact congrArg some e

theorem ObjM.look {h : Heap} {x dx C : Addr} {mA : Str → Option Value} (I : ObjM h x dx C mA) : ∃ od, PySem.W.InstAt h x (PySem.W.instObj C dx) C (some od) ∧ ∀ name, PySem.W.lookIn name od = some (mA name) :=
  let ⟨od, ho, hl⟩ := lookIn_ns I.ns
  ⟨od, ⟨I.obj, rfl, rfl, ho⟩, hl⟩

section
variable {prog : Program} {w : World} {A : Around} {E : Value → Shared → Prop} {s : Shared} {K : PySem.W.Frag} {x dx C f : Addr} {mA : Str → Option Value} {name : Str} {v : Value}

theorem get_map {expr : Bool} {Q : Value → Shared → Prop} (X : K.In s.heap) (I : ObjM s.heap x dx C mA) (hg : PySem.W.plainGet K C name = true) (hh : PySem.W.hasDictIn K C = true)
    (ha : PySem.W.findIn K (.ref C) name = some none) (hv : mA name = some v) (hv' : PySem.W.handedIn v = true) (h : Q v { s with toks := s.toks + 1 }) :
    wpAny (model prog w) A (getAttr (.ref x) name expr) Q E s := by
  obtain ⟨od, J, hl⟩ := I.look
  exact PySem.W.get_value X J (PySem.W.plainGet_of hg).1 (PySem.W.findObj_own hh ha rfl (by rw [hl, hv])) hv' h

theorem set_map {ns : List Str} {Q : Unit → Shared → Prop} (X : K.In s.heap) (I : ObjM s.heap x dx C mA)
    (hs : PySem.W.findIn K (.ref C) "__setattr__" = some (some (.builtin "object.__setattr__"))) (hp : PySem.W.plainOver K C = true) (ht : PySem.W.takerIn K C name = some none) (hh : PySem.W.hasDictIn K C = true)
    (hw : PySem.Within mA ns) (hsz : ns.length ≤ sizeLine)
    (h : ∀ h', ObjM h' x dx C (fun y => if y = name then some v else mA y) → Heap.SameBut dx s.heap h' → Q () { s with heap := h', toks := s.toks + 2 }) :
    wpAny (model prog w) A (setAttr (.ref x) name v) Q E s := by
  obtain ⟨od, J, hl⟩ := I.look
  refine PySem.W.set_plain X J hs (PySem.W.osa_open (s := { s with toks := s.toks + 1 }) (r := none) X J hp ht fun b => ?_)
  obtain ⟨cd, hc, hd'⟩ := PySem.W.any_some hh
  have hx : s.heap.get? x = some ⟨.ref C, some dx, .plain, #[]⟩ := I.obj
  refine wpAny_bind (wpAny_pure (wpAny_bind (wpAny_bind (wpAny_loadPart hx (wpAny_bind (PySem.W.Looks.here (s := { s with toks := s.toks + 1 }) (PySem.W.looks_clsIn X hc) ?_))))))
  rw [hd']
  refine wpAny_pure (a := some dx) (wpAny_bind (wpAny_pure (wpAny_bind ?_)))
  refine wpAny_nsSet1 (s := { s with toks := s.toks + 1 }) I.ns fun h' hn2 hs2 => ?_
  obtain ⟨oD, esD, epD, hoD, hdD, hcD⟩ := hn2.count (PySem.Within.cons name v hw)
  refine wpAny_bind (wpAny_lookBehind hoD (by rw [hdD]; exact pastItsLine_dict (Nat.le_trans hcD (by rw [List.length_cons]; omega))) ?_)
  exact wpAny_pure (h _ ⟨(hs2.2 _ (Ne.symm I.ne)).trans I.obj, hn2, I.ne⟩ hs2)

/-- C(..): the dict at the heap's end, the instance behind it; then its __init__ -/
theorem make_map {R : Result → Shared → Prop} {vs : List Value} {kw : List (Str × Value)} (X : K.In s.heap) (hm : PySem.W.makesIn K C = true)
    (hi : PySem.W.findIn K (.ref C) "__init__" = some (some (.ref f))) (hf : PySem.W.typeIn K (.ref f) = some (.type "function"))
    (h : codeAny (model prog w) (A.under (.builtin "type.__call__" ⟨.ref C :: vs, kw⟩)) (.call (.ref f) ⟨.ref (s.heap.objs.size + 1) :: vs, kw⟩) (PySem.W.InitBack (s.heap.objs.size + 1) R)
      { s with heap := (s.heap.push PySem.W.emptyDict).push (PySem.W.instObj C s.heap.objs.size) }) :
    codeAny (model prog w) A (.call (.ref C) ⟨vs, kw⟩) R s := by
  obtain ⟨hh, g, d, t, os⟩ := s
  exact PySem.W.make_core (PySem.W.makes_of X hm) (PySem.W.looks_findIn X hi) (fun self => PySem.W.bind_fn X self hf) (.inl rfl) h
end

/-! ### the attributes as a list of pairs -/
def putF (f : Str) (v : V) : List (Str × V) → List (Str × V)
  | [] => [(f, v)]
  | (g, x) :: r => if g = f then (g, v) :: r else (g, x) :: putF f v r
theorem lookup_putF (f g : Str) (v : V) : ∀ fs : List (Str × V), (putF f v fs).lookup g = if g = f then some v else fs.lookup g
  | [] => by
    show List.lookup g [(f, v)] = _
    by_cases h : g = f
    · have hb : (g == f) = true := beq_iff_eq.mpr h
      simp only [List.lookup, hb, if_pos h]
    · have hb : (g == f) = false := beq_eq_false_iff_ne.mpr h
      simp only [List.lookup, hb, if_neg h]
  | (k, x) :: r => by
    have ih := lookup_putF f g v r
    rw [show putF f v ((k, x) :: r) = (if k = f then (k, v) :: r else (k, x) :: putF f v r) from rfl]
    by_cases hk : k = f
    · rw [if_pos hk]
      by_cases h : g = k
      · have hb : (g == k) = true := beq_iff_eq.mpr h
        simp only [List.lookup, hb, if_pos (h.trans hk)]
      · have hb : (g == k) = false := beq_eq_false_iff_ne.mpr h
        simp only [List.lookup, hb, if_neg (fun e : g = f => h (e.trans hk.symm))]
    · rw [if_neg hk]
      by_cases h : g = k
      · have hb : (g == k) = true := beq_iff_eq.mpr h
        simp only [List.lookup, hb, if_neg (fun e : g = f => hk (h.symm.trans e))]
      · have hb : (g == k) = false := beq_eq_false_iff_ne.mpr h
        simp only [List.lookup, hb]
        exact ih
theorem keys_putF (f : Str) (v : V) : ∀ fs : List (Str × V), f ∈ (putF f v fs).map (·.1) ∧ ∀ g, g ∈ fs.map (·.1) → g ∈ (putF f v fs).map (·.1)
  | [] => ⟨by simp [putF], fun g h => by simp at h⟩
  | (k, x) :: r => by
    obtain ⟨i1, i2⟩ := keys_putF f v r
    rw [show putF f v ((k, x) :: r) = (if k = f then (k, v) :: r else (k, x) :: putF f v r) from rfl]
    by_cases hk : k = f
    · rw [if_pos hk]
      subst hk
      exact ⟨by simp, fun g h => by simpa using h⟩
    · rw [if_neg hk]
      refine ⟨?_, fun g h => ?_⟩
      · rw [List.map_cons]
        exact List.mem_cons_of_mem _ i1
      · rw [List.map_cons] at h ⊢
        rcases List.mem_cons.mp h with e | e
        · exact List.mem_cons.mpr (.inl e)
        · exact List.mem_cons_of_mem _ (i2 g e)
theorem length_putF (f : Str) (v : V) : ∀ fs : List (Str × V), (putF f v fs).length ≤ fs.length + 1
  | [] => by simp [putF]
  | (k, x) :: r => by
    have ih := length_putF f v r
    rw [show putF f v ((k, x) :: r) = (if k = f then (k, v) :: r else (k, x) :: putF f v r) from rfl]
    by_cases hk : k = f
    · rw [if_pos hk, List.length_cons, List.length_cons]; omega
    · rw [if_neg hk, List.length_cons, List.length_cons]; omega

theorem RelO.some_of {v : V} {o : Option Value} (r : RelO (some v) o) : ∃ u, o = some u ∧ RelV v u := by
  cases o with
  | none => exact (show False from r).elim
  | some u => exact ⟨u, rfl, r⟩
theorem handed_of {v : V} {u : Value} (r : RelV v u) : PySem.W.handedIn u = true := by
  cases v with
  | non => cases (show u = Value.none from r); rfl
  | bl b => cases (show u = Value.bool b from r); rfl
  | int i => obtain ⟨t, e⟩ := (show ∃ t, u = Value.int i t from r); cases e; rfl
  | str x => obtain ⟨t, e⟩ := (show ∃ t, u = Value.str x t from r); cases e; rfl
  | byt b => obtain ⟨t, e⟩ := (show ∃ t, u = Value.bytes b t from r); cases e; rfl
  | flt b => obtain ⟨t, e⟩ := (show ∃ t, u = Value.float b t from r); cases e; rfl
  | ref a => cases (show u = Value.ref a from r); rfl
  | ty n => cases (show u = Value.type n from r); rfl

section
variable {P : Program} {w : World} {H H' : Hp} {h h' : Heap} {a C dx : Addr} {fs fs' : List (Str × V)}
theorem ins_get (hok : HOk P w H h) (e : H a = some (.ins C dx fs)) : ∃ mA, ObjM h a dx C mA ∧ (∀ f, RelO (fs.lookup f) (mA f)) ∧ PySem.Within mA (fs.map (·.1)) ∧ fs.length ≤ 1000 ∧ H dx = some (.own a) := by
  obtain ⟨d, z, ne, ob, mA, n, r, q⟩ := (show ObjOk P w H h a (.ins C dx fs) from hok a _ e)
  exact ⟨mA, ⟨ob, n, ne⟩, r, q, z, d⟩
end

/-! ### what of the text a class must have -/
structure Cls (K : PySem.W.Frag) (C : Addr) : Prop where
  pg : PySem.W.plainGet K C Str.empty = true
  hd : PySem.W.hasDictIn K C = true
  po : PySem.W.plainOver K C = true
  sa : PySem.W.findIn K (.ref C) "__setattr__" = some (some (.builtin "object.__setattr__"))
theorem Cls.get {K : PySem.W.Frag} {C : Addr} (c : Cls K C) (f : Str) : PySem.W.plainGet K C f = true := c.pg
/-- no class of it has the name -/
def NoAttr (K : PySem.W.Frag) (C : Addr) (f : Str) : Prop := PySem.W.findIn K (.ref C) f = some none
theorem NoAttr.taker {K : PySem.W.Frag} {C : Addr} {f : Str} (n : NoAttr K C f) : PySem.W.takerIn K C f = some none := by
  unfold PySem.W.takerIn
  rw [show PySem.W.findIn K (.ref C) f = some none from n]
  rfl
/-- a constant of the class -/
structure Con (K : PySem.W.Frag) (C : Addr) (f : Str) (v : V) (u : Value) : Prop where
  at_ : PySem.W.findIn K (.ref C) f = some (some u)
  rel : RelV v u
  get : PySem.W.specialIn K u "__get__" = some none
  cp : PySem.W.copiedNames.contains f = false
/-- a method: a plain def of the class or of one above it -/
structure Meth (K : PySem.W.Frag) (C : Addr) (m : Str) (f : Addr) : Prop where
  at_ : PySem.W.findIn K (.ref C) m = some (some (.ref f))
  fn : PySem.W.isFn K (.ref f) = true
  kp : PySem.W.keepIn K (.ref f) = true

section
variable {X : Cx} {pins : List (Addr × Obj)} {σ : St} {H : Hp} {s : Shared} {a C dx : Addr} {fs : List (Str × V)} {f : Str} {v : V} {A : Around} {E : Value → Shared → Prop}

theorem getattr_ok {b : Bool} {Q : Value → Shared → Prop} (I : Inv X pins σ H s) (e : H a = some (.ins C dx fs)) (c : Cls X.K C) (n : NoAttr X.K C f) (l : fs.lookup f = some v)
    (h : ∀ u s', Inv X pins σ H s' → RelV v u → Q u s') : wpAny (model X.prog X.w) A (getAttr (.ref a) f b) Q E s := by
  obtain ⟨mA, O, r, _, _, _⟩ := ins_get I.hok e
  obtain ⟨u, hu, ru⟩ := RelO.some_of (v := v) (o := mA f) (by rw [← l]; exact r f)
  exact get_map I.kIn O (c.get f) c.hd n hu (handed_of ru) (h u _ (I.tok _) ru)

theorem setattr_ok {y : V} {u : Value} {Q : Unit → Shared → Prop} (I : Inv X pins σ H s) (e : H a = some (.ins C dx fs)) (c : Cls X.K C) (n : NoAttr X.K C f) (hl : fs.length < 1000) (ry : RelV y u)
    (h : ∀ s', Inv X pins σ (upd H a (.ins C dx (putF f y fs))) s' → Q () s') : wpAny (model X.prog X.w) A (setAttr (.ref a) f u) Q E s := by
  obtain ⟨mA, O, r, wi, _, ho⟩ := ins_get I.hok e
  have hz : (fs.map (·.1)).length ≤ sizeLine := by rw [List.length_map, sizeLine_eq]; omega
  refine set_map I.kIn O c.sa c.po n.taker c.hd wi hz fun h' O' sb => h _ ?_
  have hd : ∃ o, h'.get? dx = some o := let ⟨o, _, _, e', _⟩ := O'.ns; ⟨o, e'⟩
  refine I.write (x := a) (e := dx) (by rw [e]; exact True.intro) (.inr ho) (fun b q hb z => (sb.2 b hb).trans z) hd ?_
  refine ⟨by rw [upd_ne O.ne]; exact ho, ?_, O.ne, O'.obj, _, O'.ns, fun g => ?_, fun g hg => ?_⟩
  · have := length_putF f y fs; omega
  · show RelO ((putF f y fs).lookup g) (if g = f then some u else mA g)
    rw [lookup_putF]
    by_cases q : g = f
    · rw [if_pos q, if_pos q]; exact ry
    · rw [if_neg q, if_neg q]; exact r g
  · by_cases q : g = f
    · rw [q]; exact (keys_putF f y fs).1
    · refine (keys_putF f y fs).2 g (wi g fun z => hg ?_)
      show (if g = f then some u else mA g) = none
      rw [if_neg q]; exact z

/-- a new instance, tracked, without attributes -/
theorem Inv.made (I : Inv X pins σ H s) : Inv X pins σ (upd (upd H s.heap.objs.size (.own (s.heap.objs.size + 1))) (s.heap.objs.size + 1) (.ins C s.heap.objs.size []))
    { s with heap := (s.heap.push PySem.W.emptyDict).push (PySem.W.instObj C s.heap.objs.size) } := by
  have e1 : (s.heap.push PySem.W.emptyDict).get? s.heap.objs.size = some PySem.W.emptyDict := Heap.get?_push_size s.heap rfl
  have e2 : ((s.heap.push PySem.W.emptyDict).push (PySem.W.instObj C s.heap.objs.size)).get? (s.heap.objs.size + 1) = some (PySem.W.instObj C s.heap.objs.size) := by
    have := Heap.get?_push_size (s.heap.push PySem.W.emptyDict) (o := PySem.W.instObj C s.heap.objs.size) rfl
    rwa [Heap.size_push] at this
  have e3 : (s.heap.push PySem.W.emptyDict).Ns s.heap.objs.size (fun _ => none) := ⟨PySem.W.emptyDict, #[], _, e1, rfl, (fun e he => absurd he (by simp)), fun _ => rfl⟩
  have I1 := I.laid (a := s.heap.objs.size) (o := .own (s.heap.objs.size + 1)) (h' := s.heap.push PySem.W.emptyDict) (t' := s.toks) (fun b u q => Heap.get?_push_of_some _ q) (Nat.le_refl _) ⟨_, e1⟩
  refine I1.laid (a := s.heap.objs.size + 1) (o := .ins C s.heap.objs.size []) (t' := s.toks) (fun b u q => Heap.get?_push_of_some _ q) (Nat.le_of_eq (Heap.size_push _ _)) ?_
  have ne : s.heap.objs.size ≠ s.heap.objs.size + 1 := Nat.ne_of_lt (Nat.lt_succ_self _)
  refine ⟨by rw [upd_ne ne, upd_same], Nat.zero_le _, ne, e2, fun _ => none, (Heap.Ns1.of_empty e3).at fun o q => Heap.get?_push_of_some _ q, fun _ => True.intro, fun y hy => absurd rfl hy⟩

/-- e.f where nothing but the object is asked: through attributeBase (super) and the last hold -/
theorem attr_of {prog : Program} {w : World} {env : Env} {e : Expr} {f : Str} {pos : Pos} {s : Shared} {Q : Value → Shared → Prop} (hb : attributeBase e f env (eval e env) = eval e env)
    (h : wpAny (model prog w) A (eval e env) (fun o s₁ => wpAny (model prog w) A (getAttr o f true) Q E s₁) E s) : wpAny (model prog w) A (eval (.Attribute e f pos) env) Q E s :=
  Attribute_any_ h (by rw [arm_eval_Attribute, hb])
end

/-! ### readings and rules -/
/-- e.f, an attribute of the instance -/
def tFld (K : PySem.W.Frag) (ta : TE) (f : Str) : TE := fun σ H Q => ta σ H fun x H1 => ∃ a C dx fs v, x = .ref a ∧ H1 a = some (.ins C dx fs) ∧ Cls K C ∧ NoAttr K C f ∧ fs.lookup f = some v ∧ Q v H1
/-- e.f, a constant of the class -/
def tCon (K : PySem.W.Frag) (ta : TE) (f : Str) : TE := fun σ H Q => ta σ H fun x H1 => ∃ a C dx fs v u, x = .ref a ∧ H1 a = some (.ins C dx fs) ∧ Cls K C ∧ Con K C f v u ∧ fs.lookup f = none ∧ Q v H1
/-- e.f = value -/
def sFld (K : PySem.W.Frag) (ta tv : TE) (f : Str) : TS := fun D σ H => tv σ H fun y H1 => ta σ H1 fun x H2 => ∃ a C dx fs, x = .ref a ∧ H2 a = some (.ins C dx fs) ∧ Cls K C ∧ NoAttr K C f ∧ fs.length < 1000 ∧
  D.nx σ (upd H2 a (.ins C dx (putF f y fs)))
/-- an augmented operator on two values -/
def InOp (X : Cx) (op : Operator) (rd : V → V → Hp → VK → Prop) : Prop :=
  ∀ (pins : List (Addr × Obj)) (s : Shared) (σ : St) (H : Hp) (x y : V) (u v : Value) (Q : VK), Inv X pins σ H s → RelV x u → RelV y v → rd x y H Q → wpAny (model X.prog X.w) X.A (inplaceOp op u v) (EP X pins σ Q) X.xe s
/-- e.f op= value -/
def sFldAug (K : PySem.W.Frag) (ta tv : TE) (rd : V → V → Hp → VK → Prop) (f : Str) : TS := fun D σ H => ta σ H fun x H1 => ∃ a C dx fs v, x = .ref a ∧ H1 a = some (.ins C dx fs) ∧ Cls K C ∧ NoAttr K C f ∧ fs.lookup f = some v ∧
  tv σ H1 fun y H2 => rd v y H2 fun z H3 => ∃ dx' fs', H3 a = some (.ins C dx' fs') ∧ fs'.length < 1000 ∧ D.nx σ (upd H3 a (.ins C dx' (putF f z fs')))

section
variable {X : Cx} {o e value : Expr} {f : Str} {pos pos' tpos : Pos} {ta tv : TE}
theorem pe_fld (he : PE X e ta) (hb : attributeBase e f X.env (eval e X.env) = eval e X.env) : PE X (.Attribute e f pos) (tFld X.K ta f) := by
  intro pins s σ H Q I h
  refine attr_of hb (thn (he pins s σ H _ I h) fun u s1 ⟨x, H1, I1, rx, a, C, dx, fs, v, ex, ea, c, n, l, q⟩ => ?_)
  subst ex
  obtain rfl : u = Value.ref a := rx
  exact getattr_ok I1 ea c n l fun u' s2 I2 ru => ⟨v, H1, I2, ru, q⟩
theorem ps_fld (ha : PE X o ta) (hv : PE X value tv) (hs : swapsWith value (some (.Attribute o f pos')) pos.line X.env = pure false) : PS X (.Assign [.Attribute o f pos'] value pos) (sFld X.K ta tv f) := by
  intro pins s σ H D I h
  refine plainObj_wpAny_Assign_Attribute (thn (hv pins s σ H _ I h) fun u s1 ⟨y, H1, I1, ry, q⟩ => thn (ha pins s1 σ H1 _ I1 q) fun ov s2 ⟨x, H2, I2, rx, a, C, dx, fs, ex, ea, c, n, l, q2⟩ => ?_) hs
  subst ex
  obtain rfl : ov = Value.ref a := rx
  exact setattr_ok I2 ea c n l ry fun s3 I3 => ⟨σ, _, I3, q2⟩
def rAdd : V → V → Hp → VK → Prop := fun x y H Q => ∃ i j, x = .int i ∧ y = .int j ∧ Q (.int (i + j)) H
def rSub : V → V → Hp → VK → Prop := fun x y H Q => ∃ i j, x = .int i ∧ y = .int j ∧ Q (.int (i - j)) H
end

/-! ### isinstance -/
section
variable {X : Cx} {pins : List (Addr × Obj)} {σ : St} {H : Hp} {s : Shared} {A : Around} {E : Value → Shared → Prop} {Q : Value → Shared → Prop} {c : Value} {b : Bool}
/-- the type of a value, as the fragment's deciders take it; for an instance its class -/
inductive TyOf (K : PySem.W.Frag) (H : Hp) : V → Value → Prop where
  | non : TyOf K H .non (.type "NoneType")
  | bl (x : Bool) : TyOf K H (.bl x) (.type "bool")
  | int (i : Int) : TyOf K H (.int i) (.type "int")
  | str (x : Str) : TyOf K H (.str x) (.type "str")
  | flt (x : UInt64) : TyOf K H (.flt x) (.type "float")
  | lst {a : Addr} {xs : List V} (e : H a = some (.lst xs)) : TyOf K H (.ref a) (.type "list")
  | frz {a : Addr} {o : Obj} {xs : List V} (e : H a = some (.frz o (.lst xs))) : TyOf K H (.ref a) (.type "list")
  | tup {a : Addr} {xs : List V} (e : H a = some (.tup xs)) : TyOf K H (.ref a) (.type "tuple")
  | dK {a : Addr} {kvs : List (Key × V)} (e : H a = some (.dK kvs)) : TyOf K H (.ref a) (.type "dict")
  | dT {a : Addr} {kvs : List (List Key × V)} (e : H a = some (.dT kvs)) : TyOf K H (.ref a) (.type "dict")
  | ins {a C dx : Addr} {fs : List (Str × V)} (e : H a = some (.ins C dx fs)) (cl : Cls K C) (ha : PySem.W.findIn K (.ref C) "__class__" = some (some (.builtin "object.__class__")))
      (hn : PySem.W.specialIn K (.builtin "object.__class__") "__get__" = some (some (.builtin "getset_descriptor.__get__"))) (htk : PySem.W.takesIn K (.builtin "object.__class__") = some true)
      (hm : PySem.W.mroIn K C (.type "object") = some true) : TyOf K H (.ref a) (.ref C)
end
end L2

namespace L2
open PySem PySem.Spec PyProof.Rows

/-! ### room -/
structure Room (k : Nat) (A : Around) : Prop where
  hd : A.handled = none
  dp : A.depth + 3 * k + 5 < recursionLimit
  un : A.units + 16 * k + 200 < cLine
theorem Room.mono {j k : Nat} {A : Around} (r : Room k A) (h : j ≤ k) : Room j A := ⟨r.hd, by have := r.dp; omega, by have := r.un; omega⟩
theorem Room.deeper {k : Nat} {A : Around} (r : Room (k + 1) A) (env : Env) : Room k (A.deeper env) :=
  ⟨r.hd, by have := r.dp; show A.depth + 1 + 3 * k + 5 < _; omega, by have := r.un; show A.units + 3 + 16 * k + 200 < _; omega⟩
theorem make_depth {A : Around} {C : Addr} {us : List Value} {kw : List (Str × Value)} : (A.under (.builtin "type.__call__" ⟨.ref C :: us, kw⟩)).depth = A.depth + 1 := by
  first | rfl | simp [Around.under, Code.weight, Code.isCreation, Code.isGuard, Code.isCaller, Code.frames, Code.isFrame, guardIds]
theorem make_units {A : Around} {C : Addr} {us : List Value} {kw : List (Str × Value)} : (A.under (.builtin "type.__call__" ⟨.ref C :: us, kw⟩)).units = A.units + 1 := by
  first | rfl | simp [Around.under, Code.cUnits, Code.frames, Code.isFrame]
theorem Room.make {k : Nat} {A : Around} (r : Room (k + 1) A) (C : Addr) (us : List Value) (kw : List (Str × Value)) : Room k (A.under (.builtin "type.__call__" ⟨.ref C :: us, kw⟩)) :=
  ⟨r.hd, by have := r.dp; rw [make_depth]; omega, by have := r.un; rw [make_units]; omega⟩
theorem Room.depth {k : Nat} {A : Around} (r : Room k A) : A.depth < recursionLimit := by have := r.dp; omega
theorem Room.units {k : Nat} {A : Around} (r : Room k A) : A.units + 64 < cLine := by have := r.un; omega
/-! ### argument lists and displays -/
def tNil : TA := fun _ H Q => Q [] H
def tCons (ta : TE) (tr : TA) : TA := fun σ H Q => ta σ H fun x H1 => tr σ H1 fun xs H2 => Q (x :: xs) H2
section
variable {X : Cx} {e : Expr} {es : List Expr} {te : TE} {t : TA} {pos : Pos}
theorem pa_nil : PA X [] tNil := fun _ _ _ _ H Q I h => Calls.spliced_nil ⟨[], H, I, .nil, h⟩
theorem pa_cons (ha : PE X e te) (hr : PA X es t) (hs : starEach (e :: es) X.env = (false, eval e X.env) :: starEach es X.env := by rfl) : PA X (e :: es) (tCons te t) := by
  intro pos pins s σ H Q I h
  rw [hs]
  show wpAny _ _ (spliced ((false, eval e X.env) :: backTo pos (starEach es X.env))) _ _ s
  refine Calls.spliced_cons (thn (ha pins s σ H _ I h) fun u s1 ⟨x, H1, I1, r1, q1⟩ => ?_)
  exact thn (hr pos pins s1 σ H1 _ I1 q1) fun us s2 ⟨xs, H2, I2, r2, q2⟩ => ⟨x :: xs, H2, I2, .cons r1 r2, q2⟩

/-- a tuple, a list of written items -/
def tTup (t : TA) : TE := fun σ H Q => t σ H fun xs H1 => xs.length ≤ sizeLine ∧ ∀ p, H1 p = none → Q (.ref p) (upd H1 p (.tup xs))
def tLst (t : TA) : TE := fun σ H Q => t σ H fun xs H1 => xs.length ≤ sizeLine ∧ ∀ p, H1 p = none → Q (.ref p) (upd H1 p (.lst xs))
theorem pe_tup {x1} (h : PA X es t) : PE X (.Tuple es x1 pos) (tTup t) := by
  intro pins s σ H Q I hq
  refine wpAny_Tuple_spliced (thn (h pos pins s σ H _ I hq) fun us s1 ⟨xs, H1, I1, r, z, q⟩ => ⟨by rw [← r.length]; exact z, ?_⟩)
  have hf : H1 s1.heap.objs.size = none := I1.hok.fresh (Nat.le_refl _)
  refine ⟨.ref s1.heap.objs.size, upd H1 s1.heap.objs.size (.tup xs), I1.laid (t' := s1.toks) (fun b u e => Heap.get?_push_of_some _ e) (Nat.le_refl _) ?_, rfl, q _ hf⟩
  exact ⟨z, us, r, ⟨_, Heap.get?_push_size _ rfl, rfl, _, rfl⟩⟩
theorem pe_lst (h : PA X es t) : PE X (.List es pos) (tLst t) := by
  intro pins s σ H Q I hq
  refine wpAny_List_spliced (thn (h pos pins s σ H _ I hq) fun us s1 ⟨xs, H1, I1, r, z, q⟩ => ⟨by rw [← r.length]; exact z, ?_⟩)
  have hf : H1 s1.heap.objs.size = none := I1.hok.fresh (Nat.le_refl _)
  refine ⟨.ref s1.heap.objs.size, upd H1 s1.heap.objs.size (.lst xs), I1.laid (t' := s1.toks) (fun b u e => Heap.get?_push_of_some _ e) (Nat.le_refl _) ?_, rfl, q _ hf⟩
  exact ⟨z, us, 0, r, Heap.get?_push_size _ rfl⟩
end

/-! ### what a def promises -/
/-- a def's promise: the bound arguments in the parameters' order, the heap, the wanted end, the wanted exception -/
abbrev Sp := List V → Hp → VK → XK → Prop
/-- how an exception lies behind a call (file 08 gives it): the callers' frames, abstract heap and state ahead of the call, the wish, the exception, the state -/
abbrev CXT := List Env → Hp → Shared → XK → Value → Shared → Prop

/-- the state at a call -/
structure Env0 (P : Program) (w : World) (K : PySem.W.Frag) (mg : Str → Option Value) (base : Heap) (A : Around) (outer : List Env) (s : Shared) (H : Hp) : Prop where
  frames : A.frames = some outer
  mod : Mod K mg base
  bs : ∀ b o, base.get? b = some o → s.heap.get? b = some o ∧ H b = none
  bsz : base.objs.size ≤ s.heap.objs.size
  funs : s.heap.FunFrames base outer
  frf : ∀ b ∈ frs outer, H b = none
  hok : HOk P w H s.heap
  bare : AllBare s.gens
/-- a call's end -/
def CE (outer : List Env) (P : Program) (w : World) (H : Hp) (s : Shared) (Q : VK) (u : Value) (s' : Shared) : Prop :=
  ∃ v H', s'.os = s.os ∧ AllBare s'.gens ∧ Un (frs outer) [] H H' s.heap s'.heap ∧ HOk P w H' s'.heap ∧ RelV v u ∧ Q v H'
def CR (CX : CXT) (outer : List Env) (P : Program) (w : World) (H : Hp) (s : Shared) (Q : VK) (E : XK) (r : Result) (s' : Shared) : Prop :=
  match r with
  | .ok (.ret u) => CE outer P w H s Q u s'
  | .ok _ => False
  | .error e => CX outer H s E e s'
structure FnOk (P : Program) (w : World) (K : PySem.W.Frag) (mg : Str → Option Value) (base : Heap) (CX : CXT) (k : Nat) (f : Addr) (fd : FuncData) (ps : List Str) (sp : Sp) : Prop where
  len : ∀ vs H Q E, sp vs H Q E → vs.length = ps.length
  run : ∀ (A : Around) (outer : List Env) (s : Shared) (H : Hp) (args : Args) (us : List Value) (vs : List V) (Q : VK) (E : XK), Room k A → Env0 P w K mg base A outer s H → BindsTo s fd args (ps.zip us) → Vals vs us → sp vs H Q E →
    codeAny (model P w) A (.call (.ref f) args) (CR CX outer P w H s Q E) s
/-- a weaker promise -/
theorem FnOk.imp {P : Program} {w : World} {K : PySem.W.Frag} {mg : Str → Option Value} {base : Heap} {CX : CXT} {k : Nat} {f : Addr} {fd : FuncData} {ps : List Str} {sp sp' : Sp} (F : FnOk P w K mg base CX k f fd ps sp)
    (h : ∀ vs H Q E, sp' vs H Q E → sp vs H Q E) : FnOk P w K mg base CX k f fd ps sp' :=
  ⟨fun vs H Q E q => F.len vs H Q E (h _ _ _ _ q), fun A outer s H args us vs Q E hr he hb hv hs => F.run A outer s H args us vs Q E hr he hb hv (h _ _ _ _ hs)⟩

theorem Env0.make {P : Program} {w : World} {K : PySem.W.Frag} {mg : Str → Option Value} {base : Heap} {A : Around} {outer : List Env} {s : Shared} {H : Hp} (e : Env0 P w K mg base A outer s H) (C : Addr) (us : List Value) (kw : List (Str × Value)) :
    Env0 P w K mg base (A.under (.builtin "type.__call__" ⟨.ref C :: us, kw⟩)) outer s H := ⟨by first | exact e.frames | (simpa [Around.under, Code.envs, Code.isFrame, pushEnvs] using e.frames), e.mod, e.bs, e.bsz, e.funs, e.frf, e.hok, e.bare⟩
section
variable {X : Cx} {pins : List (Addr × Obj)} {σ : St} {H : Hp} {s s' : Shared}
/-- from a body: what a callee wants -/
theorem Inv.env0 (I : Inv X pins σ H s) : Env0 X.prog X.w X.K X.mg X.base X.A X.stack s H :=
  ⟨I.ok.frames, I.ok.mod, I.bs, Nat.le_trans I.ok.bsz I.sz, I.stack, I.stkFree, I.hok, I.bare⟩
/-- behind a call -/
theorem Inv.after {Q : VK} {u : Value} (I : Inv X pins σ H s) (h : CE X.stack X.prog X.w H s Q u s') : EP X pins σ Q u s' := by
  obtain ⟨v, H', os, bare, un, hok, r, q⟩ := h
  obtain ⟨hh, g, d, t, os'⟩ := s'
  obtain rfl : os' = s.os := os
  exact ⟨v, H', I.call (h' := hh) (g' := g) (d' := d) (t' := t) (ch := []) un hok bare (fun b z => absurd z (by simp)), r, q⟩
end

/-! ### calls -/
/-- f(..): the written arguments, then the defaults dvs; E: what is wanted of an exception -/
def tCall (sp : Sp) (dvs : List V) (E : XK) (t : TA) : TE := fun σ H Q => t σ H fun vs H1 => sp (vs ++ dvs) H1 Q E
/-- o.m(..) of an instance of the class at C -/
def tMeth (C : Addr) (m : Str) (sp : Sp) (dvs : List V) (E : XK) (ta : TE) (t : TA) : TE := fun σ H Q => ta σ H fun x H1 => ∃ a dx fs, x = .ref a ∧ H1 a = some (.ins C dx fs) ∧ fs.lookup m = none ∧
  t σ H1 fun vs H2 => sp (x :: (vs ++ dvs)) H2 Q E
/-- C(..): a new instance and its dict, then __init__ -/
def tMake (C : Addr) (sp : Sp) (dvs : List V) (E : XK) (t : TA) : TE := fun σ H Q => t σ H fun vs H1 => ∀ x dx, H1 x = none → H1 dx = none → dx ≠ x →
  sp (.ref x :: (vs ++ dvs)) (upd (upd H1 dx (.own x)) x (.ins C dx [])) (fun v H2 => v = .non ∧ Q (.ref x) H2) E

/-- how the parameters are bound: us the positional arguments, kw the keywords' values by name, ds the defaults that fill up -/
def Binds (K : PySem.W.Frag) (fd : FuncData) (ps : List Str) (ds : List Value) : Prop :=
  ∀ (s : Shared) (us : List Value), K.In s.heap → (us ++ ds).length = ps.length → BindsTo s fd ⟨us, []⟩ (ps.zip (us ++ ds))
/-- every parameter is given -/
theorem Binds.all {K : PySem.W.Frag} {fd : FuncData} {ps : List Str} (h : ∀ us : List Value, us.length = ps.length → bindArgs fd ⟨us, []⟩ = pure (ps.zip us)) : Binds K fd ps [] := fun s us _ hl => by
  rw [List.append_nil] at hl ⊢
  exact .of_eq (h us hl)

/-- an exception of a callee reaches what this body wants of exceptions -/
def Passes (CX : CXT) (X : Cx) (E : XK) : Prop := ∀ (pins : List (Addr × Obj)) (σ : St) (H : Hp) (s : Shared) (e : Value) (s' : Shared), Inv X pins σ H s → CX X.stack H s E e s' → X.xe e s'

section
variable {X : Cx} {CX : CXT} {k : Nat} {f C : Addr} {fd : FuncData} {ps : List Str} {sp : Sp} {dvs : List V} {ds : List Value} {E : XK} {x m : Str} {p pos apos : Pos} {e o : Expr} {es : List Expr} {ta : TE} {t : TA}

/-- what a class must have to be made -/
structure Mk (K : PySem.W.Frag) (C f : Addr) : Prop where
  makes : PySem.W.makesIn K C = true
  init : PySem.W.findIn K (.ref C) "__init__" = some (some (.ref f))
  fn : PySem.W.isFn K (.ref f) = true
  kp : PySem.W.keepIn K (.ref C) = true

end

/-! ### keywords -/
/-- the values of the keywords, from the left -/
def PK (X : Cx) (kws : List Keyword) (t : TA) : Prop :=
  ∀ (pos : Pos) (pins : List (Addr × Obj)) (s : Shared) (σ : St) (H : Hp) (Q : List V → Hp → Prop), Inv X pins σ H s → t σ H Q → wpAny (model X.prog X.w) X.A (evalAll ((backToKw pos (keywordEach kws X.env)).map (·.2))) (AP X pins σ Q) X.xe s
section
variable {X : Cx} {CX : CXT} {k : Nat} {f C : Addr} {fd : FuncData} {ps ks : List Str} {sp : Sp} {E : XK} {x m : Str} {p pos apos kpos : Pos} {e o : Expr} {es : List Expr} {kws : List Keyword} {te ta : TE} {t tk : TA} {nm : Option Str}
/-- how a call with keywords binds: g puts the positional values us and the keywords' values ws (names ks) in the parameters' order, defaults among them -/
structure KBinds (K : PySem.W.Frag) (fd : FuncData) (ps ks : List Str) (g : List Value → List Value → List Value) (gV : List V → List V → List V) : Prop where
  to : ∀ (s : Shared) (us ws : List Value), K.In s.heap → (g us ws).length = ps.length → BindsTo s fd ⟨us, ks.zip ws⟩ (ps.zip (g us ws))
  rel : ∀ {vs : List V} {us : List Value} {zs : List V} {ws : List Value}, Vals vs us → Vals zs ws → Vals (gV vs zs) (g us ws)
def tCallK (sp : Sp) (gV : List V → List V → List V) (E : XK) (t tk : TA) : TE := fun σ H Q => t σ H fun vs H1 => tk σ H1 fun zs H2 => sp (gV vs zs) H2 Q E
variable {g : List Value → List Value → List Value} {gV : List V → List V → List V}
end

/-! ### a def's body keeps its promise -/
/-- names: the parameters first -/
structure FnScope (N P : List Str) (sc : Scope) : Prop where
  kind : sc.kind = .function
  co : sc.isCoroutine = false
  gen : sc.isGenerator = false
  nd : N.Nodup
  pre : N.take P.length = P
  par : ∀ x ∈ P, sc.names.lookup x = some .local ∨ sc.names.lookup x = some .cell
  nofree : ∀ y ∈ sc.names, y.2 ≠ .free

theorem bindL_out {kindOf : Str → Option NameKind} {x : Str} : ∀ {binds : List (Str × Value)} {m : Str → Option Value}, (∀ v, (x, v) ∉ binds) → bindL kindOf binds m x = m x
  | [], _, _ => rfl
  | (n, v) :: r, m, h => by
    unfold bindL
    rw [bindL_out fun w hw => h w (List.mem_cons_of_mem _ hw)]
    split
    · have : x ≠ n := by rintro rfl; exact h v List.mem_cons_self
      simp [this]
    · rfl
theorem bindC_out {kindOf : Str → Option NameKind} {x : Str} : ∀ {binds : List (Str × Value)} {m : Str → Option Value}, (∀ v, (x, v) ∉ binds) → bindC kindOf binds m x = m x
  | [], _, _ => rfl
  | (n, v) :: r, m, h => by
    unfold bindC
    rw [bindC_out fun w hw => h w (List.mem_cons_of_mem _ hw)]
    split
    · rfl
    · have : x ≠ n := by rintro rfl; exact h v List.mem_cons_self
      simp [this]
theorem bindL_get {kindOf : Str → Option NameKind} {x : Str} {v : Value} : ∀ {P : List Str} {vs : List Value} {i : Nat} {m : Str → Option Value}, P.Nodup → P[i]? = some x → vs[i]? = some v → kindOf x = some .local →
    bindL kindOf (P.zip vs) m x = some v
  | [], _, _, _, _, h, _, _ => by simp at h
  | _ :: _, [], _, _, _, _, h, _ => by simp at h
  | p :: P, w :: vs, 0, m, nd, h1, h2, hk => by
    simp at h1 h2; subst h1; subst h2
    show bindL kindOf ((p, w) :: P.zip vs) m p = _
    unfold bindL
    rw [bindL_out fun v hv => (List.nodup_cons.mp nd).1 (List.of_mem_zip hv).1, if_pos hk]
    simp
  | p :: P, w :: vs, i + 1, m, nd, h1, h2, hk => by
    show bindL kindOf ((p, w) :: P.zip vs) m x = _
    unfold bindL
    exact bindL_get (i := i) (List.nodup_cons.mp nd).2 (by simpa using h1) (by simpa using h2) hk
theorem bindC_get {kindOf : Str → Option NameKind} {x : Str} {v : Value} : ∀ {P : List Str} {vs : List Value} {i : Nat} {m : Str → Option Value}, P.Nodup → P[i]? = some x → vs[i]? = some v → kindOf x ≠ some .local →
    bindC kindOf (P.zip vs) m x = some v
  | [], _, _, _, _, h, _, _ => by simp at h
  | _ :: _, [], _, _, _, _, h, _ => by simp at h
  | p :: P, w :: vs, 0, m, nd, h1, h2, hk => by
    simp at h1 h2; subst h1; subst h2
    show bindC kindOf ((p, w) :: P.zip vs) m p = _
    unfold bindC
    rw [bindC_out fun v hv => (List.nodup_cons.mp nd).1 (List.of_mem_zip hv).1, if_neg hk]
    simp
  | p :: P, w :: vs, i + 1, m, nd, h1, h2, hk => by
    show bindC kindOf ((p, w) :: P.zip vs) m x = _
    unfold bindC
    exact bindC_get (i := i) (List.nodup_cons.mp nd).2 (by simpa using h1) (by simpa using h2) hk

/-- the names' values at the entry -/
def start (N : List Str) (vs : List V) : St := vs.map some ++ List.replicate (N.length - vs.length) none

/-- the context of a def's body, at its entry; an exception leaves the frame, then lies as CX says -/
def cxOf (CX : CXT) (P : Program) (w : World) (K : PySem.W.Frag) (mg : Str → Option Value) (base : Heap) (N : List Str) (qual : Str) (scope : Scope) (f : Addr) (cd : Value) (A : Around) (outer : List Env) (s : Shared) (H : Hp) (E : XK) : Cx where
  prog := P
  w := w
  K := K
  mg := mg
  base := base
  A := A.deeper (envOfC qual scope s.heap.objs.size f cd)
  N := N
  s₀ := s
  H₀ := H
  env := envOfC qual scope s.heap.objs.size f cd
  outer := outer
  stack := envOfC qual scope s.heap.objs.size f cd :: outer
  ex := []
  calm := true
  fn := fun _ => true
  pn := []
  xe := fun e s' => wpAny (model P w) (A.deeper (envOfC qual scope s.heap.objs.size f cd)) (leaving (envOfC qual scope s.heap.objs.size f cd) e) (fun _ s'' => CX outer H s E e s'') (fun e' s'' => CX outer H s E e' s'') s'

theorem cell_has {sc : Scope} {n : Nat} {x : Str} (h : sc.names.lookup x = some .cell) : ∃ c, (cellsFrom n sc.names []).lookup x = some c := by
  have q := PySem.W.cellsFrom_some sc.names n [] (.inl h)
  exact Option.isSome_iff_exists.mp q

theorem inv_start {CX : CXT} {P : Program} {w : World} {K : PySem.W.Frag} {mg : Str → Option Value} {base : Heap} {N ps : List Str} {qual : Str} {scope : Scope} {f : Addr} {cd : Value} {A : Around} {outer : List Env} {s s1 : Shared} {H : Hp} {E : XK} {us : List Value} {vs : List V}
    (S : FnScope N ps scope) (hd : A.handled = none) (e0 : Env0 P w K mg base A outer s H) (hl : vs.length = ps.length) (r : Vals vs us)
    (x : InCallC s s.heap.objs.size (bindL (envOfC qual scope s.heap.objs.size f cd).kindOf (ps.zip us) fun _ => none) (cellsFrom (s.heap.objs.size + 1) scope.names []) (bindC (envOfC qual scope s.heap.objs.size f cd).kindOf (ps.zip us) fun _ => none) s1) :
    Inv (cxOf CX P w K mg base N qual scope f cd A outer s H E) [] (start N vs) H s1 := by
  have hpl : ps.length ≤ N.length := by have := congrArg List.length S.pre; rw [List.length_take] at this; omega
  obtain ⟨h1, tk, rfl, hk⟩ := x.done
  have noA : ∀ b : Addr, b ∉ (cxOf CX P w K mg base N qual scope f cd A outer s H E).ex := fun b z => absurd (show b ∈ ([] : List Addr) from z) (by simp)
  refine ⟨⟨e0.mod, S.kind, rfl, rfl, Nat.le_refl _, fun y z c h1 h2 => ?_, fun y hy => ?_, fun y c _ h => ?_, fun _ => hd, Around.frames_deeper e0.frames, .inr ⟨rfl, rfl⟩, fun b z => absurd z (noA b), e0.bs, e0.bsz, fun b _ _ => noA b, fun b z => absurd z (noA b), e0.funs, e0.frf⟩,
    rfl, e0.bare, Un.kept hk, ⟨_, x.toInCall.ns, fun i y v h1 h2 h3 => ?_⟩, fun y c h => ⟨_, x.cell y c h⟩, e0.hok.fresh (Nat.le_refl _), fun y c h => ?_, fun p hp => absurd (show p ∈ ([] : List (Addr × Obj)) from hp) (by simp), e0.hok.kept hk, ?_⟩
  · exact name_of_addr x.apart (PySem.mem_of_lookup h1) (PySem.mem_of_lookup h2)
  · have hy : scope.names.lookup y = some .cell ∨ scope.names.lookup y = some .free := hy
    rcases hy with hy | hy
    · exact cell_has hy
    · exact absurd rfl (S.nofree _ (PySem.mem_of_lookup hy))
  · exact Nat.le_of_lt (x.above y c (PySem.mem_of_lookup h))
  · have hi : i < vs.length := by
      unfold start at h2
      by_cases hi : i < vs.length
      · exact hi
      · rw [List.getElem?_append_right (by simpa using hi)] at h2
        rw [List.getElem?_replicate] at h2
        split at h2 <;> cases h2
    have ha : vs[i]? = some v := by
      unfold start at h2
      rw [List.getElem?_append_left (by simpa using hi), List.getElem?_map] at h2
      cases e : vs[i]? with
      | none => rw [e] at h2; cases h2
      | some a => rw [e] at h2; cases h2; rfl
    obtain ⟨u, hu, rv⟩ := r.get ha
    have hp : ps[i]? = some y := by
      rw [← S.pre, List.getElem?_take_of_lt (by omega)]; exact h1
    have ndP : ps.Nodup := by rw [← S.pre]; exact S.nd.sublist (List.take_sublist _ _)
    refine ⟨u, rv, ?_⟩
    rcases S.par y (List.mem_of_getElem? hp) with k | k
    · exact .inl ⟨k, bindL_get ndP hp hu k⟩
    · obtain ⟨c, e⟩ := cell_has (n := s.heap.objs.size + 1) k
      refine .inr ⟨.inl k, c, e, ?_⟩
      have q := x.cell y c e
      rw [bindC_get ndP hp hu (by show scope.names.lookup y ≠ _; rw [k]; decide)] at q
      exact q
  · exact e0.hok.fresh (Nat.le_of_lt (x.above y c (PySem.mem_of_lookup h)))
  · unfold start
    show _ = N.length
    rw [List.length_append, List.length_map, List.length_replicate]
    omega

/-- THE RULE: a def (or a method) of the text, by its body. The body's reading t is chosen for each entry; it is run at the parameters' values -/
theorem fn_of {CX : CXT} {P : Program} {w : World} {K : PySem.W.Frag} {mg : Str → Option Value} {base : Heap} {k : Nat} {f : Addr} {name qual : Str} {params : Arguments} {body : List Stmt} {scope : Scope} {dV kV doc pm cdv ct oc : Value} {an od : Option Addr}
    {osl : Array (Option Value)} {N ps : List Str} {sp : Sp} (lk : K.lookup f = some ⟨oc, od, .func (PySem.W.fnOf name qual params body scope dV kV doc pm an cdv ct), osl⟩) (hcd : PySem.W.codeIn K cdv qual = true) (S : FnScope N ps scope)
    (len : ∀ vs H Q E, sp vs H Q E → vs.length = ps.length)
    (hbody : ∀ (A : Around) (outer : List Env) (s : Shared) (H : Hp) (vs : List V) (Q : VK) (E : XK), Room k (A.deeper (envOfC qual scope s.heap.objs.size f cdv)) → sp vs H Q E →
      ∃ t, PSs (cxOf CX P w K mg base N qual scope f cdv A outer s H E) body t ∧ t { nx := fun _ H' => Q .non H', rt := Q } (start N vs) H) :
    FnOk P w K mg base CX (k + 1) f (PySem.W.fnOf name qual params body scope dV kV doc pm an cdv ct) ps sp := by
  refine ⟨len, fun A outer s H args us vs Q E hr e0 hb r hsp => ?_⟩
  have hl := len _ _ _ _ hsp
  have KX : K.In s.heap := e0.mod.kin.keeps fun b o e => (e0.bs b o e).1
  have lim : s.heap.NoLimit := e0.mod.nolimit.keeps fun b o e => (e0.bs b o e).1
  have hkind : ∀ y ∈ ps.zip us, scope.names.lookup y.1 = some .local ∨ (scope.names.lookup y.1 = some .cell ∧ ((cellsFrom (s.heap.objs.size + 1) scope.names []).lookup y.1).isSome = true) := fun ⟨n, v⟩ hy => by
    rcases S.par n (List.of_mem_zip hy).1 with q | q
    · exact .inl q
    · exact .inr ⟨q, PySem.W.cellsFrom_some _ _ _ (.inl q)⟩
  refine codeAny_call_function hr.depth (KX _ _ lk) rfl S.co S.gen rfl (PySem.W.codeRec_of KX hcd) (hb _ _ _ _ ?_)
  refine wpAny_newFunctionEnv_cells S.kind hkind fun env he s1 x => ?_
  subst he
  refine ⟨lim.keeps x.toInCall.keep, codeAny_func ?_⟩
  obtain ⟨t, ht, hq⟩ := hbody A outer s H vs Q E (hr.deeper _) hsp
  have I : Inv (cxOf CX P w K mg base N qual scope f cdv A outer s H E) [] (start N vs) H s1 := inv_start S hr.hd e0 hl r x
  refine wpAny_mono (ht [] s1 (start N vs) H _ I hq) (fun fl s' hs => ?_) fun e s' hs => hs
  have fin : ∀ {σ' : St} {H' : Hp} {v : V} {u : Value}, Inv (cxOf CX P w K mg base N qual scope f cdv A outer s H E) [] σ' H' s' → RelV v u → Q v H' → CE outer P w H s Q u s' :=
    fun {σ' H' v u} J rv q => ⟨v, H', J.os, J.bare, J.base, J.hok, rv, q⟩
  cases fl with
  | ret u =>
    obtain ⟨v, σ', H', J, rv, q⟩ := hs
    exact fin J rv q
  | next =>
    obtain ⟨σ', H', J, q⟩ := hs
    exact fin (v := V.non) (u := Value.none) J rfl q
  | brk =>
    obtain ⟨_, _, _, q⟩ := hs
    exact False.elim q
  | cont =>
    obtain ⟨_, _, _, q⟩ := hs
    exact False.elim q
end L2

namespace L2
open PySem PySem.Spec PyProof.Rows
section
variable {X : Cx} {x : Str} {p pos : Pos} {e : Expr} {es : List Expr} {t : TA} {id T : String} {r : List V → Hp → VK → Prop}

def tCB (r : List V → Hp → VK → Prop) (t : TA) : TE := fun σ H Q => t σ H fun vs H1 => r vs H1 Q
end
end L2

namespace HT
open PySem PyProof.Rows

/-- t < u of tuples of ints -/
def lexLt : List Int → List Int → Bool
  | [], [] => false
  | [], _ :: _ => true
  | _ :: _, [] => false
  | x :: xs, y :: ys => if x = y then lexLt xs ys else decide (x < y)
theorem lexLt_cons (x y : Int) (xs ys : List Int) : lexLt (x :: xs) (y :: ys) = if x = y then lexLt xs ys else decide (x < y) := rfl
theorem lexLt_nil_nil : lexLt [] [] = false := rfl
theorem lexLt_nil_cons (y : Int) (ys : List Int) : lexLt [] (y :: ys) = true := rfl
theorem lexLt_cons_nil (x : Int) (xs : List Int) : lexLt (x :: xs) [] = false := rfl

theorem eqAt_int (A : Around) (s : Shared) (a : Int) (t : Tok) (c : Int) (u : Tok) : ∃ e, SeqAt.EqAt A s (.int a t) (.int c u) e ∧ (e = true ↔ a = c) :=
  ⟨(a == c), SeqAt.EqAt.int_int a t c u, by simp⟩
theorem rcLt_int (A : Around) (s : Shared) (a : Int) (t : Tok) (c : Int) (u : Tok) (prog : Program) (w : World) (E : Value → Shared → Prop) (Q : Value → Shared → Prop) (h : Q (.bool (decide (a < c))) s) :
    wpAny (model prog w) A (richCompare .Lt (.int a t) (.int c u)) Q E s :=
  (PyProof.Rows.lt_int h : wpAny (model prog w) A (compareOp .Lt (.int a t) (.int c u)) Q E s)

section
open PySem.SeqAt
open PySem.AutoSeq1 (wpAny_loadPart')
open PySem.MeetsSeq PySem.MeetsSeq2 PySem.MeetsSeq3

theorem tuple_lt_ints (l b : Addr) (items items2 : Array Value) (n n2 : Nat) (dd dd2 : Option Addr) (sl sl2 : Array (Option Value)) (ns ms : List Int) (hi : IntsAre items.toList ns) (hj : IntsAre items2.toList ms) :
    Meets (Builtin.«tuple.__lt__» ⟨[.ref l, .ref b], []⟩)
      (fun _ R s => s.heap.get? l = some { cls := .type "tuple", dict := dd, data := .seq items n, slots := sl } ∧ s.heap.get? b = some { cls := .type "tuple", dict := dd2, data := .seq items2 n2, slots := sl2 } ∧
        R (.ok (.ret (.bool (lexLt ns ms)))) s) :=
  .of_wp fun prog w A R s h => by
    obtain ⟨hp, g, d, tk, os⟩ := s; obtain ⟨hl, hb, h⟩ := h
    have f2 := AutoSeq1.sub_tuple_tuple
    have z1 : items.size = ns.length := by rw [← hi.length]; simp
    have z2 : items2.size = ms.length := by rw [← hj.length]; simp
    wp_walk using wpAny_loadPart' hl, wpAny_loadPart' hb, wpAny_forIn_list _ (fun rest b s' => b.1 = none ∧ s' = ⟨hp, g, d, tk, os⟩ ∧ ∃ (vs ws : List Value) (ns' ms' : List Int), rest = vs.zip ws ∧
      IntsAre vs ns' ∧ IntsAre ws ms' ∧ ns'.length + items2.size = ms'.length + items.size ∧ R (.ok (.ret (.bool (lexLt ns' ms')))) ⟨hp, g, d, tk, os⟩) _
    case turn =>
      rintro ⟨y, x⟩ rest b s' ⟨hb', rfl, vs, ws, ns', ms', hz, hvi, hwi, hlen, hR⟩
      cases hvi with
      | nil => rw [List.zip_nil_left] at hz; cases hz
      | cons a t hvi' =>
        cases hwi with
        | nil => rw [List.zip_nil_right] at hz; cases hz
        | cons c u hwi' =>
          rw [List.zip_cons_cons] at hz
          injection hz with hyx hrest
          injection hyx with hy hx
          subst hy hx
          rw [lexLt_cons] at hR
          simp only [List.length_cons] at hlen
          obtain ⟨e, he, hiff⟩ := eqAt_int A.in1 ⟨hp, g, d, tk, os⟩ a t c u
          refine wpAny_bind (he prog w _ _ ?_)
          cases e with
          | true =>
            rw [if_pos (hiff.mp rfl)] at hR
            wp_walk
            exact ⟨rfl, rfl, _, _, _, _, hrest, hvi', hwi', by omega, hR⟩
          | false =>
            rw [if_neg (fun q => absurd (hiff.mpr q) Bool.false_ne_true)] at hR
            have hri := rcLt_int A.in1 ⟨hp, g, d, tk, os⟩ a t c u prog w
            wp_walk using hri
            exact ⟨_, rfl, by simpa using hR⟩
    case fin =>
      rintro ⟨b1, b2⟩ s' ⟨hb', rfl, vs, ws, ns', ms', hz, hvi, hwi, hlen, hR⟩
      simp only at hb'
      subst hb'
      have hv : lexLt ns' ms' = decide (items.size < items2.size) := by
        cases hvi with
        | nil =>
          cases hwi with
          | nil =>
            simp only [List.length_nil] at hlen
            rw [lexLt_nil_nil]
            exact (decide_eq_false (by omega)).symm
          | cons c u hw =>
            simp only [List.length_nil, List.length_cons] at hlen
            rw [lexLt_nil_cons]
            exact (decide_eq_true (by omega)).symm
        | cons a t hv =>
          cases hwi with
          | nil =>
            simp only [List.length_nil, List.length_cons] at hlen
            rw [lexLt_cons_nil]
            exact (decide_eq_false (by omega)).symm
          | cons c u hw =>
            rw [List.zip_cons_cons] at hz
            cases hz
      rw [hv] at hR
      wp_walk
      exact ⟨_, rfl, by simpa [Builtin.Tuple.tupleCompareSizes] using hR⟩
    case h =>
      exact ⟨rfl, rfl, items.toList, items2.toList, ns, ms, rfl, hi, hj, by omega, h⟩
end

section
variable {prog : Program} {w : World} {A : Around} {E : Value → Shared → Prop} {s : Shared}

theorem lt_tupInts {l b : Addr} {items items2 : Array Value} {ns ms : List Int} {Q : Value → Shared → Prop} (hl : IsTup s.heap l items) (hb : IsTup s.heap b items2) (hi : IntsAre items.toList ns) (hj : IntsAre items2.toList ms)
    (hu : A.units < cLine) (h : Q (.bool (lexLt ns ms)) s) : wpAny (model prog w) A (compareOp .Lt (.ref l) (.ref b)) Q E s := by
  obtain ⟨⟨cls, dd, data, sl⟩, ho, hc, n, hd⟩ := id hl
  obtain ⟨⟨cls2, dd2, data2, sl2⟩, ho2, hc2, n2, hd2⟩ := id hb
  simp only at hc hd hc2 hd2
  subst hc hd hc2 hd2
  exact richCompare_meets_room (op := .Lt) ⟨_, ho, rfl⟩ ⟨_, ho2, rfl⟩ PySem.F.slot_tuple_lt PySem.F.entry_tuple_lt (PySem.F.args_tuple_lt_2 _ _) (tuple_lt_ints l b items items2 n n2 dd dd2 sl sl2 ns ms hi hj)
    ⟨ho, ho2, show Value.bool (lexLt ns ms) ≠ Value.notImplemented ∧ Q (.bool (lexLt ns ms)) s from ⟨(fun x => nomatch x), h⟩⟩ hu

/-- t + u, t not empty -/
theorem cat_tup {t b : Addr} {vs ws : List Value} {Q : Value → Shared → Prop} (ht : IsTup s.heap t vs.toArray) (hb : IsTup s.heap b ws.toArray) (hv : vs ≠ [])
    (h1 : ws = [] → Q (.ref t) s) (h2 : ws ≠ [] → Q (.ref s.heap.objs.size) { s with heap := s.heap.push { cls := .type "tuple", data := .seq (vs ++ ws).toArray } })
    (hsz : vs.length + ws.length ≤ sizeLine) : wpAny (model prog w) A (binaryOp .Add (.ref t) (.ref b)) Q E s := by
  obtain ⟨⟨cls, dd, data, sl⟩, ho, hc, n, hd⟩ := id ht
  obtain ⟨⟨cls2, dd2, data2, sl2⟩, ho2, hc2, n2, hd2⟩ := id hb
  simp only at hc hd hc2 hd2
  subst hc hd hc2 hd2
  have e : vs.toArray ++ ws.toArray = (vs ++ ws).toArray := by simp
  by_cases hw : ws = []
  · exact concat_meets ⟨_, ho, rfl⟩ ⟨_, ho2, rfl⟩ noFill_tuple_add seq_tuple_add PySem.F.slot_tuple_add PySem.F.entry_tuple_add (PySem.F.args_tuple_add_2 _ _)
      (tuple_addW1 t b vs.toArray ws.toArray n n2 dd dd2 sl sl2 (by simpa using hv) (by simp [hw])) ⟨ho, ho2, h1 hw⟩
  · refine concat_meets ⟨_, ho, rfl⟩ ⟨_, ho2, rfl⟩ noFill_tuple_add seq_tuple_add PySem.F.slot_tuple_add PySem.F.entry_tuple_add (PySem.F.args_tuple_add_2 _ _)
      (tuple_addW2 t b vs.toArray ws.toArray n n2 dd dd2 sl sl2 (by simpa using hv) (by simpa using hw) (by rw [List.size_toArray, List.size_toArray]; exact hsz)) ⟨ho, ho2, ?_⟩
    rw [e]
    exact h2 hw

/-! ### t[a:b], not the whole -/
/-- a slice's bound as a place among n (d where it is left out) -/
def sIx (n d : Nat) : Option Int → Nat
  | none => d
  | some v => if v < 0 then (v + (n : Int)).toNat else min v.toNat n
theorem sIx_le (n d : Nat) (hd : d ≤ n) (o : Option Int) : sIx n d o ≤ n := by
  cases o with
  | none => exact hd
  | some v =>
    show (if v < 0 then (v + (n : Int)).toNat else min v.toNat n) ≤ n
    by_cases hv : v < 0
    · rw [if_pos hv]; omega
    · rw [if_neg hv]; exact Nat.min_le_right _ _
theorem clip_eq (v : Int) (n d : Nat) : (if v < 0 then max (v + (n : Int)) 0 else min v (n : Int)) = ((sIx n d (some v) : Nat) : Int) := by
  show (if v < 0 then max (v + (n : Int)) 0 else min v (n : Int)) = (((if v < 0 then (v + (n : Int)).toNat else min v.toNat n) : Nat) : Int)
  by_cases hv : v < 0
  · simp only [if_pos hv]; omega
  · simp only [if_neg hv]; omega
theorem adjust_gen (lo hi : Option Int) (n : Nat) : Builtin.Slice.sliceAdjust lo hi 1 (n : Int) = (((sIx n 0 lo : Nat) : Int), ((sIx n n hi : Nat) : Int)) := by
  have h1 : ¬ ((1 : Int) < 0) := by omega
  unfold Builtin.Slice.sliceAdjust
  simp only [h1, if_false]
  refine Prod.ext ?_ ?_
  · cases lo with
    | none => rfl
    | some v => exact clip_eq v n 0
  · cases hi with
    | none => rfl
    | some v => exact clip_eq v n n
theorem places_gen (i j : Nat) : Builtin.Slice.slicePlaces (i : Int) (j : Int) 1 = j - i := by
  unfold Builtin.Slice.slicePlaces
  have h1 : (1 : Int) > 0 := by omega
  simp only [h1, if_true, Int.ediv_one]
  split <;> omega
theorem slicePart_ {v : Value} {o : Option Int} {Q : Option Int → Shared → Prop} (p : IsPart v o) (h : Q o s) : wpAny (model prog w) A (Builtin.Slice.slicePartIndex v) Q E s := by
  cases p with
  | none => exact slicePart_none h
  | int i t => exact slicePart_int h
theorem sliceApplied_gen {sl : Addr} {vl vu : Value} {lo hi : Option Int} {n : Nat} {Q : Int × Int × Nat → Shared → Prop} (hs : s.heap.IsSliceOf sl vl vu .none) (pl : IsPart vl lo) (pu : IsPart vu hi)
    (h : Q (((sIx n 0 lo : Nat) : Int), 1, sIx n n hi - sIx n 0 lo) s) : wpAny (model prog w) A (Builtin.Slice.sliceApplied (.ref sl) (pure (n : Int))) Q E s := by
  obtain ⟨os, hos, hcs, hds⟩ := id hs
  unfold Builtin.Slice.sliceApplied Builtin.Slice.sliceFields
  refine wpAny_bind (wpAny_bind (wpAny_field hos hds (x := vl) rfl (wpAny_bind (wpAny_field hos hds (x := vu) rfl (wpAny_bind (wpAny_field hos hds (x := .none) rfl (wpAny_pure ?_)))))))
  refine wpAny_bind (slicePart_none ?_)
  show wpAny _ _ (if ((1 : Int) == 0) = true then _ else _) _ _ s
  rw [if_neg (by decide)]
  refine wpAny_bind (slicePart_ pl (wpAny_bind (slicePart_ pu (wpAny_bind (wpAny_pure ?_)))))
  show wpAny _ _ (match Builtin.Slice.sliceAdjust lo hi 1 (n : Int) with | (lo, hi) => pure (lo, (1 : Int), Builtin.Slice.slicePlaces lo hi 1)) _ _ s
  rw [adjust_gen lo hi n]
  show wpAny _ _ (pure (((sIx n 0 lo : Nat) : Int), (1 : Int), Builtin.Slice.slicePlaces ((sIx n 0 lo : Nat) : Int) ((sIx n n hi : Nat) : Int) 1)) _ _ s
  rw [places_gen]
  exact wpAny_pure h
theorem pick_gen (xs : Array Value) (i k : Nat) : ((List.range k).filterMap fun (m : Nat) => xs[((i : Int) + (m : Int) * 1).toNat]?).toArray = ((xs.toList.drop i).take k).toArray := by
  have e : (fun (m : Nat) => xs[((i : Int) + (m : Int) * 1).toNat]?) = fun m => xs[i + m]? := by
    funext m
    have : ((i : Int) + (m : Int) * 1).toNat = i + m := by omega
    rw [this]
  rw [e]
  have := pick_run xs i k
  rw [List.filterMap_map] at this
  have e2 : ((fun x => xs[x]?) ∘ fun x => i + x) = fun m => xs[i + m]? := rfl
  rw [e2] at this
  rw [this]

theorem getItem_tuple_cut {t sl : Addr} {items : Array Value} {vl vu : Value} {lo hi : Option Int} {Q : Value → Shared → Prop} (ht : IsTup s.heap t items) (hs : s.heap.IsSliceOf sl vl vu .none) (pl : IsPart vl lo) (pu : IsPart vu hi)
    (hw : ¬ (sIx items.size 0 lo = 0 ∧ sIx items.size items.size hi = items.size))
    (h : Q (.ref s.heap.objs.size) { s with heap := s.heap.push { cls := .type "tuple", data := .seq ((items.toList.drop (sIx items.size 0 lo)).take (sIx items.size items.size hi - sIx items.size 0 lo)).toArray } })
    (hsz : items.size ≤ sizeLine) : wpAny (model prog w) A (getItem (.ref t) (.ref sl)) Q E s := by
  have htake : sizeOk (.seq ((items.toList.drop (sIx items.size 0 lo)).take (sIx items.size items.size hi - sIx items.size 0 lo)).toArray) := by
    show ((items.toList.drop (sIx items.size 0 lo)).take (sIx items.size items.size hi - sIx items.size 0 lo)).toArray.size ≤ sizeLine
    rw [List.size_toArray, List.length_take, List.length_drop, Array.length_toList]
    omega
  have hj : sIx items.size items.size hi ≤ items.size := sIx_le _ _ (Nat.le_refl _) hi
  obtain ⟨os, hos, hcs, hds⟩ := id hs
  have hTs : s.TypeIs (.ref sl) "slice" := ⟨os, hos, hcs⟩
  unfold getItem
  try with_reducible refine wpAny_holding ?_
  first | refine wpAny_bind (wpAny_pure ?_) | skip
  refine wpAny_bind (wpAny_sequenceKey ht.typeIs (by decide) ?_)
  refine wpAny_bind (wpAny_callSpecial?_slot (name := Str.ofString "__getitem__") ht.typeIs PyProof.Rows.slot_tuple_getitem
    (wpAny_call_entry PyProof.Rows.slot_tuple_getitem ht.typeIs entry_tuple_getitem ?_ (args_tuple_getitem _ _)))
  show wpAny _ _ (Builtin.Tuple.tupleItemsOf (.ref t) >>= _) _ _ s
  refine wpAny_bind (tupleItemsOf_ ht ?_)
  refine wpAny_bind (wpAny_typeOf hTs ?_)
  rw [if_pos (by decide)]
  refine wpAny_bind (sliceApplied_gen hs pl pu ?_)
  have hno : ¬ ((((sIx items.size 0 lo : Nat) : Int) == 0 && (1 : Int) == 1 && (sIx items.size items.size hi - sIx items.size 0 lo) == items.size) = true) := by
    intro q
    rw [Bool.and_eq_true, Bool.and_eq_true] at q
    have q1 : ((sIx items.size 0 lo : Nat) : Int) = 0 := eq_of_beq q.1.1
    have q2 : sIx items.size items.size hi - sIx items.size 0 lo = items.size := eq_of_beq q.2
    exact hw ⟨by omega, by omega⟩
  show wpAny _ _ (if (((sIx items.size 0 lo : Nat) : Int) == 0 && (1 : Int) == 1 && (sIx items.size items.size hi - sIx items.size 0 lo) == items.size) = true then _ else _) _ _ s
  rw [if_neg hno, pick_gen]
  first
    | exact wpAny_bind (m := Builtin.Tuple.tupleExact _) (wpAny_newObj_type (wpAny_pure ⟨_, rfl, wpAny_pure h⟩) htake)
    | exact wpAny_bind (m := Builtin.Tuple.tupleExact _) (wpAny_newObj_type (wpAny_bind (wpAny_pure (wpAny_pure ⟨_, rfl, wpAny_pure h⟩))) htake)
    | exact wpAny_bind (wpAny_bind (m := Builtin.Tuple.tupleExact _) (wpAny_newObj_type (wpAny_pure (wpAny_pure ⟨_, rfl, wpAny_pure h⟩)) htake))
    | exact wpAny_bind (wpAny_bind (m := Builtin.Tuple.tupleExact _) (wpAny_newObj_type (wpAny_pure ⟨_, rfl, wpAny_pure h⟩) htake))
end
end HT

namespace L2
open PySem PySem.Spec PyProof.Rows

/-! ### the parts of a slice -/
abbrev TO := St → Hp → (Option Int → Hp → Prop) → Prop
/-- a slice's part (left out, or an int) -/
def PO (X : Cx) (e : Option Expr) (t : TO) : Prop :=
  ∀ (pins : List (Addr × Obj)) (s : Shared) (σ : St) (H : Hp) (Q : Option Int → Hp → Prop), Inv X pins σ H s → t σ H Q →
    wpAny (model X.prog X.w) X.A (evalPart e X.env) (fun u s' => ∃ o H', Inv X pins σ H' s' ∧ IsPart u o ∧ Q o H') X.xe s
def tNoPart : TO := fun _ H Q => Q none H
def tPart (t : TE) : TO := fun σ H Q => t σ H fun x H1 => ∃ i, x = .int i ∧ Q (some i) H1

theorem intsAre_of {ns : List Int} : ∀ {us : List Value}, Vals (ns.map V.int) us → IntsAre us ns := by
  induction ns with
  | nil => intro us r; rw [List.map_nil] at r; cases r; exact .nil
  | cons n ns ih =>
    intro us r
    rw [List.map_cons] at r
    cases r with
    | cons r1 r2 =>
      obtain ⟨t, e⟩ := r1
      subst e
      exact .cons n t (ih r2)

section
variable {X : Cx} {e : Expr} {te : TE} {lo hi : Option Expr} {tl th : TO} {pos p2 : Pos}

theorem po_none : PO X none tNoPart := by
  intro pins s σ H Q I h
  rw [evalPart_none]
  exact wpAny_pure ⟨none, H, I, .none, h⟩
theorem po_some (h : PE X e te) : PO X (some e) (tPart te) := by
  intro pins s σ H Q I hw
  rw [evalPart_some]
  refine thn (h pins s σ H _ I hw) fun u s1 ⟨x, H1, I1, r1, q1⟩ => ?_
  obtain ⟨i, rfl, q⟩ := q1
  obtain ⟨t, rfl⟩ := r1
  exact ⟨some i, H1, I1, .int i t, q⟩

/-- what a slice of a value is, by values: the slice object stands at sl -/
def SlR (X : Cx) (r : V → Option Int → Option Int → Hp → VK → Prop) : Prop :=
  ∀ (pins : List (Addr × Obj)) (s : Shared) (σ : St) (H : Hp) (x : V) (v vl vu : Value) (lo hi : Option Int) (sl : Addr) (Q : VK), Inv X pins σ H s → RelV x v → s.heap.IsSliceOf sl vl vu .none → IsPart vl lo → IsPart vu hi → r x lo hi H Q →
    ∃ T id, typeLookup (.type T) "__getitem__" = pure (some (.builtin id)) ∧ s.TypeIs v T ∧ wpAny (model X.prog X.w) X.A (getItem v (.ref sl)) (EP X pins σ Q) X.xe s
theorem SlR.or {r r' : V → Option Int → Option Int → Hp → VK → Prop} (h : SlR X r) (h' : SlR X r') : SlR X (fun x lo hi H Q => r x lo hi H Q ∨ r' x lo hi H Q) := by
  intro pins s σ H x v vl vu lo hi sl Q I rx hs pl pu q
  rcases q with q | q
  · exact h pins s σ H x v vl vu lo hi sl Q I rx hs pl pu q
  · exact h' pins s σ H x v vl vu lo hi sl Q I rx hs pl pu q
def tSl (r : V → Option Int → Option Int → Hp → VK → Prop) (te : TE) (tl th : TO) : TE := fun σ H Q => te σ H fun x H1 => tl σ H1 fun l H2 => th σ H2 fun u H3 => r x l u H3 Q
/-- a[lo:hi], any a -/
theorem pe_slice {r : V → Option Int → Option Int → Hp → VK → Prop} (hr : SlR X r) (he : PE X e te) (hl : PO X lo tl) (hu : PO X hi th) : PE X (.Subscript e (.Slice lo hi none p2) pos) (tSl r te tl th) := by
  intro pins s σ H Q I h
  refine Subscript_ (thn (he pins s σ H _ I h) fun v s1 ⟨x, H1, I1, r1, q1⟩ => ?_)
  refine wpAny_Slice (thn (hl pins s1 σ H1 _ I1 q1) fun vl s2 ⟨l, H2, I2, pl, q2⟩ => thn (hu pins s2 σ H2 _ I2 q2) fun vu s3 ⟨u, H3, I3, pu, q3⟩ => ?_)
  rw [evalPart_none]
  refine wpAny_pure ?_
  have I4 : Inv X pins σ H3 { s3 with heap := s3.heap.push { cls := .type "slice", data := .fields #[vl, vu, .none] } } := I3.kept (t' := s3.toks) fun b ob q => Heap.get?_push_of_some _ q
  obtain ⟨T, id, hT, ht, hg⟩ := hr pins { s3 with heap := s3.heap.push { cls := .type "slice", data := .fields #[vl, vu, .none] } } σ H3 x v vl vu l u s3.heap.objs.size Q I4 r1 (Heap.IsSliceOf.new ..) pl pu q3
  show wpAny (model X.prog X.w) X.A (subscriptTail e (.Slice lo hi none p2) v (.ref s3.heap.objs.size)) (EP X pins σ Q) X.xe { s3 with heap := s3.heap.push { cls := .type "slice", data := .fields #[vl, vu, .none] } }
  exact tail_any (ops := [.ref s3.heap.objs.size, v]) ht hT hg (by with_unfolding_all rfl)

/-- the items of xs[lo:hi] -/
def cutV (xs : List V) (lo hi : Option Int) : List V := (xs.drop (HT.sIx xs.length 0 lo)).take (HT.sIx xs.length xs.length hi - HT.sIx xs.length 0 lo)
theorem cutV_length (xs : List V) (lo hi : Option Int) : (cutV xs lo hi).length ≤ xs.length := by
  unfold cutV
  rw [List.length_take, List.length_drop]
  omega
/-- t[lo:hi], not the whole of it (the whole would be t itself) -/
def rSlT (K : PySem.W.Frag) : V → Option Int → Option Int → Hp → VK → Prop := fun x lo hi H Q => ∃ a xs, x = .ref a ∧ SqT K H a xs ∧
  ¬ (HT.sIx xs.length 0 lo = 0 ∧ HT.sIx xs.length xs.length hi = xs.length) ∧ ∀ p, H p = none → Q (.ref p) (upd H p (.tup (cutV xs lo hi)))
theorem sl_tup : SlR X (rSlT X.K) := by
  intro pins s σ H x v vl vu lo hi sl Q I rx hs pl pu h
  obtain ⟨a, xs, rfl, hx, hw, q⟩ := h
  cases rx
  obtain ⟨its, r, ht, hz⟩ := I.tuple hx
  have hlen : its.toArray.size = xs.length := by rw [List.size_toArray]; exact r.length.symm
  refine ⟨"tuple", _, PyProof.Rows.slot_tuple_getitem.lookup, ht.typeIs, ?_⟩
  refine HT.getItem_tuple_cut ht hs pl pu (by rw [hlen]; exact hw) ?_ (by rw [hlen]; exact hz)
  rw [hlen]
  refine ⟨.ref s.heap.objs.size, _, I.laid (t' := s.toks) (o := .tup (cutV xs lo hi)) (fun b ob q => Heap.get?_push_of_some _ q) (Nat.le_refl _) ?_, rfl, q _ (I.hok.fresh (Nat.le_refl _))⟩
  exact ⟨Nat.le_trans (cutV_length xs lo hi) hz, _, (r.drop (HT.sIx xs.length 0 lo)).take (HT.sIx xs.length xs.length hi - HT.sIx xs.length 0 lo), IsTup.new _ _⟩

/-! ### t < u, t + u -/
def rLtT (K : PySem.W.Frag) : R2 := fun x y H Q => ∃ a b ns ms, x = .ref a ∧ y = .ref b ∧ SqT K H a (ns.map V.int) ∧ SqT K H b (ms.map V.int) ∧ Q (.bl (HT.lexLt ns ms)) H
theorem op_ltT (hu : X.A.units < cLine) : OpR X (compareOp .Lt) (rLtT X.K) := by
  intro pins s σ H x y v u Q I rx ry h
  obtain ⟨a, b, ns, ms, rfl, rfl, ha, hb, q⟩ := h
  cases rx
  cases ry
  obtain ⟨its, r1, p1, _⟩ := I.tuple ha
  obtain ⟨its2, r2, p2, _⟩ := I.tuple hb
  have i1 : IntsAre its.toArray.toList ns := intsAre_of r1
  have i2 : IntsAre its2.toArray.toList ms := intsAre_of r2
  exact HT.lt_tupInts p1 p2 i1 i2 hu ⟨.bl (HT.lexLt ns ms), H, I, rfl, q⟩
/-- t + u, t not empty: u empty gives t itself -/
def rCatT (K : PySem.W.Frag) : R2 := fun x y H Q => ∃ a b xs ys, x = .ref a ∧ y = .ref b ∧ SqT K H a xs ∧ SqT K H b ys ∧ xs ≠ [] ∧ xs.length + ys.length ≤ sizeLine ∧
  (ys = [] → Q (.ref a) H) ∧ (ys ≠ [] → ∀ p, H p = none → Q (.ref p) (upd H p (.tup (xs ++ ys))))
theorem Vals.nil_iff {xs : List V} {us : List Value} (r : Vals xs us) : us = [] ↔ xs = [] := by
  cases r with
  | nil => simp
  | cons _ _ => simp
theorem op_catT : OpR X (binaryOp .Add) (rCatT X.K) := by
  intro pins s σ H x y v u Q I rx ry h
  obtain ⟨a, b, xs, ys, rfl, rfl, ha, hb, hx, hz, q1, q2⟩ := h
  cases rx
  cases ry
  obtain ⟨its, r1, p1, _⟩ := I.tuple ha
  obtain ⟨its2, r2, p2, _⟩ := I.tuple hb
  refine HT.cat_tup p1 p2 (fun z => hx (r1.nil_iff.mp z)) (fun z => ⟨.ref a, H, I, rfl, q1 (r2.nil_iff.mp z)⟩) (fun z => ?_) (by rw [← r1.length, ← r2.length]; exact hz)
  refine ⟨.ref s.heap.objs.size, _, I.laid (t' := s.toks) (o := .tup (xs ++ ys)) (fun b ob q => Heap.get?_push_of_some _ q) (Nat.le_refl _) ?_, rfl, q2 (fun w => z (r2.nil_iff.mpr w)) _ (I.hok.fresh (Nat.le_refl _))⟩
  exact ⟨by rw [List.length_append]; exact hz, _, r1.append r2, IsTup.new _ _⟩
end
end L2

namespace L2
open PySem PySem.Spec PyProof.Rows

/-! ### places -/
/-- the place that an index of any sign means -/
def ixN (n : Nat) (i : Int) : Option Nat := if 0 ≤ i then (if i < n then some i.toNat else none) else if -(n : Int) ≤ i then some (i + n).toNat else none
def atI {α : Type} (xs : List α) (i : Int) : Option α := (ixN xs.length i).bind fun j => xs[j]?
theorem ixN_seq {n : Nat} {i : Int} {j : Nat} (h : ixN n i = some j) : seqIndex? i n = some j ∧ j < n ∧ -(n : Int) ≤ i ∧ i < n := by
  unfold ixN at h
  by_cases h0 : 0 ≤ i
  · rw [if_pos h0] at h
    by_cases h1 : i < n
    · rw [if_pos h1] at h
      have e : i.toNat = j := Option.some.inj h
      exact ⟨by rw [seqIndex_of h0 h1, e], by omega, by omega, h1⟩
    · rw [if_neg h1] at h; cases h
  · rw [if_neg h0] at h
    by_cases h1 : -(n : Int) ≤ i
    · rw [if_pos h1] at h
      have e : (i + n).toNat = j := Option.some.inj h
      exact ⟨by rw [seqIndex_neg (by omega) h1, e], by omega, h1, by omega⟩
    · rw [if_neg h1] at h; cases h
theorem atI_get {α : Type} {xs : List α} {i : Int} {v : α} (h : atI xs i = some v) : ∃ j, seqIndex? i xs.length = some j ∧ xs[j]? = some v ∧ j < xs.length ∧ -(xs.length : Int) ≤ i ∧ i < xs.length := by
  unfold atI at h
  cases e : ixN xs.length i with
  | none => rw [e] at h; cases h
  | some j =>
    rw [e] at h
    obtain ⟨h1, h2, h3, h4⟩ := ixN_seq e
    exact ⟨j, h1, h, h2, h3, h4⟩
/-! ### what may be subscripted -/
/-- what stands as an index of a plain subscript -/
def PlainIx (b : Expr) : Prop := ∀ o i, subscripted b false o i = operate [o, i] (getItem o i)
/-- a subscript by values -/
def IxR (X : Cx) (r : R2) : Prop :=
  ∀ (value slice : Expr) (pins : List (Addr × Obj)) (s : Shared) (σ : St) (H : Hp) (x y : V) (v u : Value) (Q : VK), Inv X pins σ H s → RelV x v → RelV y u → r x y H Q →
    subscripted slice false v u = operate [v, u] (getItem v u) → wpAny (model X.prog X.w) X.A (subscriptTail value slice v u) (EP X pins σ Q) X.xe s
/-- a call of a builtin's method by values: the receiver, the arguments -/
def MtR (X : Cx) (id : String) (r : V → List V → Hp → VK → Prop) : Prop :=
  ∀ (pins : List (Addr × Obj)) (s : Shared) (σ : St) (H : Hp) (x : V) (xs : List V) (v : Value) (us : List Value) (Q : VK), Inv X pins σ H s → RelV x v → Vals xs us → r x xs H Q →
    wpAny (model X.prog X.w) X.A (call (.builtin id) (v :: us)) (EP X pins σ Q) X.xe s
section
variable {X : Cx} {a b : Expr} {ta tb : TE} {pos : Pos}
def rIxL (K : PySem.W.Frag) : R2 := fun x y H Q => ∃ p xs i v, x = .ref p ∧ y = .int i ∧ SqL K H p xs ∧ atI xs i = some v ∧ Q v H
def rIxT (K : PySem.W.Frag) : R2 := fun x y H Q => ∃ p xs i v, x = .ref p ∧ y = .int i ∧ SqT K H p xs ∧ atI xs i = some v ∧ Q v H
def rIxS : R2 := fun x y H Q => ∃ z i c, x = .str z ∧ y = .int i ∧ z.length ≤ sizeLine ∧ atI z.cps.toList i = some c ∧ Q (.str ⟨#[c]⟩) H
theorem ix_list : IxR X (rIxL X.K) := by
  intro value slice pins s σ H x y v u Q I rx ry h hs
  obtain ⟨p, xs, i, z, rfl, rfl, hq, he, q⟩ := h
  cases rx
  obtain ⟨t, rfl⟩ := ry
  obtain ⟨its, r, pl, hz⟩ := I.list hq
  obtain ⟨j, h1, h2, h3, h4, h5⟩ := atI_get he
  obtain ⟨w, ew, rw'⟩ := r.get h2
  have hl := r.length
  have hn := line63
  have fin : EP X pins σ Q w s := ⟨z, H, I, rw', q⟩
  by_cases h0 : 0 ≤ i
  · have hj : i.toNat = j := by
      rw [seqIndex_of h0 h5] at h1
      exact Option.some.inj h1
    exact item_listR pl.isList h0 (by omega) (by rw [hj]; simpa using ew) fin hs
  · have hj : (i + (its.toArray.size : Int)).toNat = j := by
      rw [seqIndex_neg (by omega) h4] at h1
      rw [List.size_toArray, ← hl]
      exact Option.some.inj h1
    exact subscriptTail_builtinR (x := w) pl.isList.typeIs slot_list_getitem.lookup
      (wpAny_getItem_list_neg (Q := fun r s' => r = w ∧ EP X pins σ Q r s') pl.isList (by omega) (by rw [List.size_toArray] <;> omega) (by omega) (by rw [hj]; simpa using ew) ⟨rfl, fin⟩) hs
theorem ix_tup : IxR X (rIxT X.K) := by
  intro value slice pins s σ H x y v u Q I rx ry h hs
  obtain ⟨p, xs, i, z, rfl, rfl, hq, he, q⟩ := h
  cases rx
  obtain ⟨t, rfl⟩ := ry
  obtain ⟨its, r, pl, hz⟩ := I.tuple hq
  obtain ⟨j, h1, h2, h3, h4, h5⟩ := atI_get he
  obtain ⟨w, ew, rw'⟩ := r.get h2
  have hl := r.length
  have hn := line63
  have fin : EP X pins σ Q w s := ⟨z, H, I, rw', q⟩
  exact subscriptTail_builtinR (x := w) pl.typeIs slot_tuple_getitem.lookup
    (getItem_tuple (j := j) (Q := fun r s' => r = w ∧ EP X pins σ Q r s') pl (by omega) (by omega) (by rw [List.size_toArray, ← hl]; exact h1) (by simpa using ew) ⟨rfl, fin⟩) hs
theorem ix_str : IxR X rIxS := by
  intro value slice pins s σ H x y v u Q I rx ry h hs
  obtain ⟨z, i, c, rfl, rfl, hz, he, q⟩ := h
  obtain ⟨t, rfl⟩ := rx
  obtain ⟨t', rfl⟩ := ry
  obtain ⟨j, h1, h2, h3, h4, h5⟩ := atI_get he
  have hl : z.cps.toList.length = z.length := by simp [Str.length]
  rw [hl] at h1 h4 h5
  have hn := line63
  exact tail_any (typeIs_str s z t) slot_str_getitem.lookup (getItem_str (c := c) (by
    have e1 : decide (i < -(2 ^ 63 : Int)) = false := decide_eq_false (by omega)
    have e2 : decide (i ≥ 2 ^ 63) = false := decide_eq_false (by omega)
    rw [e1, e2, Bool.or_false]) (by rw [h1]; simpa using h2) ⟨.str ⟨#[c]⟩, H, I.tok _, ⟨_, rfl⟩, q⟩) hs
/-- list, tuple or str -/
def rIx (K : PySem.W.Frag) : R2 := fun x y H Q => rIxL K x y H Q ∨ rIxT K x y H Q ∨ rIxS x y H Q
/-! ### xs[i] = v, any sign -/
def rSetL : V → V → V → Hp → (Hp → Prop) → Prop := fun o i v H Q => ∃ p xs k j, o = .ref p ∧ i = .int k ∧ H p = some (.lst xs) ∧ ixN xs.length k = some j ∧ Q (upd H p (.lst (xs.set j v)))
/-! ### slices -/
theorem slice_bounds (lo hi : Option Int) (n : Nat) : (sliceBounds lo hi none n).1 = ((HT.sIx n 0 lo : Nat) : Int) ∧ (sliceBounds lo hi none n).2.1 = ((HT.sIx n n hi : Nat) : Int) ∧ (sliceBounds lo hi none n).2.2 = 1 := by
  refine ⟨?_, ?_, rfl⟩
  · cases lo with
    | none => simp [sliceBounds, HT.sIx]
    | some i =>
      simp only [sliceBounds, HT.sIx, Option.getD_none, show (1 : Int) > 0 by decide, if_true]
      by_cases h : i < 0
      · simp only [h, if_true] <;> omega
      · simp only [h, if_false] <;> omega
  · cases hi with
    | none => simp [sliceBounds, HT.sIx]
    | some i =>
      simp only [sliceBounds, HT.sIx, Option.getD_none, show (1 : Int) > 0 by decide, if_true]
      by_cases h : i < 0
      · simp only [h, if_true] <;> omega
      · simp only [h, if_false] <;> omega
theorem slicePick_cut (its : List Value) (lo hi : Option Int) : slicePick its.toArray lo hi none = ((its.drop (HT.sIx its.length 0 lo)).take (HT.sIx its.length its.length hi - HT.sIx its.length 0 lo)).toArray := by
  obtain ⟨h1, h2, h3⟩ := slice_bounds lo hi its.toArray.size
  unfold slicePick
  rw [h1, h2, h3]
  simp only [sliceRange_one, pick_run, List.size_toArray] <;> rfl
/-- xs[lo:hi] of a list: a new list -/
def rSlL (K : PySem.W.Frag) : V → Option Int → Option Int → Hp → VK → Prop := fun x lo hi H Q => ∃ a xs, x = .ref a ∧ SqL K H a xs ∧ ∀ p, H p = none → Q (.ref p) (upd H p (.lst (cutV xs lo hi)))
theorem sl_list : SlR X (rSlL X.K) := by
  intro pins s σ H x v vl vu lo hi sl Q I rx hs pl pu h
  obtain ⟨a, xs, rfl, hx, q⟩ := h
  cases rx
  obtain ⟨its, r, ht, hz⟩ := I.list hx
  have hlen := r.length
  refine ⟨"list", _, slot_list_getitem.lookup, ht.isList.typeIs, ?_⟩
  refine wpAny_getItem_list_slice ht.isList hs pl pu .none (by simp) ?_ (by rw [List.size_toArray] <;> omega)
  rw [slicePick_cut, ← hlen]
  refine ⟨.ref s.heap.objs.size, _, I.laid (t' := s.toks) (o := .lst (cutV xs lo hi)) (fun b ob q => Heap.get?_push_of_some _ q) (Nat.le_refl _) ?_, rfl, q _ (I.hok.fresh (Nat.le_refl _))⟩
  exact ⟨Nat.le_trans (cutV_length xs lo hi) hz, _, 0, (r.drop (HT.sIx xs.length 0 lo)).take (HT.sIx xs.length xs.length hi - HT.sIx xs.length 0 lo), Heap.get?_push_size _ rfl⟩

/-! ### in, not in: flat items -/
def flatV : V → Bool
  | .non => true
  | .bl _ => true
  | .int _ => true
  | .str _ => true
  | _ => false
/-- == of flat values -/
def eqV : V → V → Bool
  | .non, .non => true
  | .bl a, .bl b => a == b
  | .bl a, .int b => (if a then 1 else 0) == b
  | .int a, .bl b => a == (if b then 1 else 0)
  | .int a, .int b => a == b
  | .str a, .str b => a == b
  | _, _ => false
/-- the items' answers, read off the values (a value's own answer does not lean on its token) -/
def eqU (x : V) (u : Value) : Bool := match u with
  | .none => eqV .non x
  | .bool b => eqV (.bl b) x
  | .int i _ => eqV (.int i) x
  | .str z _ => eqV (.str z) x
  | _ => false
def inV (x : V) (xs : List V) : Bool := xs.any fun y => eqV y x
/-- x in a list or tuple of flat items -/
def rIn (K : PySem.W.Frag) (neg : Bool) : R2 := fun x y H Q => ∃ p xs, y = .ref p ∧ (SqL K H p xs ∨ SqT K H p xs) ∧ flatV x = true ∧ xs.all flatV = true ∧ Q (.bl (if neg then !inV x xs else inV x xs)) H
/-! ### len, list(x), tuple(x) of any list or tuple that is read -/
theorem call_len_seq : CallR X (.builtin "len") (fun xs H Q => ∃ p ys, xs = [.ref p] ∧ (SqL X.K H p ys ∨ SqT X.K H p ys) ∧ Q (.int ys.length) H) := by
  intro pins s σ H xs us Q I r h
  obtain ⟨p, ys, rfl, hq, q⟩ := h
  obtain ⟨u, rfl, rx⟩ := vals1 r
  cases rx
  have hn := line63
  rcases hq with hq | hq
  · obtain ⟨its, r', pl, hz⟩ := I.list hq
    have hlen := r'.length
    exact Calls.call_len_list pl.isList (by simp only [List.size_toArray] <;> omega) ⟨.int ys.length, H, I.tok _, ⟨s.toks + 1, by rw [List.size_toArray, hlen]⟩, q⟩
  · obtain ⟨its, r', pl, hz⟩ := I.tuple hq
    have hlen := r'.length
    exact len_tuple pl (by simp only [List.size_toArray] <;> omega) ⟨.int ys.length, H, I.tok _, ⟨s.toks + 1, by rw [List.size_toArray, hlen]⟩, q⟩
theorem call_len_str : CallR X (.builtin "len") (fun xs H Q => ∃ z, xs = [.str z] ∧ z.length ≤ sizeLine ∧ Q (.int z.length) H) := by
  intro pins s σ H xs us Q I r h
  obtain ⟨z, rfl, hz, q⟩ := h
  obtain ⟨u, rfl, t, rfl⟩ := vals1 r
  have hn := line63
  exact len_str (by omega) ⟨.int z.length, H, I.tok _, ⟨_, rfl⟩, q⟩
theorem call_list_of : CallR X (.type "list") (fun xs H Q => ∃ p ys, xs = [.ref p] ∧ (SqL X.K H p ys ∨ SqT X.K H p ys) ∧ ∀ l, H l = none → Q (.ref l) (upd H l (.lst ys))) := by
  intro pins s σ H xs us Q I r h
  obtain ⟨p, ys, rfl, hq, q⟩ := h
  obtain ⟨u, rfl, rx⟩ := vals1 r
  cases rx
  have fin : ∀ (its : List Value), Vals ys its → ys.length ≤ sizeLine → ∀ (h' : Heap) (c' : Nat), (∀ b o', s.heap.get? b = some o' → h'.get? b = some o') →
      h'.get? s.heap.objs.size = some { cls := .type "list", dict := none, data := .seq its.toArray c', slots := #[] } → EP X pins σ Q (.ref s.heap.objs.size) { s with heap := h' } := fun its r' hz h' c' kp e =>
    ⟨.ref s.heap.objs.size, _, I.laid (t' := s.toks) kp (Nat.le_refl _) (show ObjOk X.prog X.w _ h' _ (.lst ys) from ⟨hz, its, c', r', e⟩), rfl, q _ (I.hok.fresh (Nat.le_refl _))⟩
  rcases hq with hq | hq
  · obtain ⟨its, r', pl, hz⟩ := I.list hq
    have hlen := r'.length
    obtain ⟨o, ho, hc, n, hd⟩ := pl.isList
    exact call_list_seq p (.inl rfl) ho hc hd (fun h' c' kp e => fin its r' hz h' c' kp e) (by simp only [List.size_toArray] <;> omega)
  · obtain ⟨its, r', pl, hz⟩ := I.tuple hq
    have hlen := r'.length
    obtain ⟨o, ho, hc, n, hd⟩ := pl
    exact call_list_seq p (.inr rfl) ho hc hd (fun h' c' kp e => fin its r' hz h' c' kp e) (by simp only [List.size_toArray] <;> omega)
theorem call_tuple_of : CallR X (.type "tuple") (fun xs H Q => ∃ p ys, xs = [.ref p] ∧ ((SqL X.K H p ys ∧ ∀ l, H l = none → Q (.ref l) (upd H l (.tup ys))) ∨ (SqT X.K H p ys ∧ Q (.ref p) H))) := by
  intro pins s σ H xs us Q I r h
  obtain ⟨p, ys, rfl, h⟩ := h
  obtain ⟨u, rfl, rx⟩ := vals1 r
  cases rx
  rcases h with ⟨hq, q⟩ | ⟨hq, q⟩
  · obtain ⟨its, r', pl, hz⟩ := I.list hq
    have hlen := r'.length
    refine call_tuple_list pl.isList (fun h' kp => ?_) (by simp only [List.size_toArray] <;> omega)
    have I1 : Inv X pins σ H { s with heap := h' } := I.kept (t' := s.toks) kp
    have I2 : Inv X pins σ (upd H h'.objs.size (.tup ys)) { s with heap := h'.push { cls := .type "tuple", data := .seq its.toArray } } :=
      I1.laid (t' := s.toks) (fun b o e => Heap.get?_push_of_some _ e) (Nat.le_refl _) (show ObjOk X.prog X.w _ _ _ (.tup ys) from ⟨hz, its, r', IsTup.new _ _⟩)
    exact ⟨.ref h'.objs.size, _, I2, rfl, q _ (I1.hok.fresh (Nat.le_refl _))⟩
  · obtain ⟨its, r', pl, hz⟩ := I.tuple hq
    exact call_tuple_same pl ⟨.ref p, H, I, rfl, q⟩

/-! ### the call of a builtin's method: o.m(..) -/
/-- the value is of that builtin type -/
def tyV (K : PySem.W.Frag) (T : String) (x : V) (H : Hp) : Prop := match x with
  | .str _ => T = "str"
  | .int _ => T = "int"
  | .ref p => (T = "list" ∧ ∃ xs, SqL K H p xs) ∨ (T = "tuple" ∧ ∃ o, K.lookup p = some o ∧ o.cls = .type "tuple" ∧ o.dict = none) ∨
      (T = "dict" ∧ ((∃ kvs, H p = some (.dK kvs)) ∨ ∃ kvs, H p = some (.dT kvs))) ∨ (T = "set" ∧ ∃ S n, H p = some (.set S n))
  | _ => False
theorem tyV_is {pins : List (Addr × Obj)} {σ : St} {H : Hp} {s : Shared} {T : String} {x : V} {v : Value} (I : Inv X pins σ H s) (r : RelV x v) (ty : tyV X.K T x H) :
    s.TypeIs v T ∧ ∀ a, v = .ref a → ∃ ob, s.heap.get? a = some ob ∧ ob.dict = none := by
  cases x with
  | str z =>
    obtain ⟨t, rfl⟩ := r
    cases (show T = "str" from ty)
    exact ⟨typeIs_str s z t, fun _ e => nomatch e⟩
  | int i =>
    obtain ⟨t, rfl⟩ := r
    cases (show T = "int" from ty)
    exact ⟨typeIs_int s i t, fun _ e => nomatch e⟩
  | ref p =>
    cases r
    rcases ty with ⟨rfl, xs, hq⟩ | ⟨rfl, o, hk, hc, hd⟩ | ⟨rfl, hk⟩ | ⟨rfl, S, n, hk⟩
    · obtain ⟨its, _, pl, _⟩ := I.list hq
      refine ⟨pl.isList.typeIs, fun a e => ?_⟩
      cases e
      obtain ⟨o, n, e, c, hd, _⟩ := pl
      exact ⟨o, e, hd⟩
    · refine ⟨⟨o, I.kIn p o hk, hc⟩, fun a e => ?_⟩
      cases e
      exact ⟨o, I.kIn _ o hk, hd⟩
    · have z : ∃ o, s.heap.get? p = some o ∧ o.ExactDict := by
        rcases hk with ⟨kvs, hk⟩ | ⟨kvs, hk⟩
        · obtain ⟨_, _, _, _, o, _, _, e, ex, _⟩ := I.hok p _ hk
          exact ⟨o, e, ex⟩
        · obtain ⟨_, _, _, _, o, _, _, e, ex, _⟩ := I.hok p _ hk
          exact ⟨o, e, ex⟩
      obtain ⟨o, e, ex⟩ := z
      refine ⟨⟨o, e, ex.1⟩, fun a e2 => ?_⟩
      cases e2
      exact ⟨o, e, ex.2.1⟩
    · obtain ⟨o, _, _, _, e, ex, _⟩ := I.hok p _ hk
      refine ⟨⟨o, e, ex.1⟩, fun a e2 => ?_⟩
      cases e2
      exact ⟨o, e, ex.2.1⟩
  | _ => exact False.elim ty
def tBM0 (K : PySem.W.Frag) (T : String) (r : V → List V → Hp → VK → Prop) (to : TE) : TE := fun σ H Q => to σ H fun x H1 => tyV K T x H1 ∧ r x [] H1 Q
def tBM (K : PySem.W.Frag) (T : String) (r : V → List V → Hp → VK → Prop) (to : TE) (t : TA) : TE := fun σ H Q => to σ H fun x H1 => tyV K T x H1 ∧ t σ H1 fun xs H2 => r x xs H2 Q
variable {o e : Expr} {es : List Expr} {to : TE} {t : TA} {name : Str} {apos cpos : Pos} {T id : String} {r : V → List V → Hp → VK → Prop}
theorem pe_bm (pa : PlainAttrs T) (slot : Slot T name id) (hty : typeOf (.builtin id) = pure (.type "method_descriptor")) (hm : MtR X id r) (ho : PE X o to) (ha : PA X (e :: es) t)
    (hbase : attributeBase o name X.env (eval o X.env) = eval o X.env := by rfl)
    (hfew : ((backTo cpos (starEach (e :: es) X.env)).all (fun x => !x.1) && (backToKw cpos (keywordEach [] X.env)).all (fun x => x.1.isSome)
      && decide ((e :: es).length + ([] : List Keyword).length + (if ([] : List Keyword).isEmpty then 0 else 1) < 30)) = true := by rfl)
    (hline : (apos.endLine == cpos.line) = true := by rfl) (hs : starEach (e :: es) X.env = (false, eval e X.env) :: starEach es X.env := by rfl) (hplain : (backTo cpos (starEach es X.env)).any (·.1) = false := by rfl) :
    PE X (.Call (.Attribute o name apos) (e :: es) [] cpos) (tBM X.K T r to t) := by
  intro pins s σ H Q I h
  refine wpAny_Call_method_late hbase hfew hline rfl (thn (ho pins s σ H _ I h) fun v s1 ⟨x, H1, I1, r1, ty, q1⟩ => ?_)
  obtain ⟨h1, h2⟩ := tyV_is I1 r1 ty
  refine ⟨T, id, pa, slot, hty, h1, h2, ?_⟩
  have hA := ha cpos pins s1 σ H1 _ I1 q1
  rw [hs] at hA ⊢
  refine Calls.callWith_builtin (by show (false || (backTo cpos (starEach es X.env)).any (·.1)) = false; rw [hplain] <;> rfl) (Calls.evalArgs_plain ?_)
  exact thn hA fun us s2 ⟨vs, H2, I2, r2, q2⟩ => hm pins s2 σ H2 x vs v us Q I2 r1 r2 q2
/- xs.append(e), list.index on a module's tuple .. are MtR facts of 06m -/
end
end L2

namespace L2
open PySem PySem.Spec PyProof.Rows

def MtM (X : Cx) (id : String) (r : V → List V → Hp → VK → Prop) : Prop :=
  ∀ (pins : List (Addr × Obj)) (s : Shared) (σ : St) (H : Hp) (x : V) (xs : List V) (v : Value) (us : List Value) (Q : VK), Inv X pins σ H s → RelV x v → Vals xs us → r x xs H Q →
    wpAny (model X.prog X.w) X.A (call (.builtin id) (v :: us)) (EP X pins σ Q) X.xe s

/-! ### lists of values -/
theorem Vals.one : ∀ {x : V} {us : List Value}, Vals [x] us → ∃ u, us = [u] ∧ RelV x u
  | _, _, .cons r .nil => ⟨_, rfl, r⟩
section
variable {X : Cx} {pins : List (Addr × Obj)} {σ : St} {H : Hp} {s : Shared} {l b : Addr} {xs ys zs : List V}

/-! ### the two steps: a tracked list is rewritten, a new list is laid -/
theorem Inv.lset {its its' : List Value} {n : Nat} {f : Array Value → Array Value} {t' : Nat} (I : Inv X pins σ H s) (hH : H l = some (.lst xs))
    (e : s.heap.get? l = some { cls := .type "list", data := .seq its.toArray n }) (hf : f its.toArray = its'.toArray) (hv : Vals ys its') (hz : ys.length ≤ sizeLine) :
    Inv X pins σ (upd H l (.lst ys)) { s with heap := s.heap.update l (Obj.mapSeq f), toks := t' } := by
  have q := PySem.IsL.update e f
  rw [hf] at q
  refine I.write (x := l) (e := l) (by rw [hH]; exact trivial) (.inl rfl) (fun b' u hb hu => (Heap.get?_update_other s.heap (Obj.mapSeq f) (Ne.symm hb)).trans hu) ⟨_, q⟩ ?_
  exact ⟨hz, its', _, hv, q⟩
theorem Inv.lnew {its : List Value} {t' : Nat} (I : Inv X pins σ H s) (hv : Vals ys its) (hz : ys.length ≤ sizeLine) :
    Inv X pins σ (upd H s.heap.objs.size (.lst ys)) { s with heap := s.heap.push { cls := .type "list", data := .seq its.toArray }, toks := t' } :=
  I.laid (fun _ _ q => Heap.get?_push_of_some _ q) (Nat.le_refl _) ⟨hz, its, 0, hv, Heap.get?_push_size _ rfl⟩
theorem Inv.fresh (I : Inv X pins σ H s) : H s.heap.objs.size = none := I.hok.fresh (Nat.le_refl _)
theorem Inv.lstM (I : Inv X pins σ H s) (hH : H l = some (.lst xs)) : xs.length ≤ sizeLine ∧ ∃ (its : List Value) (n : Nat), Vals xs its ∧ xs.length = its.length ∧ s.heap.get? l = some { cls := .type "list", data := .seq its.toArray n } := by
  obtain ⟨z, its, n, r, e⟩ := I.hok l _ hH
  exact ⟨z, its, n, r, r.length, e⟩

end

section
variable {X : Cx}

/-! ### methods -/
def rAppend : V → List V → Hp → VK → Prop := fun x vs H Q => ∃ l xs y, x = .ref l ∧ vs = [y] ∧ H l = some (.lst xs) ∧ xs.length < sizeLine ∧ Q .non (upd H l (.lst (xs ++ [y])))
theorem mt_append : MtM X "list.append" rAppend := by
  intro pins s σ H x vs v us Q I rx rv h
  obtain ⟨l, xs, y, rfl, rfl, hH, hz, q⟩ := h
  cases rx
  obtain ⟨u, rfl, ru⟩ := rv.one
  obtain ⟨z, its, n, r, hl, e⟩ := I.lstM hH
  refine call_meets F.slot_list_append ⟨_, e, rfl⟩ F.entry_list_append (F.args_list_append_2 _ _) (PySem.list_append l its.toArray n u (by rw [List.size_toArray]; omega)) ⟨e, ?_⟩
  refine ⟨.non, _, I.lset (its' := its ++ [u]) hH e (by simp) (r.append (.cons ru .nil)) ?_, rfl, q⟩
  rw [List.length_append, List.length_singleton]
  omega

def rExtend : V → List V → Hp → VK → Prop := fun x vs H Q => ∃ l b xs zs, x = .ref l ∧ vs = [.ref b] ∧ H l = some (.lst xs) ∧ H b = some (.lst zs) ∧ xs.length + zs.length ≤ sizeLine ∧ Q .non (upd H l (.lst (xs ++ zs)))
def rPop : V → List V → Hp → VK → Prop := fun x vs H Q => ∃ l xs y, x = .ref l ∧ vs = [] ∧ H l = some (.lst xs) ∧ xs[xs.length - 1]? = some y ∧ Q y (upd H l (.lst xs.dropLast))
def rPopAt : V → List V → Hp → VK → Prop := fun x vs H Q => ∃ l xs i k y, x = .ref l ∧ vs = [.int i] ∧ H l = some (.lst xs) ∧ -(2 ^ 63) ≤ i ∧ i < 2 ^ 63 ∧ seqIndex? i xs.length = some k ∧ xs[k]? = some y ∧ Q y (upd H l (.lst (xs.eraseIdx k)))
def rReverse : V → List V → Hp → VK → Prop := fun x vs H Q => ∃ l xs, x = .ref l ∧ vs = [] ∧ H l = some (.lst xs) ∧ Q .non (upd H l (.lst xs.reverse))
def rClear : V → List V → Hp → VK → Prop := fun x vs H Q => ∃ l xs, x = .ref l ∧ vs = [] ∧ H l = some (.lst xs) ∧ Q .non (upd H l (.lst []))
/-! ### list + list, list += list, list * int -/
def rCat : R2 := fun x y H Q => ∃ l b xs zs, x = .ref l ∧ y = .ref b ∧ H l = some (.lst xs) ∧ H b = some (.lst zs) ∧ xs.length + zs.length ≤ sizeLine ∧ ∀ p, H p = none → Q (.ref p) (upd H p (.lst (xs ++ zs)))
/-- a list times an int (a negative one is nothing) -/
def rRep : R2 := fun x y H Q => ∃ l k xs, x = .ref l ∧ y = .int k ∧ H l = some (.lst xs) ∧ -(2 ^ 63) ≤ k ∧ k < 2 ^ 63 ∧ xs.length * k.toNat ≤ sizeLine ∧
  ∀ p, H p = none → Q (.ref p) (upd H p (.lst (List.replicate k.toNat xs).flatten))
/-! ### del xs[i] -/
end

/-! ### xs[a:b] = ys -/
section
variable {prog : Program} {w : World} {A : Around} {E : Value → Shared → Prop} {s : Shared}
set_option maxRecDepth 100000 in
end

section
variable {X : Cx}
end
end L2

namespace Att
open PySem PySem.W PySem.Calls PyProof.Rows

/-! ### the script -/
theorem ints_of_wellAll {P : Params} {h : Heap} : ∀ (ns : List Int) (vs : List Value), WellAll P h vs (ns.map WData.int) → IntsAre vs ns := by
  intro ns
  induction ns with
  | nil =>
    intro vs w
    rw [List.map_nil] at w
    cases w
    exact .nil
  | cons n ns ih =>
    intro vs w
    rw [List.map_cons] at w
    cases w with
    | cons a b =>
      cases a
      exact .cons _ _ (ih _ b)

theorem script_of {l : OpenLaw} {n : Nat} (hn : l.most = some n) {P : Params} {h : Heap} {args : List WData} {vals : List Value}
    (hpre : l.row.toRowW.claim.pre args = true) (hwl : WellAll P h vals args) :
    ∃ a vs ns, vals = [Value.ref a] ∧ args = [WData.list (ns.map WData.int)] ∧ h.get? a = some { cls := .type "list", data := .seq vs.toArray } ∧ IntsAre vs ns ∧ ns.length ≤ n := by
  have hsh : WShape.hasAll [] args [.list .int] = true := (pre_splitW hpre).1
  have hc : l.pre.holds [] { args := args } = true := (pre_splitW hpre).2
  obtain ⟨d, r, rfl, h1, h2⟩ := hasAllW_cons hsh
  obtain rfl := hasAllW_nil h2
  obtain ⟨xs, rfl, h3⟩ := hasW_list h1
  obtain ⟨ns, rfl⟩ := items_int h3
  have hlen : ns.length ≤ n := by
    unfold OpenLaw.pre at hc
    have h4 : (WTm.not (.lt (.lit (.int (n : Int))) (.len (.arg 0)))).holds [] { args := [.list (ns.map .int)] } = true := by
      have h4 := (holds_andW hc).1
      rw [hn] at h4
      exact h4
    have h5 := condW_of h4 (w_not (w_lt w_lit (w_len_list (w_arg rfl))))
    rw [List.length_map] at h5
    refine Nat.le_of_not_lt fun q => ?_
    have q' : (n : Int) < ((ns.length : Nat) : Int) := by omega
    first
      | (rw [decide_eq_true q'] at h5; exact absurd h5 (by decide))
      | (simp at h5; omega)
  cases hwl with
  | cons w1 w2 =>
    cases w2
    cases w1 with
    | list ho hall => exact ⟨_, _, ns, rfl, rfl, ho, ints_of_wellAll ns _ hall, hlen⟩

theorem post_true (l : OpenLaw) (args : List WData) : l.row.toRowW.claim.post args (.bool true) args = true :=
  postW_of (r := l.row.toRowW) (X := (true == true))
    (show WShape.has [] (.bool true) .bool = true by first | rfl | decide | simp [WShape.has, WShape.arms, WShape.armsAll])
    (show (WTm.eq .res (.lit (.bool true))).value [] { args := args, res := some (.bool true), after := args } = some (.bool (true == true)) from w_eq_bool (w_res rfl) w_lit) rfl

/-! ### the attachment: holds_open's last premise (the goal 'hc' behind k_head) from a wpAny of the law's body -/
/-- the same from a codeAny of the CALL (for a layer whose function contracts speak of calls) -/
theorem attach_call {l : OpenLaw} {n : Nat} {q : Program} {loose : List Str} {XP : (Str → Option Value) → Heap → Prop} {YP : World → Heap → Prop} {d : DefRec}
    (hn : l.most = some n) (hdf : d.params.defaults = [])
    (call : ∀ (w : World) (s₀ s₁ : Shared) (mg mb : Str → Option Value) (fa : Addr) (o : Obj) (pm cd doc : Value) (a : Addr) (vs : List Value) (ns : List Int),
      Ground q loose [] XP w s₀ mg mb s₁.heap → YP w s₁.heap →
      s₁.heap.get? fa = some o → o.data = .func (docDef d.name d.params d.body d.scope pm cd doc) → s₁.heap.CodeRec cd d.name → mg d.name = some (.ref fa) →
      s₁.heap.get? a = some { cls := .type "list", data := .seq vs.toArray } → IntsAre vs ns → ns.length ≤ n → s₁.gens = #[] →
      codeAny (model l.prog w) callerA (.call (.ref fa) ⟨[.ref a], []⟩) (fun r s' => r = .ok (.ret (.bool true)) ∧ OldK s₁.heap s'.heap ∧ s'.os = s₁.os ∧ AllBare s'.gens) s₁) :
    WalkO q loose XP YP l.row.toRowW d [] (fun f vs => PySem.call f vs) := by
  intro w s₀ s₁ mg mb G Y fa o pm cd doc dV kV ho hd hcd hD hmg hg args vals as hpre hlay hrd hwl hlo
  obtain rfl : dV = .none := Dflts.none hD hdf
  obtain rfl : kV = .none := Dflts.noKw hD
  obtain ⟨a, vs, ns, rfl, rfl, hobj, hints, hlen⟩ := script_of hn hpre hwl
  refine enter_call (codeAny_mono (call w s₀ s₁ mg mb fa o pm cd doc a vs ns G Y ho (fd_plain hd) hcd hmg hobj hints hlen hg) fun r s' hq => ?_)
  obtain ⟨rfl, h2, h3, h4⟩ := hq
  exact ⟨.inl ⟨.bool true, .bool true, [], rfl, fun _ => rfl, .bool true, post_true l _, fun _ => ⟨List.Pairwise.nil, fun _ hm => (nomatch hm)⟩⟩, h2, h3, h4⟩

/-! ### rules over ANY heap (no ledger) from facts about the written part K: the library's own take a ledger (News) for what they write -/
section
variable {prog : Program} {w : World} {A : Around} {E : Value → Shared → Prop} {s : Shared} {K : Frag}

/-! the whole heap as the ledger: makes every rule that writes through a ledger a rule over any heap -/
def noObjs (h : Heap) : Heap := { h with objs := #[] }
def ledger (h : Heap) (L d : Addr) : List (Addr × Obj) := (List.range h.objs.size).filterMap fun a => if a = L ∨ a = d then none else (h.get? a).map fun o => (a, o)
end
end Att

namespace L2
open PySem PySem.Spec PyProof.Rows

theorem vals_ints : ∀ {vs : List Value} {ns : List Int}, IntsAre vs ns → Vals (ns.map V.int) vs
  | _, _, .nil => .nil
  | _, _, .cons n t h => .cons ⟨t, rfl⟩ (vals_ints h)

/-- nothing is tracked but the script, known to the object (or it is an object of the module) -/
def Only (H : Hp) : Prop := ∀ b, H b = none ∨ ∃ o xs, H b = some (.frz o (.lst xs))

/-- THE HEAD: the law's promise, at the heap behind the top. F, the promise of the law's def, may use that base is part of the heap (so K.In base, base.Ns mainGlobals mg stand in Mod) -/
theorem law_call {P : Program} {w : World} {K : PySem.W.Frag} {mg mb : Str → Option Value} {CX : CXT} {k : Nat} {fa a : Addr} {fd : FuncData} {x : Str} {sp : Sp} {s₁ : Shared} {vs : List Value} {ns : List Int}
    (KX : K.In s₁.heap) (hns : s₁.heap.Ns mainGlobals mg) (hb : s₁.heap.Ns builtinsNs mb) (hbb : ∀ x : Str, x ≠ "__name__" → mb x = bootBuiltins x) (hlim : s₁.heap.NoLimit) (hg : s₁.gens = #[])
    (ha : s₁.heap.get? a = some { cls := .type "list", data := .seq vs.toArray }) (hi : IntsAre vs ns) (hl : ns.length ≤ sizeLine) (hr : Room k callerA)
    (F : ∀ base : Heap, K.In base → base.Ns mainGlobals mg → FnOk P w K mg base CX k fa fd [x] sp) (hbind : ∀ (s : Shared) (u : Value), BindsTo s fd ⟨[u], []⟩ [(x, u)])
    (hsp : ∀ H : Hp, Only H → SqL K H a (ns.map V.int) → sp [.ref a] H (fun v _ => v = .bl true) fun _ _ _ => False)
    (hCX : ∀ H e s', CX [] H s₁ (fun _ _ _ => False) e s' → False) :
    codeAny (model P w) callerA (.call (.ref fa) ⟨[.ref a], []⟩) (fun r s' => r = .ok (.ret (.bool true)) ∧ OldK s₁.heap s'.heap ∧ s'.os = s₁.os ∧ AllBare s'.gens) s₁ := by
  have rv := vals_ints hi
  have lenV := hi.length
  -- from an abstract heap in which nothing but the script may be tracked
  have core : ∀ H : Hp, Only H → SqL K H a (ns.map V.int) → HOk P w H s₁.heap → (∀ b, H b ≠ none → b = a) → (H a ≠ none → K.lookup a = none) →
      codeAny (model P w) callerA (.call (.ref fa) ⟨[.ref a], []⟩) (fun r s' => r = .ok (.ret (.bool true)) ∧ OldK s₁.heap s'.heap ∧ s'.os = s₁.os ∧ AllBare s'.gens) s₁ := by
    intro H hO hS hok hA hK
    have base_of : ∀ {b : Addr} {o : Obj}, s₁.heap.get? b = some o → H b = none → (hidT s₁.heap H).get? b = some o := fun e n => hidT_get e n
    have noA : ∀ {b : Addr} {o : Obj} {es : Array DictEntry} {ep : Nat}, s₁.heap.get? b = some o → o.data = .dict es ep → H b = none := fun {b o es ep} e d => by
      cases q : H b with
      | none => rfl
      | some u =>
        have e' : b = a := hA b (by rw [q]; simp)
        subst e'
        rw [ha] at e; cases e
        have d' : Data.seq vs.toArray _ = Data.dict es ep := d
        cases d'
    have nsK : ∀ {b : Addr} {m : Str → Option Value}, s₁.heap.Ns b m → (hidT s₁.heap H).Ns b m := fun {b m} ⟨o, es, ep, e, d, r⟩ => ⟨o, es, ep, base_of e (noA e d), d, r⟩
    have hKb : K.In (hidT s₁.heap H) := fun b o e => base_of (KX b o e) (by
      cases q : H b with
      | none => rfl
      | some u =>
        have e' : b = a := hA b (by rw [q]; simp)
        subst e'
        rw [hK (by rw [q]; simp)] at e; cases e)
    have hM : Mod K mg (hidT s₁.heap H) := ⟨hKb, nsK hns, ⟨mb, nsK hb, hbb⟩, let ⟨mc, h1, h2⟩ := hlim; ⟨mc, nsK h1, h2⟩⟩
    have e0 : Env0 P w K mg (hidT s₁.heap H) callerA [] s₁ H := ⟨rfl, hM, fun b o e => of_hidT e, Nat.le_of_eq (hidT_size _ _), trivial, fun b hb => absurd (show b ∈ ([] : List Addr) from hb) (by simp), hok, .of_eq hg⟩
    refine codeAny_mono ((F _ hKb (nsK hns)).run callerA [] s₁ H ⟨[.ref a], []⟩ [.ref a] [.ref a] _ _ hr e0 (hbind s₁ (.ref a)) (.cons rfl .nil) (hsp H hO hS)) fun r s' h => ?_
    cases r with
    | error e => exact (hCX H e s' h).elim
    | ok fl =>
      cases fl with
      | next => exact False.elim h
      | brk => exact False.elim h
      | cont => exact False.elim h
      | ret u =>
        obtain ⟨v, H', os, bare, un, hok', r', q⟩ := h
        have q' : v = .bl true := q
        subst q'
        obtain rfl : u = Value.bool true := r'
        refine ⟨rfl, OldK.of_keep fun b o e => ?_, os, bare⟩
        cases q : H b with
        | none => exact un.keep b o e q (by intro z; exact absurd (show b ∈ ([] : List Addr) from z) (by simp)) (by simp)
        | some u =>
          rcases hO b with z | ⟨ob, xs, z⟩
          · rw [q] at z; cases z
          · have z2 := un.frzs b ob _ z
            obtain ⟨e1, _⟩ := hok b _ z
            obtain ⟨e2, _⟩ := hok' b _ z2
            rw [e] at e1; cases e1
            exact e2
  cases hk : K.lookup a with
  | some o =>
    -- the script is one of the module's own objects
    have e := KX a o hk
    rw [ha] at e
    cases e
    refine core (fun _ => none) (fun _ => .inl rfl) (.inr ⟨_, vs.toArray, _, hk, rfl, rfl, rfl, by rw [List.size_toArray, lenV]; exact hl, by simpa using rv⟩) (fun b u z => by have z' : (none : Option HO) = some u := z; cases z') (fun b z => absurd rfl z) fun z => absurd rfl z
  | none =>
    refine core (fun b => if b = a then some (.frz { cls := .type "list", data := .seq vs.toArray } (.lst (ns.map V.int))) else none) (fun b => ?_) (.inl (.inr ⟨{ cls := .type "list", data := .seq vs.toArray }, if_pos rfl⟩)) (fun b u z => ?_) (fun b z => ?_) fun _ => hk
    · by_cases hb : b = a
      · exact .inr ⟨_, _, if_pos hb⟩
      · exact .inl (if_neg hb)
    · by_cases hb : b = a
      · have z' := (if_pos hb).symm.trans z
        cases z'
        subst hb
        exact ⟨ha, by rw [List.length_map]; exact hl, vs, _, rv, ha⟩
      · have z' := (if_neg hb).symm.trans z
        cases z'
    · by_cases hb : b = a
      · exact hb
      · exact absurd (if_neg hb) z
end L2

namespace L2
open PySem PySem.Spec PyProof.Rows

abbrev KOf {K : PySem.W.Frag} {h : Heap} (_ : K.In h) : PySem.W.Frag := K

/-- the goal that k_head leaves (case hc), from the law's promise. F gives the function object fd (K's own) once, then the promise over every base -/
theorem walk_of {l : PySem.W.OpenLaw} {n k : Nat} {q : Program} {loose : List Str} {XP : (Str → Option Value) → Heap → Prop} {YP : World → Heap → Prop} {d : DefRec} {K : Params → PySem.W.Frag} {CX : World → CXT} {sp : World → Sp} {x : Str}
    (hn : l.most = some n) (hn2 : n ≤ sizeLine) (hdf : d.params.defaults = []) (hr : Room k callerA)
    (hY : ∀ (w : World) (h : Heap), YP w h → (K w.params).In h)
    (F : ∀ (w : World) (mg : Str → Option Value) (fa : Addr) (h : Heap), (K w.params).In h → h.Ns mainGlobals mg → mg d.name = some (.ref fa) →
      ∃ fd : FuncData, (∀ (s : Shared) (u : Value), BindsTo s fd ⟨[u], []⟩ [(x, u)]) ∧
        ∀ base : Heap, (K w.params).In base → base.Ns mainGlobals mg → FnOk l.prog w (K w.params) mg base (CX w) k fa fd [x] (sp w))
    (hsp : ∀ (w : World) (H : Hp) (a : Addr) (ns : List Int), ns.length ≤ n → Only H → SqL (K w.params) H a (ns.map V.int) → sp w [.ref a] H (fun v _ => v = .bl true) fun _ _ _ => False)
    (hCX : ∀ (w : World) (H : Hp) (s : Shared) (e : Value) (s' : Shared), CX w [] H s (fun _ _ _ => False) e s' → False) :
    PySem.W.WalkO q loose XP YP l.row.toRowW d [] (fun f vs => PySem.call f vs) := by
  refine Att.attach_call hn hdf fun w s₀ s₁ mg mb fa o pm cd doc a vs ns G Y ho hd hcd hmg hobj hints hlen hg => ?_
  have KX := hY w _ Y
  obtain ⟨fd, hb, hF⟩ := F w mg fa _ KX G.T.g hmg
  exact law_call KX G.T.g G.T.b G.T.builtins G.T.nolimit hg hobj hints (Nat.le_trans hlen hn2) hr hF hb (fun H hO hS => hsp w H a ns hlen hO hS) fun H e s' => hCX w H s₁ e s'
end L2

/- THE LAST THEOREM (shape; LID, My.* are yours):
   My.Adr: a structure of the addresses that your layer names (classes, functions); My.Txt K t: a structure (Prop) of the equations over K;
   My.txt_mk : {K} {implicit addresses ..} (e1 : nsIn K mainGlobals "law" = some (some (.ref f))) (e2 : K.lookup f = some ⟨oc, od, .func (fnOf "law" "law" params body scope dV kV doc pm an cdv ct), sl⟩) (e3 : codeIn K cdv "law" = true) .. : ∃ t, My.Txt K t

set_option maxRecDepth 100000 in
set_option maxHeartbeats 0 in
theorem PySem.Challenge.cw_LID_holds : PySem.Challenge.rw_LID.Holds := by
  w_on; o_law; k_head; (case hw => w_witness2)
  k_fill
  refine L2.walk_of (l := PySem.Challenge.rw_LID) (n := 63) (k := 40) (x := "script") (CX := fun w => ..) (sp := fun _ => My.sp_law) rfl (by decide) rfl ⟨rfl, by decide, by decide⟩ (fun w h Y => PySem.W.kIn_of Y) ?F ?S ?C
  case F =>
    intro w mg fa h KX G hmg
    have T : ∃ t, My.Txt (L2.KOf KX) t := by
      dsimp only [L2.KOf]                          -- K must stand as «<heap const> w.params» for k_is
      refine' My.txt_mk ?e1 ?e2 ?e3 ..
      (case e1 => PySem.W.k_is)                    -- in the order: a name -> its address -> its object -> its parts
      (case e2 => PySem.W.k_is)
      ..
    obtain ⟨t, T⟩ := T
    have e0 := hmg.symm.trans (PySem.W.mg_of KX G T.law)
    cases e0                                       -- fa is the law's own address
    exact ⟨_, fun s u => .of_eq rfl, fun base kb nb => My.law_fn T kb nb⟩     -- if «.of_eq rfl» comes too early: refine' ⟨_, ?b, fun base kb nb => My.law_fn T kb nb⟩; exact fun s u => .of_eq rfl
  case S => exact fun w H a ns hl hO hS => ..
  case C => exact ..
(the tactic k_is has no namespace: write k_is) -/

/-! SHORT WORDS over the layer: a def of the text, its body, what a loop and a test want. -/
namespace L2
open PySem PySem.Spec PyProof.Rows

/-! ### the text by places -/
/-- the j-th statement of a class's body -/
def inClass (s : Stmt) (j : Nat) : Stmt := match s with
  | .ClassDef _ _ _ body _ _ _ _ _ _ _ => body.getD j (.Pass ⟨0, 0, 0, 0⟩)
  | _ => .Pass ⟨0, 0, 0, 0⟩
def defArgs (s : Stmt) : Arguments := match s with
  | .FunctionDef _ a _ _ _ _ _ _ _ _ => a
  | _ => { posonlyargs := [], args := [], vararg := none, kwonlyargs := [], kw_defaults := [], kwarg := none, defaults := [] }
def defBody (s : Stmt) : List Stmt := match s with
  | .FunctionDef _ _ b _ _ _ _ _ _ _ => b
  | _ => []
def defScope (s : Stmt) : Scope := match s with
  | .FunctionDef _ _ _ _ _ _ sc _ _ _ => sc
  | _ => { kind := .function, names := [], isGenerator := false, isCoroutine := false }

/-! ### no exception leaves a def -/
abbrev CX0 : CXT := fun _ _ _ _ _ _ => False
abbrev E0 : XK := fun _ _ _ => False
/-! ### a def (or method) of the text as it stands behind the top -/
structure Fun (K : PySem.W.Frag) (x qual : Str) (st : Stmt) (f : Addr) (fd : FuncData) : Prop where
  ex : ∃ (oc : Value) (od : Option Addr) (kV doc pm : Value) (an : Option Addr) (cdv ct : Value) (osl : Array (Option Value)),
    fd = PySem.W.fnOf x qual (defArgs st) (defBody st) (defScope st) .none kV doc pm an cdv ct ∧ K.lookup f = some ⟨oc, od, .func fd, osl⟩ ∧ PySem.W.codeIn K cdv qual = true
  kp : PySem.W.keepIn K (.ref f) = true
section
variable {P : Program} {w : World} {K : PySem.W.Frag} {mg : Str → Option Value} {base : Heap}
/-- how its arguments bind (no defaults): h is «fun _ _ _ _ _ _ us hl => match us, hl with | [_, _], _ => rfl», one _ a parameter -/
theorem Fun.binds {x qual : Str} {st : Stmt} {f : Addr} {fd : FuncData} {ps : List Str} (F : Fun K x qual st f fd)
    (h : ∀ (kV doc pm : Value) (an : Option Addr) (cdv ct : Value) (us : List Value), us.length = ps.length → bindArgs (PySem.W.fnOf x qual (defArgs st) (defBody st) (defScope st) .none kV doc pm an cdv ct) ⟨us, []⟩ = pure (ps.zip us)) : Binds K fd ps [] := by
  obtain ⟨oc, od, kV, doc, pm, an, cdv, ct, osl, rfl, lk, hcd⟩ := F.ex
  exact .all (h kV doc pm an cdv ct)
theorem fun_mk {x qual : Str} {st : Stmt} {f : Addr} {oc : Value} {od an : Option Addr} {osl : Array (Option Value)} {kV doc pm cdv ct : Value} (l : K.lookup f = some ⟨oc, od, .func (PySem.W.fnOf x qual (defArgs st) (defBody st) (defScope st) .none kV doc pm an cdv ct), osl⟩)
    (c : PySem.W.codeIn K cdv qual = true) (k : PySem.W.keepIn K (.ref f) = true) : Fun K x qual st f (PySem.W.fnOf x qual (defArgs st) (defBody st) (defScope st) .none kV doc pm an cdv ct) := ⟨⟨oc, od, kV, doc, pm, an, cdv, ct, osl, rfl, l, c⟩, k⟩
end
/-! ### expressions in short: the name that stands in the i-th slot -/
section
variable {X : Cx}
end

/-! ### tests -/
/-! ### heaps -/
/-- all that was tracked is as it was -/
def Same (H H' : Hp) : Prop := ∀ b o, H b = some o → H' b = some o
end L2
end
section
set_option linter.all false
set_option maxRecDepth 100000
namespace NH
open PySem

/-- an exception's record at x: of class cls, not yet noted anywhere -/
def XNew (h : Heap) (x : Addr) (cls : Value) : Prop := ∃ oe vs a0, h.get? x = some oe ∧ (oe.cls = cls ∧ oe.dict = none) ∧ oe.data = .fields vs ∧ vs[0]? = some a0 ∧ vs[1]? = some .none
/-- .. noted, its newest entry at T bearing the flag fl -/
def XTr (h : Heap) (x T : Addr) (cls fl : Value) : Prop := ∃ oe vs a0 oT ts, h.get? x = some oe ∧ (oe.cls = cls ∧ oe.dict = none) ∧ oe.data = .fields vs ∧ vs[0]? = some a0 ∧ vs[1]? = some (.ref T) ∧ T ≠ x ∧ h.get? T = some oT ∧ oT.data = .fields ts ∧ ts[3]? = some fl
def XRec (h : Heap) (x : Addr) (cls : Value) : Option Addr → Value → Prop
  | none, fl => XNew h x cls ∧ fl = .none
  | some T, fl => XTr h x T cls fl

/-- what becomes of the heap when the exception at x is noted or landed: all but the frames, x and its entry stays -/
structure XMove (fs : List Addr) (x : Addr) (T T' : Option Addr) (h h' : Heap) : Prop where
  keep : ∀ b o, h.get? b = some o → b ∉ fs → b ≠ x → b ∉ T.toList → h'.get? b = some o
  slot : ∀ b o, h.get? b = some o → b ∈ fs → b ≠ x → b ∉ T.toList → ∃ sl, h'.get? b = some { o with slots := sl }
  newT : ∀ t ∈ T'.toList, t ∈ T.toList ∨ h.objs.size ≤ t
theorem XMove.refl (fs : List Addr) (x : Addr) (T : Option Addr) (h : Heap) : XMove fs x T T h h := ⟨fun _ _ e _ _ _ => e, fun _ o e _ _ _ => ⟨o.slots, e⟩, fun _ ht => .inl ht⟩

theorem dict_mapFields (o : Obj) (f : Array Value → Array Value) : (Obj.mapFields f o).dict = o.dict := by
  obtain ⟨c, d, dt, sl⟩ := o
  cases dt <;> rfl
section
variable {M : Model} {A : Around} {E : Value → Shared → Prop} {s : Shared}

theorem frame_of {base : Heap} {env e0 : Env} {outer : List Env} {L : Addr} {Q : Value → Shared → Prop} (hfr : A.frames = some (e0 :: outer)) (hl : s.heap.FunFrames base (e0 :: outer))
    (hf : env.frame = some L) (h0 : e0.frame = some L) (h : ∀ h', Heap.SlotsOnly ((e0 :: outer).filterMap (·.frame)) s.heap h' → Q (.ref L) { s with heap := h' }) : wpAny M A (frameOf env) Q E s := by
  unfold frameOf
  refine wpAny_bind (wpAny_frameEnvs hfr ?_)
  have hw : ((e0 :: outer).dropWhile fun y => y.frame != env.frame) = e0 :: outer := by simp [List.dropWhile, hf, h0]
  rw [hw]
  unfold frameObject
  refine wpAny_bind (wpAny_bind (wpAny_readyFrames_fun hl fun h1 q1 => wpAny_pure ?_))
  rw [h0]
  exact wpAny_pure (h h1 q1)

/-- the new entry is laid -/
theorem entry_laid {base : Heap} {env e0 : Env} {outer : List Env} {L x : Addr} {cls head : Value} {T : Option Addr} {had : Bool} {oe : Obj} {vs : Array Value} {a0 : Value} {Q : Unit → Shared → Prop}
    (hfr : A.frames = some (e0 :: outer)) (hl : s.heap.FunFrames base (e0 :: outer)) (hf : env.frame = some L) (h0 : e0.frame = some L)
    (ho : s.heap.get? x = some oe) (hc : oe.cls = cls ∧ oe.dict = none) (hd : oe.data = .fields vs) (hv0 : vs[0]? = some a0) (hsz : 1 < vs.size)
    (h : ∀ h' t, XTr h' x t cls (rawInt L) → XMove ((e0 :: outer).filterMap (·.frame)) x T (some t) s.heap h' → s.heap.objs.size ≤ t → Q () { s with heap := h' }) :
    wpAny M A (do let a ← frameOf env; let pl ← entryPlaceOf L had; let b ← EntryCells.newEntry head a .none (rawInt L) .none pl; setField (.ref x) 1 b) Q E s := by
  have nin : x ∉ (e0 :: outer).filterMap (·.frame) := fun hm => by
    obtain ⟨_, o, ho', nf⟩ := hl.mem hm
    rw [ho] at ho'; cases ho'; exact nf vs hd
  refine wpAny_bind (frame_of hfr hl hf h0 fun h1 q1 => ?_)
  refine wpAny_bind (wpAny_entryPlaceOf fun pl hpl => ?_)
  unfold EntryCells.newEntry newFields
  refine wpAny_bind (wpAny_newObj_type ?_ (hpl.sizeOk5 _ _ _ _ _))
  have e1 : h1.get? x = some oe := (q1.2.1 x nin).trans ho
  generalize hob : ({ cls := .type "traceback", dict := none, data := .fields ([head, .ref L, .none, rawInt L, .none] ++ (if pl.isEmpty then List.replicate 6 Value.none else pl)).toArray } : Obj) = ob
  have e2 := Heap.get?_push_of_some (h := h1) ob e1
  have hdata : ob.data = .fields ([head, .ref L, .none, rawInt L, .none] ++ (if pl.isEmpty then List.replicate 6 Value.none else pl)).toArray := by rw [← hob]
  have hfree : ob.isFreed = false := by rw [← hob]; rfl
  refine wpAny_setField e2 hd hsz ?_
  have tx : h1.objs.size ≠ x := Nat.ne_of_gt (Heap.lt_size e1)
  have d3 := Obj.data_mapFields hd (·.setIfInBounds 1 (Value.ref h1.objs.size))
  have e3 := Heap.get?_update_self (Obj.mapFields (·.setIfInBounds 1 (Value.ref h1.objs.size))) e2 (Obj.isFreed_of_fields d3)
  have other : ∀ b o, b ≠ x → h1.get? b = some o → ((h1.push ob).update x (Obj.mapFields (·.setIfInBounds 1 (Value.ref h1.objs.size)))).get? b = some o := fun b o hb e => by
    rw [Heap.get?_update_other _ _ (Ne.symm hb)]; exact Heap.get?_push_of_some _ e
  refine h _ h1.objs.size ⟨_, _, a0, ob, _, e3, ⟨(Obj.cls_mapFields _ _).trans hc.1, (dict_mapFields _ _).trans hc.2⟩, d3, by rw [Array.getElem?_setIfInBounds_ne (by decide)]; exact hv0, by simp [hsz], tx, ?_, hdata, ?_⟩ ⟨fun b o e nb nx _ => ?_, fun b o e _ nx _ => ?_, fun t ht => .inr ?_⟩ (Nat.le_of_eq q1.1.symm)
  · rw [Heap.get?_update_other _ _ (Ne.symm tx)]; exact Heap.get?_push_size _ hfree
  · first | (simp; done) | (rcases hpl with rfl | ⟨_, _, _, _, _, _, _, rfl⟩ <;> simp)
  · exact other b o nx ((q1.2.1 b nb).trans e)
  · obtain ⟨sl, e'⟩ := q1.2.2 b o e
    exact ⟨sl, other b _ nx e'⟩
  · have : t = h1.objs.size := by simpa using ht
    rw [this]; exact Nat.le_of_eq q1.1.symm

/-- noteFrame, whatever was noted ahead -/
theorem note_any {base : Heap} {env e0 : Env} {outer : List Env} {L x : Addr} {cls : Value} {T : Option Addr} {fl : Value} {Q : Unit → Shared → Prop}
    (hfr : A.frames = some (e0 :: outer)) (hl : s.heap.FunFrames base (e0 :: outer)) (hf : env.frame = some L) (h0 : e0.frame = some L) (hx : XRec s.heap x cls T fl) (hfl : fl = .none ∨ fl = rawInt L)
    (h : ∀ h' t, XTr h' x t cls (rawInt L) → XMove ((e0 :: outer).filterMap (·.frame)) x T (some t) s.heap h' → Q () { s with heap := h' }) : wpAny M A (noteFrame (.ref x) env) Q E s := by
  unfold noteFrame
  simp only [hf]
  cases T with
  | none =>
    obtain ⟨⟨oe, vs, a0, ho, hc, hd, hv0, hv1⟩, _⟩ := hx
    refine wpAny_bind (wpAny_field ho hd hv1 ?_)
    rw [if_neg (by decide)]
    exact entry_laid (T := none) hfr hl hf h0 ho hc hd hv0 (Array.getElem?_eq_some_iff.mp hv1).1 fun h' t a b _ => h h' t a b
  | some T =>
    obtain ⟨oe, vs, a0, oT, ts, ho, hc, hd, hv0, hv1, hT, hoT, hdT, h3⟩ := hx
    refine wpAny_bind (wpAny_field ho hd hv1 ?_)
    rw [if_pos (show (Value.ref T != Value.none) = true from by simp)]
    refine wpAny_bind (wpAny_field hoT hdT h3 ?_)
    by_cases hq : fl = rawInt L
    · subst hq
      rw [if_pos (show (rawInt L == rawInt L) = true from by simp)]
      exact wpAny_pure (h s.heap T ⟨oe, vs, a0, oT, ts, ho, hc, hd, hv0, hv1, hT, hoT, hdT, h3⟩ (XMove.refl _ _ _ _))
    · obtain rfl : fl = .none := hfl.resolve_right hq
      rw [if_neg (show ¬ ((Value.none == rawInt L) = true) from by simp [rawInt])]
      refine wpAny_bind (wpAny_setField hoT hdT (Array.getElem?_eq_some_iff.mp h3).1 ?_)
      have oth : ∀ b, b ≠ T → (s.heap.update T (Obj.mapFields (·.setIfInBounds 3 Value.none))).get? b = s.heap.get? b := fun b hb => Heap.get?_update_other _ _ (Ne.symm hb)
      have fr : ∀ b ∈ (e0 :: outer).filterMap (·.frame), b ≠ T := fun b hb z => by
        obtain ⟨_, o, ho', nf⟩ := hl.mem hb
        rw [z, hoT] at ho'; cases ho'; exact nf ts hdT
      refine entry_laid (T := some T) (s := { s with heap := s.heap.update T (Obj.mapFields (·.setIfInBounds 3 Value.none)) }) (base := base) hfr (hl.of_keeps fun b o e nf => ⟨o, (oth b fun z => ?_).trans e, rfl⟩) hf h0 ((oth x (Ne.symm hT)).trans ho) hc hd hv0 (Array.getElem?_eq_some_iff.mp hv1).1 fun h' t a b c => h h' t a ⟨?_, ?_, ?_⟩
      · rw [z, hoT] at e; cases e; exact nf ts hdT
      · exact fun d o e n1 n2 n3 => b.keep d o ((oth d fun z => n3 (by simp [z])).trans e) n1 n2 n3
      · exact fun d o e n1 n2 n3 => b.slot d o ((oth d fun z => n3 (by simp [z])).trans e) n1 n2 n3
      · intro t' ht'
        rcases b.newT t' ht' with z | z
        · exact .inl z
        · refine .inr (Nat.le_trans (Nat.le_of_eq ?_) z)
          exact (Heap.size_after_update ..).symm

/-- setFlight of a noted one -/
theorem flight_any {x T : Addr} {cls fl : Value} {fr : Option Addr} {fs : List Addr} {Q : Unit → Shared → Prop} (hx : XTr s.heap x T cls fl)
    (h : ∀ h', XTr h' x T cls (fr.elim .none fun f => rawInt f) → XMove fs x (some T) (some T) s.heap h' → Q () { s with heap := h' }) : wpAny M A (setFlight (.ref x) fr) Q E s := by
  obtain ⟨oe, vs, a0, oT, ts, ho, hc, hd, hv0, hv1, hT, hoT, hdT, h3⟩ := hx
  have sz : 3 < ts.size := (Array.getElem?_eq_some_iff.mp h3).1
  unfold setFlight
  refine wpAny_bind (wpAny_field ho hd hv1 ?_)
  rw [if_pos (show (Value.ref T != Value.none) = true from by simp)]
  refine wpAny_setField hoT hdT sz ?_
  have oth : ∀ b, b ≠ T → (s.heap.update T (Obj.mapFields (·.setIfInBounds 3 (fr.elim .none fun f => rawInt f)))).get? b = s.heap.get? b := fun b hb => Heap.get?_update_other _ _ (Ne.symm hb)
  have dT := Obj.data_mapFields hdT (·.setIfInBounds 3 (fr.elim Value.none fun f => rawInt f))
  exact h _ ⟨oe, vs, a0, _, _, (oth x (Ne.symm hT)).trans ho, hc, hd, hv0, hv1, hT, Heap.get?_update_self _ hoT (Obj.isFreed_of_fields dT), dT, by simp [sz]⟩
    ⟨fun b o e _ _ n => (oth b fun z => n (by simp [z])).trans e, fun b o e _ _ n => ⟨o.slots, (oth b fun z => n (by simp [z])).trans e⟩, fun t ht => .inl ht⟩
end
end NH
end
section
set_option linter.all false
set_option maxRecDepth 100000
set_option maxHeartbeats 4000000
namespace NH
open PySem PySem.Spec PyProof.Rows L2
abbrev St := L2.St

theorem objOk_get {P : Program} {w : World} {H : Hp} {h : Heap} {a : Addr} {o : HO} (x : ObjOk P w H h a o) : ∃ ob, h.get? a = some ob := by
  cases o with
  | lst xs => obtain ⟨_, _, _, _, e⟩ := x; exact ⟨_, e⟩
  | tup xs => obtain ⟨_, _, _, ob, e, _⟩ := x; exact ⟨ob, e⟩
  | dK kvs => obtain ⟨_, _, _, _, o, _, _, e, _⟩ := x; exact ⟨o, e⟩
  | dT kvs => obtain ⟨_, _, _, _, o, _, _, e, _⟩ := x; exact ⟨o, e⟩
  | set S n => obtain ⟨o, _, _, _, e, _⟩ := x; exact ⟨o, e⟩
  | ins C dx fs => obtain ⟨_, _, _, e, _⟩ := x; exact ⟨_, e⟩
  | own y => obtain ⟨o, e⟩ := x; exact ⟨o, e⟩
  | xd fs => obtain ⟨_, ⟨o, _, _, e, _⟩, _⟩ := x; exact ⟨o, e⟩
  | rng lo hi => obtain ⟨_, _, _, e⟩ := x; exact ⟨_, e⟩
  | frz ob u => obtain ⟨e, _⟩ := x; exact ⟨_, e⟩
  | tbl ps => exact ⟨_, (show h.get? a = some _ from x)⟩
  | met f y => exact ⟨_, (show h.get? a = some _ from x)⟩
  | ext φ => obtain ⟨_, ⟨o, e⟩, _⟩ := x; exact ⟨o, e⟩

/-- a record of our own: not tracked, not the frame's, new since the entry, no cell, no pin -/
structure XOk (X : Cx) (H : Hp) (b : Addr) : Prop where
  free : H b = none
  loc : b ≠ X.env.locals
  nfs : b ∉ X.fs
  new : b ∈ X.ex ∨ X.s₀.heap.get? b = none
  cel : ∀ x c, X.env.cells.lookup x = some c → c ≠ b
  pin : ∀ p ∈ X.pn, p.1 ≠ b

section
variable {X : Cx} {pins : List (Addr × Obj)} {σ : St} {H H' : Hp} {s : Shared} {h' : Heap}

theorem inv_tracked (I : Inv X pins σ H s) {b : Addr} (e : s.heap.get? b = none) : H b = none := by
  cases q : H b with
  | none => rfl
  | some o =>
    obtain ⟨ob, z⟩ := objOk_get (I.hok b o q)
    rw [e] at z; cases z
theorem inv_xok (I : Inv X pins σ H s) {b : Addr} (e : s.heap.get? b = none) : XOk X H b := by
  refine ⟨inv_tracked I e, fun z => ?_, fun z => ?_, ?_, fun x c q z => ?_, fun p hp z => ?_⟩
  · obtain ⟨m, ⟨o, _, _, ho, _⟩, _⟩ := I.loc
    rw [← z, e] at ho; cases ho
  · obtain ⟨_, o, ho, _⟩ := I.funs.mem z
    rw [e] at ho; cases ho
  · by_cases hx : b ∈ X.ex
    · exact .inl hx
    · refine .inr ?_
      cases q : X.s₀.heap.get? b with
      | none => rfl
      | some o =>
        obtain ⟨o', z⟩ := I.base.there b o q hx
        rw [e] at z; cases z
  · obtain ⟨v, o, ho, _⟩ := I.cell x c q
    rw [z, e] at ho; cases ho
  · have := (I.pin p (List.mem_append_left _ hp)).1
    rw [z, e] at this; cases this

/-- the records at ch turn, all else that is not tracked stays (frames up to slots) -/
theorem inv_step {ch : List Addr} (I : Inv X pins σ H s) (hch : ∀ b ∈ ch, XOk X H b ∧ ∀ p ∈ pins, p.1 ≠ b)
    (keep : ∀ b o, b ∉ frs X.stack → b ∉ ch → s.heap.get? b = some o → h'.get? b = some o)
    (slot : ∀ b o, b ∈ frs X.stack → b ∉ ch → s.heap.get? b = some o → ∃ sl, h'.get? b = some { o with slots := sl }) :
    Inv X pins σ H { s with heap := h' } := by
  have tr : ∀ b u, H b = some u → b ∉ ch := fun b u e z => by rw [(hch b z).1.free] at e; cases e
  have trf : ∀ b u, H b = some u → b ∉ frs X.stack := fun b u e z => by rw [I.stkFree b z] at e; cases e
  have any : ∀ b o, b ∉ ch → s.heap.get? b = some o → ∃ sl, h'.get? b = some { o with slots := sl } := fun b o hb e => by
    by_cases hf : b ∈ frs X.stack
    · exact slot b o hf hb e
    · exact ⟨o.slots, keep b o hf hb e⟩
  have inf : ∀ b, b ≠ X.env.locals → b ∉ X.fs → b ∉ frs X.stack := fun b h1 h2 z => (List.mem_cons.mp (I.stkSub b z)).elim h1 h2
  have nec : ∀ b o, X.s₀.heap.get? b = some o → b ∉ X.ex → b ∉ ch := fun b o e hx z => by
    rcases (hch b z).1.new with q | q
    · exact hx q
    · rw [e] at q; cases q
  have neL : ∀ b o, X.s₀.heap.get? b = some o → b ≠ X.env.locals := fun b o e => Nat.ne_of_lt (Nat.lt_of_lt_of_le (Heap.lt_size e) I.ok.above)
  have cellK : ∀ x c, X.env.cells.lookup x = some c → ∀ v, s.heap.IsCell c v → h'.IsCell c v := fun x c e v ⟨o, ho, hd⟩ => by
    obtain ⟨sl, q⟩ := any c o (fun z => (hch c z).1.cel x c e rfl) ho
    exact ⟨_, q, hd⟩
  refine ⟨I.ok, I.os, I.bare, ⟨fun b o e n hb hx => ?_, fun b o e n hb hx => ?_, fun b o e n hx => I.base.free b o e n hx, fun b o e hx => ?_, fun b xs e => I.base.tups b xs e, fun b o xs e => I.base.frzs b o xs e, fun b ps e => I.base.tbls b ps e⟩, ?_, fun x c e => ?_, I.free, fun x c e => I.freeC x c e, fun p hp => ?_, fun b u e => ?_, I.len⟩
  · exact keep b o (inf b (neL b o e) hb) (nec b o e hx) (I.base.keep b o e n hb hx)
  · obtain ⟨sl, e1⟩ := I.base.slot b o e n hb hx
    obtain ⟨sl', e2⟩ := any b _ (nec b o e hx) e1
    exact ⟨sl', e2⟩
  · obtain ⟨o', e1⟩ := I.base.there b o e hx
    obtain ⟨sl, e2⟩ := any b o' (nec b o e hx) e1
    exact ⟨_, e2⟩
  · obtain ⟨m, ⟨o, es, ep, ho, r⟩, hl⟩ := I.loc
    obtain ⟨sl, hL⟩ := any X.env.locals o (fun z => (hch _ z).1.loc rfl) ho
    refine ⟨m, ⟨_, es, ep, hL, r⟩, fun i x v e1 e2 e3 => ?_⟩
    obtain ⟨u, ru, l⟩ := hl i x v e1 e2 e3
    refine ⟨u, ru, ?_⟩
    rcases l with l | ⟨k, c, e, z⟩
    · exact .inl l
    · exact .inr ⟨k, c, e, cellK x c e _ z⟩
  · obtain ⟨v, z⟩ := I.cell x c e
    exact ⟨v, cellK x c e v z⟩
  · obtain ⟨e, n, ne, nf, d⟩ := I.pin p hp
    have nch : p.1 ∉ ch := fun z => by
      rcases List.mem_append.mp hp with q | q
      · exact (hch p.1 z).1.pin p q rfl
      · exact (hch p.1 z).2 p q rfl
    exact ⟨keep p.1 p.2 (inf p.1 ne nf) nch e, n, ne, nf, d⟩
  · refine (I.hok b u e).stay (fun c v hc q => ?_) (fun _ q => q) fun _ _ q => q
    rcases hc with z | z
    · subst z; exact keep c v (trf c u e) (tr c u e) q
    · exact keep c v (trf c _ z) (tr c _ z) q

/-- the frame that a record's flag may name -/
structure Frm (X : Cx) (e0 : Env) (out : List Env) (L : Addr) : Prop where
  stk : X.stack = e0 :: out
  f0 : e0.frame = some L
  fe : X.env.frame = some L

/-- AN EXCEPTION IN FLIGHT in the context X: W is what is wanted of its class, its dict, the names and the heap -/
abbrev XW := Value → Option Addr → St → Hp → Prop
def XP (X : Cx) (W : XW) (e : Value) (s : Shared) : Prop :=
  ∃ (x : Addr) (cls : Value) (σ : St) (H : Hp) (T : Option Addr) (fl : Value), e = .ref x ∧ Inv X [] σ H s ∧ XOk X H x ∧ (∀ t ∈ T.toList, XOk X H t) ∧ XRec s.heap x cls T fl ∧ (fl = .none ∨ ∃ L, X.env.frame = some L ∧ fl = rawInt L) ∧ W cls none σ H

theorem xp_move {x : Addr} {T : Option Addr} {t : Addr} (I : Inv X [] σ H s) (ox : XOk X H x) (ot : ∀ t ∈ T.toList, XOk X H t) (mv : XMove (frs X.stack) x T (some t) s.heap h') :
    Inv X [] σ H { s with heap := h' } ∧ XOk X H t := by
  refine ⟨inv_step (ch := x :: T.toList) I (fun b hb => ⟨?_, fun p hp => absurd hp (by simp)⟩) (fun b o hf hc e => ?_) (fun b o hf hc e => ?_), ?_⟩
  · rcases List.mem_cons.mp hb with z | z
    · rw [z]; exact ox
    · exact ot b z
  · exact mv.keep b o e hf (fun z => hc (by simp [z])) (fun z => hc (List.mem_cons_of_mem _ z))
  · exact mv.slot b o e hf (fun z => hc (by simp [z])) (fun z => hc (List.mem_cons_of_mem _ z))
  · rcases mv.newT t (by simp) with z | z
    · exact ot t z
    · exact inv_xok I (Heap.get?_none_of_le z)

/-- noteFrame upon it: it is held by this frame then -/
theorem xp_note {M : Model} {A : Around} {E : Value → Shared → Prop} {W : XW} {e : Value} {e0 : Env} {out : List Env} {L : Addr} {Q : Unit → Shared → Prop} (F : Frm X e0 out L) (hfr : A.frames = some X.stack) (p : XP X W e s)
    (h : ∀ x cls σ H T h', e = .ref x → Inv X [] σ H { s with heap := h' } → XOk X H x → XOk X H T → XTr h' x T cls (rawInt L) → W cls none σ H → Q () { s with heap := h' }) : wpAny M A (noteFrame e X.env) Q E s := by
  obtain ⟨x, cls, σ, H, T, fl, rfl, I, ox, ot, hr, hfl, w⟩ := p
  have hst := I.stack
  rw [F.stk] at hfr hst
  refine note_any hfr hst F.fe F.f0 hr (hfl.imp_right fun ⟨L', e1, e2⟩ => by rw [F.fe] at e1; cases e1; exact e2) fun h' t tr mv => ?_
  have mv' : XMove (frs X.stack) x T (some t) s.heap h' := by rw [F.stk]; exact mv
  obtain ⟨I', o'⟩ := xp_move I ox ot mv'
  exact h x cls σ H t h' rfl I' ox o' tr w
/-- setFlight upon a noted one -/
theorem xp_flight {M : Model} {A : Around} {E : Value → Shared → Prop} {x T : Addr} {cls fl : Value} {fr : Option Addr} {Q : Unit → Shared → Prop} (I : Inv X [] σ H s) (ox : XOk X H x) (oT : XOk X H T) (tr : XTr s.heap x T cls fl)
    (h : ∀ h', Inv X [] σ H { s with heap := h' } → XTr h' x T cls (fr.elim .none fun f => rawInt f) → Q () { s with heap := h' }) : wpAny M A (setFlight (.ref x) fr) Q E s := by
  refine flight_any (fs := frs X.stack) tr fun h' tr' mv => h h' (xp_move (T := some T) I ox (fun t ht => ?_) mv).1 tr'
  have : t = T := by simpa using ht
  rw [this]; exact oT

/-- loops let it pass -/
theorem xp_passes {W : XW} {M : Model} {e0 : Env} {out : List Env} {L : Addr} (F : Frm X e0 out L) (hfr : X.A.frames = some X.stack) : PassesOwn M X.A X.env (XP X W) := by
  intro e s p
  unfold notedBy
  refine xp_note F hfr p fun x cls σ H T h' ee I ox oT tr w => ?_
  subst ee
  unfold cameBackBy
  obtain ⟨oe, vs, a0, oT', ts, ho, hc, hd, hv0, hv1, hT, hoT, hdT, h3⟩ := id tr
  refine wpAny_bind (wpAny_field ho hd hv1 ?_)
  rw [if_neg (show ¬ ((Value.ref T == Value.none) = true) from by simp)]
  rw [F.fe]
  have go : wpAny M X.A (setFlight (.ref x) (some L)) (fun _ s'' => XP X W (.ref x) s'') (XP X W) { s with heap := h' } :=
    xp_flight (s := { s with heap := h' }) I ox oT tr fun h2 I2 tr2 => ⟨x, cls, σ, H, some T, rawInt L, rfl, I2, ox, fun t ht => by
      have : t = T := by simpa using ht
      rw [this]; exact oT, tr2, .inr ⟨L, F.fe, rfl⟩, w⟩
  first | exact go | exact wpAny_bind (wpAny_pure go)

/-- how an exception lies behind a call -/
def CX1 (P : Program) (w : World) : CXT := fun outer H s E e s' =>
  ∃ (x T : Addr) (cls : Value) (H' : Hp), e = .ref x ∧ s'.os = s.os ∧ AllBare s'.gens ∧ Un (frs outer) [] H H' s.heap s'.heap ∧ HOk P w H' s'.heap ∧ s.heap.get? x = none ∧ s.heap.get? T = none ∧ H' x = none ∧ H' T = none ∧ XTr s'.heap x T cls .none ∧ E cls none H'
/-- the wish of a def's body, by the wish of its call -/
def wOf (E : XK) : XW := fun c d _ H => E c d H

/-- it leaves the def -/
theorem xp_leave {M : Model} {E : XK} {e : Value} {e0 : Env} {out : List Env} {L : Addr} {F2 : Value → Shared → Prop} (F : Frm X e0 out L) (hfr : X.A.frames = some X.stack) (hex : X.ex = []) (p : XP X (wOf E) e s) :
    wpAny M X.A (leaving X.env e) (fun _ s'' => CX1 X.prog X.w X.outer X.H₀ X.s₀ E e s'') F2 s := by
  unfold leaving
  refine wpAny_bind (xp_note F hfr p fun x cls σ H T h' ee I ox oT tr w => ?_)
  subst ee
  refine xp_flight (s := { s with heap := h' }) I ox oT tr fun h2 I2 tr2 => ?_
  have nw : ∀ b, XOk X H b → X.s₀.heap.get? b = none := fun b o => o.new.resolve_left (by rw [hex]; simp)
  refine ⟨x, T, cls, H, rfl, I2.os, I2.bare, ?_, I2.hok, nw x ox, nw T oT, ox.free, oT.free, tr2, w⟩
  have := I2.base
  rw [hex] at this
  exact this

/-- it comes out of a call -/
theorem xp_call {E : XK} {W : XW} {e : Value} {s' : Shared} (I : Inv X pins σ H s) (c : CX1 X.prog X.w X.stack H s E e s') (h : ∀ cls H', E cls none H' → W cls none σ H') : XP X W e s' := by
  obtain ⟨x, T, cls, H', rfl, os, bare, un, hok, nx, nT, fx, fT, tr, w⟩ := c
  have J : Inv X pins σ H' s' := I.call' (ch := []) os un hok bare fun b z => absurd z (by simp)
  have k : ∀ b, s.heap.get? b = none → H' b = none → XOk X H' b := fun b e f => by
    have o := inv_xok I e
    exact ⟨f, o.loc, o.nfs, o.new, o.cel, o.pin⟩
  refine ⟨x, cls, σ, H', some T, .none, rfl, J.pins_of (fun p hp => absurd hp (by simp)), k x nx fx, fun t ht => ?_, tr, .inl rfl, h cls H' w⟩
  have : t = T := by simpa using ht
  rw [this]; exact k T nT fT

/-- it was just made -/
theorem xp_made {W : XW} {x : Addr} {cls : Value} {args : List Value} {h2 : Heap} (I : Inv X pins σ H s) (mk : Heap.MadeExcOf s.heap h2 x cls args) (w : W cls none σ H) : XP X W (.ref x) { s with heap := h2 } := by
  have J : Inv X pins σ H { s with heap := h2, toks := s.toks } := I.kept mk.keeps
  obtain ⟨t, ho, _, _⟩ := mk.there
  exact ⟨x, cls, σ, H, none, .none, rfl, J.pins_of (fun p hp => absurd hp (by simp)), inv_xok I mk.new, fun t ht => absurd ht (by simp), ⟨⟨_, _, .ref t, ho, ⟨rfl, rfl⟩, rfl, rfl, rfl⟩, rfl⟩, .inl rfl, w⟩
end
end NH
end
section
set_option linter.all false
namespace NH
open PySem

/-- values as trees; a mutable thing by its number in the store -/
inductive T where
  | non | bl (b : Bool) | int (i : Int) | str (x : Str)
  | tup (ts : List T) | lst (ts : List T) | obj (c : Str) (fs : List (Str × T))
  | mut (i : Nat)
  | exc (c : Str)
  deriving Inhabited
inductive MO where
  | lst (ts : List T) | obj (c : Str) (fs : List (Str × T))
  deriving Inhabited
abbrev Mem := List MO
abbrev Sl := List (Option T)

mutual
def pureT : T → Bool
  | .mut _ => false
  | .tup ts => pureL ts
  | .lst ts => pureL ts
  | .obj _ fs => pureF fs
  | _ => true
def pureL : List T → Bool
  | [] => true
  | t :: r => pureT t && pureL r
def pureF : List (Str × T) → Bool
  | [] => true
  | p :: r => pureT p.2 && pureF r
end

inductive RE (α : Type) where
  | ok (a : α) (μ : Mem) | ex (c : Str) (μ : Mem) | st
def RE.bind {α β : Type} : RE α → (α → Mem → RE β) → RE β
  | .ok a μ, f => f a μ
  | .ex c μ, _ => .ex c μ
  | .st, _ => .st
/-- what stands behind a statement -/
inductive Out where
  | nx (τ : Sl) (μ : Mem) | rt (t : T) (μ : Mem) | bk (τ : Sl) (μ : Mem) | ct (τ : Sl) (μ : Mem) | ex (c : Str) (τ : Sl) (μ : Mem) | st

/-- the meaning of a global name: a def, a class of things that never change (by its __init__), a constant, an exception's class, a name of Python's own -/
inductive GM where
  | fn (f : List T → Mem → RE T)
  | mk (c : Str) (f : List T → Mem → RE T)
  | cst (t : T)
  | xcl
  | none
  | bad
/-- a def's names, the global names that it uses, whether it is outside of an except suite -/
structure Cn where
  N : List Str
  G : List Str
  calm : Bool
  gl : Str → GM
  /-- is a thing of the type t one of the class c -/
  isin : Str → Str → Option Bool
  /-- the fields that things of a class have -/
  flds : Str → List Str
  /-- the exceptions' classes -/
  xcs : List Str
  /-- the names that isinstance may be asked by -/
  cls : List Str
  /-- the global names that are told of -/
  U : List Str
  /-- the names that a comprehension within may see -/
  cel : List Str
  /-- the names whose lists are the store's ("return" among them: what is told) -/
  own : List Str := []
def Cn.look (Γ : Cn) (x : Str) : GM := if Γ.G.contains x then Γ.gl x else .bad

def idx : List Str → Str → Option Nat
  | [], _ => none
  | y :: r, x => if y = x then some 0 else (idx r x).map (· + 1)

/-- the type's name -/
def tyN (xcs : List Str) : T → Mem → Option Str
  | .non, _ => some "NoneType"
  | .bl _, _ => some "bool"
  | .int _, _ => some "int"
  | .str _, _ => some "str"
  | .tup _, _ => some "tuple"
  | .lst _, _ => some "list"
  | .exc c, _ => if xcs.contains c then some c else none
  | _, _ => none

def big : Int := 18446744073709551616
def room : Nat := 1000000

def binT : Operator → T → T → Mem → RE T
  | .Add, .int i, .int j, μ => .ok (.int (i + j)) μ
  | .Sub, .int i, .int j, μ => .ok (.int (i - j)) μ
  | .Mult, .int i, .int j, μ => if (-big < i ∧ i < big) ∨ (-big < j ∧ j < big) then .ok (.int (i * j)) μ else .st
  | .FloorDiv, .int i, .int j, μ => if 0 < j ∧ j < 1073741824 then .ok (.int (i / j)) μ else .st
  | .Mod, .int i, .int j, μ => if 0 < j then .ok (.int (i % j)) μ else .st
  | .Pow, .int i, .int j, μ => if 0 ≤ j ∧ j ≤ 1000000 ∧ i.natAbs < 18446744073709551616 then .ok (.int (i ^ j.toNat)) μ else .st
  | .RShift, .int i, .int j, μ => if 0 ≤ j then .ok (.int (i / 2 ^ j.toNat)) μ else .st
  | .Add, .str x, .str y, μ => if x.length + y.length ≤ room then .ok (.str (x ++ y)) μ else .st
  | .BitAnd, .int i, .int j, μ => .ok (.int (Builtin.bitAnd i j)) μ
  | .Add, .lst xs, .lst ys, μ => if xs.length + ys.length ≤ room then .ok (.lst (xs ++ ys)) μ else .st
  | .Add, .tup xs, .tup ys, μ => if xs.length + ys.length ≤ room then .ok (.tup (xs ++ ys)) μ else .st
  | _, _, _, _ => .st


/- == of trees, as far as it is known -/
mutual
def eqT : T → T → Option Bool
  | .int i, b => match b with
    | .int j => some (i == j)
    | .bl k => some (i == (if k then 1 else 0))
    | .str _ => some false
    | .non => some false
    | .tup _ => some false
    | .lst _ => some false
    | _ => none
  | .bl k, b => match b with
    | .int j => some ((if k then 1 else 0) == j)
    | .bl j => some (k == j)
    | .str _ => some false
    | .non => some false
    | .tup _ => some false
    | .lst _ => some false
    | _ => none
  | .str x, b => match b with
    | .str y => some (x == y)
    | .int _ => some false
    | .bl _ => some false
    | .non => some false
    | .tup _ => some false
    | .lst _ => some false
    | _ => none
  | .non, b => match b with
    | .non => some true
    | .int _ => some false
    | .bl _ => some false
    | .str _ => some false
    | .tup _ => some false
    | .lst _ => some false
    | _ => none
  | .tup xs, b => match b with
    | .tup ys => eqL xs ys
    | .non => some false
    | .int _ => some false
    | .bl _ => some false
    | .str _ => some false
    | .lst _ => some false
    | _ => none
  | .lst xs, b => match b with
    | .lst ys => eqL xs ys
    | .non => some false
    | .int _ => some false
    | .bl _ => some false
    | .str _ => some false
    | .tup _ => some false
    | _ => none
  | _, _ => none
/-- every pair must be known, whatever the lengths -/
def eqL : List T → List T → Option Bool
  | [], [] => some true
  | [], _ :: _ => some false
  | _ :: _, [] => some false
  | x :: xs, y :: ys => match eqT x y, eqL xs ys with
    | some a, some b => some (a && b)
    | _, _ => none
end
/- how deep == goes -/
mutual
def depT : T → Nat
  | .tup ts => depL ts + 1
  | .lst ts => depL ts + 1
  | _ => 0
def depL : List T → Nat
  | [] => 0
  | t :: r => max (depT t) (depL r)
end

/-- scalars that == tells apart as data does -/
def scT : T → T → Option Bool
  | .non, .non => some true
  | .non, .int _ => some false | .int _, .non => some false | .non, .bl _ => some false | .bl _, .non => some false | .non, .str _ => some false | .str _, .non => some false
  | .int i, .int j => some (decide (i = j)) | .bl i, .bl j => some (decide (i = j)) | .str i, .str j => some (decide (i = j))
  | .int _, .str _ => some false | .str _, .int _ => some false | .bl _, .str _ => some false | .str _, .bl _ => some false
  | _, _ => none
def topEq (x y : T) : Option Bool := match x, y with
  | .tup xs, .tup ys => if depL xs ≤ 40 then eqL xs ys else none
  | .lst xs, .lst ys => if depL xs ≤ 40 then eqL xs ys else none
  | _, _ => scT x y

/-- the whole numbers of a list of such -/
def intsOf : List T → Option (List Int)
  | [] => some []
  | .int i :: r => (intsOf r).map (i :: ·)
  | _ :: _ => none
def ltT (x y : T) : Option Bool := match x, y with
  | .int i, .int j => some (decide (i < j))
  | .tup xs, .tup ys => (match intsOf xs, intsOf ys with | some ns, some ms => some (HT.lexLt ns ms) | _, _ => none)
  | _, _ => none
def cmpT (op : CmpOp) (x y : T) (μ : Mem) : RE T :=
  match op with
  | .Eq => (match topEq x y with | some b => .ok (.bl b) μ | none => .st)
  | .NotEq => (match topEq x y with | some b => .ok (.bl (!b)) μ | none => .st)
  | .Lt => (match ltT x y with | some b => .ok (.bl b) μ | none => .st)
  | .LtE => match x, y with | .int i, .int j => .ok (.bl (decide (i ≤ j))) μ | _, _ => .st
  | .Gt => match x, y with | .int i, .int j => .ok (.bl (decide (j < i))) μ | _, _ => .st
  | .GtE => match x, y with | .int i, .int j => .ok (.bl (decide (j ≤ i))) μ | _, _ => .st
  | .Is => match y with | .non => .ok (.bl (match x with | .non => true | _ => false)) μ | _ => .st
  | .IsNot => match y with | .non => .ok (.bl (match x with | .non => false | _ => true)) μ | _ => .st
  | .In => (match x, y with | .str i, .str j => .ok (.bl (!(Builtin.Str.occurrences j i 0 j.length 1).isEmpty)) μ | _, _ => .st)
  | .NotIn => (match x, y with | .str i, .str j => .ok (.bl (!(!(Builtin.Str.occurrences j i 0 j.length 1).isEmpty))) μ | _, _ => .st)

/-- a truth as a test -/
def truT : T → Mem → RE Bool
  | .bl b, μ => .ok b μ
  | _, _ => .st

def evL (f : Expr → Sl → Mem → RE T) : List Expr → Sl → Mem → RE (List T)
  | [], _, μ => .ok [] μ
  | e :: r, τ, μ => (f e τ μ).bind fun t μ1 => (evL f r τ μ1).bind fun ts μ2 => .ok (t :: ts) μ2

def noStar : Expr → Bool
  | .Starred _ _ => false
  | _ => true

/-- tests: and, or, not by their parts; else by the value, a truth -/
def evT (f : Expr → Sl → Mem → RE T) : Nat → Expr → Sl → Mem → RE Bool
  | 0, _, _, _ => .st
  | n + 1, e, τ, μ => match e with
    | .BoolOp .And [a] _ => evT f n a τ μ
    | .BoolOp .And (a :: b :: r) p => (evT f n a τ μ).bind fun c μ1 => if c then evT f n (.BoolOp .And (b :: r) p) τ μ1 else .ok false μ1
    | .BoolOp .Or [a] _ => evT f n a τ μ
    | .BoolOp .Or (a :: b :: r) p => (evT f n a τ μ).bind fun c μ1 => if c then .ok true μ1 else evT f n (.BoolOp .Or (b :: r) p) τ μ1
    | .UnaryOp .Not a _ => (evT f n a τ μ).bind fun c μ1 => .ok (!c) μ1
    | .Compare _ _ _ _ => (f e τ μ).bind truT
    | .Name _ _ => (f e τ μ).bind truT
    | .Call _ _ _ _ => (f e τ μ).bind truT
    | .Subscript _ _ _ => (f e τ μ).bind truT
    | .Attribute _ _ _ => (f e τ μ).bind truT
    | _ => .st

def fieldT (fl : Str → List Str) (t : T) (f : Str) (μ : Mem) : RE T := match t with
  | .obj c fs => if (fl c).contains f then (match fs.lookup f with | some v => .ok v μ | none => .st) else .st
  | .mut i => (match μ[i]? with
    | some (.obj c fs) => if (fl c).contains f then (match fs.lookup f with | some v => .ok v μ | none => .st) else .st
    | _ => .st)
  | _ => .st
/-- what may stand as a plain index -/
def plainIx : Expr → Bool
  | .Name _ _ => true
  | .Constant _ _ _ => true
  | .BinOp _ _ _ _ => true
  | .UnaryOp _ _ _ => true
  | .Call _ _ _ _ => true
  | .Subscript _ _ _ => true
  | .Attribute _ _ _ => true
  | _ => false
/-- what may stand behind in, not in -/
def plainIn : Expr → Bool
  | .Name _ _ => true
  | .Constant (.str _) _ _ => true
  | _ => false
def plainCmp : CmpOp → Bool
  | .In => false | .NotIn => false
  | _ => true
def okCmp (op : CmpOp) (b : Expr) : Bool := plainCmp op || plainIn b
/-- a comparison by size -/
def bySize : CmpOp → Bool
  | .Lt => true | .LtE => true | .Gt => true | .GtE => true | .Eq => true | .NotEq => true
  | _ => false

def ixNo (n : Nat) (i : Int) : Option Nat := if 0 ≤ i then (if i < n then some i.toNat else none) else if -(n : Int) ≤ i then some (i + n).toNat else none
def ixAt {α : Type} (xs : List α) (i : Int) : Option α := (ixNo xs.length i).bind fun j => xs[j]?
def itemT (t i : T) (μ : Mem) : RE T := match i with
  | .int k => (match t with
    | .lst ts => (match ixAt ts k with | some v => .ok v μ | none => .st)
    | .tup ts => (match ixAt ts k with | some v => .ok v μ | none => .st)
    | .mut j => (match μ[j]? with
      | some (.lst ts) => (match ixAt ts k with | some v => .ok v μ | none => .st)
      | _ => .st)
    | .str z => if z.length ≤ room then (match ixAt z.cps.toList k with | some c => .ok (.str ⟨#[c]⟩) μ | none => .st) else .st
    | _ => .st)
  | _ => .st

def sIxN (n d : Nat) : Option Int → Nat
  | none => d
  | some v => if v < 0 then (v + (n : Int)).toNat else min v.toNat n
def cutL {α : Type} (xs : List α) (lo hi : Option Int) : List α := (xs.drop (sIxN xs.length 0 lo)).take (sIxN xs.length xs.length hi - sIxN xs.length 0 lo)

def clsList (Γ : Cn) : List Expr → Option (List Str)
  | [] => some []
  | e :: r => match e with
    | .Name c _ => if (idx Γ.N c).isNone && Γ.G.contains c && Γ.cls.contains c then (clsList Γ r).map (c :: ·) else none
    | _ => none
/-- the class names of isinstance's second argument -/
def clsNames (Γ : Cn) : Expr → Option (List Str)
  | .Name c _ => if (idx Γ.N c).isNone && Γ.G.contains c && Γ.cls.contains c then some [c] else none
  | .Tuple es _ _ => if decide (es.length ≤ room) then clsList Γ es else none
  | _ => none
def isAny (Γ : Cn) (t : Str) : List Str → Option Bool
  | [] => some false
  | c :: r => match Γ.isin t c with
    | some true => some true
    | some false => isAny Γ t r
    | none => none

/-- built-in functions of values -/
def lenT (t : T) (μ : Mem) : RE T := match t with
  | .lst xs => .ok (.int xs.length) μ
  | .tup xs => .ok (.int xs.length) μ
  | .str s => if s.length ≤ room then .ok (.int s.length) μ else .st
  | .mut i => (match μ[i]? with | some (.lst xs) => .ok (.int xs.length) μ | _ => .st)
  | _ => .st
def intT (t : T) (μ : Mem) : RE T := match t with
  | .int i => .ok (.int i) μ
  | .bl b => .ok (.int (if b then 1 else 0)) μ
  | _ => .st
def tupleT (t : T) (μ : Mem) : RE T := match t with
  | .lst xs => .ok (.tup xs) μ
  | .mut i => (match μ[i]? with | some (.lst xs) => .ok (.tup xs) μ | _ => .st)
  | _ => .st
def listT (t : T) (μ : Mem) : RE T := match t with
  | .lst xs => .ok (.lst xs) μ
  | .tup xs => .ok (.lst xs) μ
  | .mut i => (match μ[i]? with | some (.lst xs) => .ok (.lst xs) μ | _ => .st)
  | _ => .st
/-- a list's items put upon the store -/
def layT (t : T) (μ : Mem) : RE T := match t with
  | .lst xs => .ok (.mut μ.length) (μ ++ [.lst xs])
  | .tup xs => .ok (.mut μ.length) (μ ++ [.lst xs])
  | .mut i => (match μ[i]? with | some (.lst xs) => .ok (.mut μ.length) (μ ++ [.lst xs]) | _ => .st)
  | _ => .st
/-- xs.append(t), the i-th thing of the store -/
def appT (i : Nat) (t : T) (μ : Mem) : RE T := match μ[i]? with
  | some (.lst ts) => if ts.length < room then .ok .non (μ.set i (.lst (ts ++ [t]))) else .st
  | _ => .st
def isLst (t : T) (μ : Mem) : Option Nat := match t with
  | .mut i => (match μ[i]? with | some (.lst _) => some i | _ => none)
  | _ => none
/-- xs[k] = t -/
def putAt (ot it t : T) (μ : Mem) : Option Mem := match ot, it with
  | .mut i, .int k => (match μ[i]? with
    | some (.lst ts) => if 0 ≤ k ∧ k < ts.length ∧ k < 9223372036854775808 then some (μ.set i (.lst (ts.set k.toNat t))) else none
    | _ => none)
  | _, _ => none
def strsOf : List T → Option (List Str)
  | [] => some []
  | .str x :: r => (strsOf r).map (x :: ·)
  | _ :: _ => none
def seqStrs (t : T) (μ : Mem) : Option (List Str) := match t with
  | .lst ts => strsOf ts
  | .mut i => (match μ[i]? with | some (.lst ts) => strsOf ts | _ => none)
  | _ => none
/-- sep.join(reversed(t)) -/
def joinT (sep : Str) (t : T) (μ : Mem) : RE T := match seqStrs t μ with
  | some ys => if JoinOk sep ys.reverse = true ∧ ys.length ≤ room then .ok (.str (Txt.join sep ys.reverse)) μ else .st
  | none => .st
/-- x.index(t) -/
def indexT (x : Str) (t : T) (μ : Mem) : RE T := match t with
  | .str y => (match Builtin.Str.occurrences x y 0 x.length 1 with | i :: _ => .ok (.int i) μ | [] => .st)
  | _ => .st
/-- all, any of truths -/
def bools : List T → Option (List Bool)
  | [] => some []
  | .bl b :: r => (bools r).map (b :: ·)
  | _ :: _ => none

def allT (t : T) (μ : Mem) : RE T := match t with
  | .lst xs => (match bools xs with | some bs => .ok (.bl (bs.all id)) μ | none => .st)
  | _ => .st
/-- what a loop walks -/
def items : T → Option (List T)
  | .lst xs => some xs
  | .tup xs => some xs
  | .str z => some (z.cps.toList.map fun c => T.str ⟨#[c]⟩)
  | _ => none
/-- range(a, b, c), c above 0 -/
def rangeS (a b c : Int) : List T := (List.range (if a < b then (b - a - 1) / c + 1 else 0 : Int).toNat).map fun (i : Nat) => T.int (a + i * c)
def rangeAll (x y z : T) (μ : Mem) : RE (List T) := match x, y, z with
  | .int a, .int b, .int c => if (-4611686018427387904 ≤ a ∧ a < 4611686018427387904) ∧ (-4611686018427387904 ≤ b ∧ b < 4611686018427387904) ∧ 0 < c ∧ c < 1073741824 then .ok (rangeS a b c) μ else .st
  | _, _, _ => .st
def rangeT (n : Int) : List T := (List.range n.toNat).map fun (i : Nat) => T.int i

/-- targets: a name, or a tuple of names -/
def asgT (N : List Str) : Expr → T → Sl → Option Sl
  | .Name x _, t, τ => (idx N x).map fun i => τ.set i (some t)
  | _, _, _ => none
def asgs (N : List Str) : List Expr → List T → Sl → Option Sl
  | [], [], τ => some τ
  | e :: r, t :: ts, τ => (asgT N e t τ).bind fun τ' => asgs N r ts τ'
  | _, _, _ => none
def asg (N : List Str) : Expr → T → Sl → Option Sl
  | .Tuple es _ _, .tup ts, τ => asgs N es ts τ
  | e, t, τ => asgT N e t τ
def tgNames : Expr → List Str
  | .Name x _ => [x]
  | .Tuple es _ _ => es.filterMap fun e => match e with | .Name x _ => some x | _ => none
  | _ => []

def RE.noex {α : Type} : RE α → RE α
  | .ex _ _ => .st
  | r => r
/-- a comprehension's turns -/
def compM (asgn : T → Sl → Option Sl) (f : Sl → Mem → RE T) (τ : Sl) : List T → Mem → RE (List T)
  | [], μ => .ok [] μ
  | x :: r, μ => match asgn x τ with
    | none => .st
    | some τ' => (f τ' μ).bind fun y μ1 => (compM asgn f τ r μ1).bind fun ys μ2 => .ok (y :: ys) μ2
def globs (sc : Scope) : List Str := (sc.names.filter fun p => p.2 == .globalImplicit).map (·.1)
def frees (sc : Scope) : List Str := (sc.names.filter fun p => p.2 == .free).map (·.1)
/-- a comprehension's scope is as it should be -/
def compOk (N cel : List Str) (tg : Expr) (sc : Scope) : Bool :=
  (sc.kind == .function) && sc.names.all (fun p => p.2 != .cell) && sc.names.all (fun p => p.2 != .local || sc.names.lookup p.1 == some .local) &&
  (tgNames tg).all (fun x => sc.names.lookup x == some .local && x != ("__debug__" : Str) && x != ("__classdict__" : Str)) && (frees sc).all (fun x => (idx N x).isSome && sc.names.lookup x == some .free && cel.contains x && x != ("__debug__" : Str) && x != ("__classdict__" : Str)) && decide ((tgNames tg ++ frees sc).Nodup) &&
  (globs sc).all (fun x => sc.names.lookup x == some .globalImplicit)
def selT (N : List Str) (τ : Sl) (fs : List Str) : Sl := fs.map fun x => (idx N x).bind fun i => (τ[i]?).join

def evIter (Γ : Cn) (f : Expr → Sl → Mem → RE T) (iter : Expr) (τ : Sl) (μ : Mem) : RE (List T) := match iter with
  | .Call (.Name "range" _) [a] [] _ => if (idx Γ.N "range").isNone then (match Γ.look "range" with
    | .none => (f a τ μ).bind fun t μ1 => match t with | .int n => if n < 4611686018427387904 ∧ -4611686018427387904 ≤ n then .ok (rangeT n) μ1 else .st | _ => .st
    | _ => .st) else .st
  | .Call (.Name "range" _) [a, b, c] [] _ => if (idx Γ.N "range").isNone && noStar a && noStar b && noStar c then (match Γ.look "range" with
    | .none => (f a τ μ).bind fun x μ1 => (f b τ μ1).bind fun y μ2 => (f c τ μ2).bind fun z μ3 => rangeAll x y z μ3
    | _ => .st) else .st
  | e => (f e τ μ).bind fun t μ1 => match items t with | some xs => .ok xs μ1 | none => .st

/-- a class of things that never change: __init__ run upon a new one, which is then let go -/
def frozenMk (c : Str) (f : List T → Mem → RE T) (ts : List T) (μ : Mem) : RE T :=
  if pureL ts then (match f (.mut 0 :: ts) [.obj c []] with
    | .ok .non μ1 => (match μ1[0]? with
      | some (MO.obj c' fs) => if c' = c ∧ pureF fs then .ok (.obj c fs) μ else .st
      | _ => .st)
    | .ex k _ => .ex k μ
    | _ => .st) else .st
/-- the context of a comprehension's element -/
def inComp (Γ : Cn) (tg : Expr) (sc : Scope) : Cn := { Γ with N := tgNames tg ++ frees sc, G := (globs sc).filter Γ.U.contains, cel := frees sc }
def ev : Nat → Cn → Expr → Sl → Mem → RE T
  | 0, _, _, _, _ => .st
  | n + 1, Γ, e, τ, μ => match e with
    | .Constant (.int i) _ _ => .ok (.int i) μ
    | .Constant (.bool b) _ _ => .ok (.bl b) μ
    | .Constant .none _ _ => .ok .non μ
    | .Constant (.str x) _ _ => .ok (.str x) μ
    | .Name x _ => (match idx Γ.N x with
      | some i => (match τ[i]? with | some (some t) => .ok t μ | _ => .st)
      | none => (match Γ.look x with | .cst t => .ok t μ | _ => .st))
    | .BinOp a op b _ => (ev n Γ a τ μ).bind fun x μ1 => (ev n Γ b τ μ1).bind fun y μ2 => binT op x y μ2
    | .UnaryOp .USub a _ => (ev n Γ a τ μ).bind fun x μ1 => (match x with | .int i => .ok (.int (-i)) μ1 | _ => .st)
    | .UnaryOp .Not a _ => (ev n Γ a τ μ).bind fun x μ1 => (match x with | .bl b => .ok (.bl (!b)) μ1 | _ => .st)
    | .BoolOp op [a] _ => ev n Γ a τ μ
    | .BoolOp .And (a :: b :: r) p => (ev n Γ a τ μ).bind fun x μ1 => (match x with
      | .bl true => ev n Γ (.BoolOp .And (b :: r) p) τ μ1
      | .bl false => .ok (.bl false) μ1
      | _ => .st)
    | .BoolOp .Or (a :: b :: r) p => (ev n Γ a τ μ).bind fun x μ1 => (match x with
      | .bl false => ev n Γ (.BoolOp .Or (b :: r) p) τ μ1
      | .bl true => .ok (.bl true) μ1
      | _ => .st)
    | .Compare a [op] [b] _ => if !okCmp op b then .st else (ev n Γ a τ μ).bind fun x μ1 => (ev n Γ b τ μ1).bind fun y μ2 => cmpT op x y μ2
    | .Compare a [op, op'] [b, c] _ => if !(bySize op && bySize op') then .st else (ev n Γ a τ μ).bind fun x μ1 => (ev n Γ b τ μ1).bind fun y μ2 => (cmpT op x y μ2).bind fun k μ3 => (match k with
      | .bl true => (ev n Γ c τ μ3).bind fun z μ4 => cmpT op' y z μ4
      | .bl false => .ok (.bl false) μ3
      | _ => .st)
    | .IfExp c a b _ => (evT (ev n Γ) n c τ μ).bind fun k μ1 => if k then ev n Γ a τ μ1 else ev n Γ b τ μ1
    | .Attribute a f _ => (match a with
      | .Name _ _ => (ev n Γ a τ μ).bind fun x μ1 => fieldT Γ.flds x f μ1
      | _ => .st)
    | .Subscript a (.Slice lo hi none _) _ => (ev n Γ a τ μ).bind fun x μ1 =>
      (match lo with | none => RE.ok none μ1 | some e => (ev n Γ e τ μ1).bind fun t μ2 => (match t with | .int i => .ok (some i) μ2 | _ => .st)).bind fun l μ2 =>
      (match hi with | none => RE.ok none μ2 | some e => (ev n Γ e τ μ2).bind fun t μ3 => (match t with | .int i => .ok (some i) μ3 | _ => .st)).bind fun h μ3 => (match x with
        | .lst xs => .ok (.lst (cutL xs l h)) μ3
        | .tup xs => .ok (.tup (cutL xs l h)) μ3
        | _ => .st)
    | .Subscript a b _ => if plainIx b then (ev n Γ a τ μ).bind fun x μ1 => (ev n Γ b τ μ1).bind fun y μ2 => itemT x y μ2 else .st
    | .List es _ => if es.all noStar && decide (es.length ≤ room) then (evL (ev n Γ) es τ μ).bind fun ts μ1 => .ok (.lst ts) μ1 else .st
    | .Tuple es _ _ => if es.all noStar && decide (es.length ≤ room) then (evL (ev n Γ) es τ μ).bind fun ts μ1 => .ok (.tup ts) μ1 else .st
    | .Call (.Name f _) args [] _ => if (idx Γ.N f).isNone && args.all noStar then (match Γ.look f with
      | .fn g => if Γ.calm then (evL (ev n Γ) args τ μ).bind g else .st
      | .mk c g => if Γ.calm then (evL (ev n Γ) args τ μ).bind (frozenMk c g) else .st
      | .none => if f = "isinstance" then (match args with
          | [a, c] => (match clsNames Γ c with
            | some cs => (ev n Γ a τ μ).bind fun x μ1 => (match tyN Γ.xcs x μ1 with
              | some t => (match isAny Γ t cs with | some b => .ok (.bl b) μ1 | none => .st)
              | none => .st)
            | none => .st)
          | _ => .st)
        else (match args with
          | [a] => if f = "all" then (if Γ.calm then (ev n Γ a τ μ).bind allT else .st)
            else if f = "len" then (ev n Γ a τ μ).bind lenT
            else if f = "int" then (ev n Γ a τ μ).bind intT
            else if f = "tuple" then (ev n Γ a τ μ).bind tupleT
            else if f = "list" then (ev n Γ a τ μ).bind listT
            else .st
          | _ => .st)
      | _ => .st) else .st
    | .Call (.Attribute (.Name o po) m pa) [a] [] pc => if noStar a && pa.endLine == pc.line then (if m == ("append" : Str) then (ev n Γ (.Name o po) τ μ).bind fun ot μ1 => (match isLst ot μ1 with
        | some i => (ev n Γ a τ μ1).bind fun t μ2 => appT i t μ2
        | none => .st)
      else if m == ("index" : Str) then (ev n Γ (.Name o po) τ μ).bind fun ot μ1 => (match ot with
        | .str x => (ev n Γ a τ μ1).bind fun t μ2 => indexT x t μ2
        | _ => .st)
      else .st) else .st
    | .Call (.Attribute (.Constant (.str sep) _ _) m pa) [.Call (.Name r _) [.Name x px] [] _] [] pc => if m == ("join" : Str) && r == ("reversed" : Str) && (idx Γ.N r).isNone && pa.endLine == pc.line && Γ.calm then (match Γ.look r with
      | .none => (ev n Γ (.Name x px) τ μ).bind fun t μ1 => joinT sep t μ1
      | _ => .st) else .st
    | .ListComp elt [⟨tg, iter, [], 0⟩] sc _ => if Γ.calm && compOk Γ.N Γ.cel tg sc then (evIter Γ (ev n Γ) iter τ μ).bind fun xs μ1 =>
        if xs.length ≤ room then
        (compM (asg (tgNames tg ++ frees sc) tg) (ev n (inComp Γ tg sc) elt) ((tgNames tg).map (fun _ => none) ++ selT Γ.N τ (frees sc)) xs μ1).noex.bind fun ys μ2 => .ok (.lst ys) μ2
        else .st
      else .st
    | _ => .st

/-- an expression whose list is the store's -/
def evM (n : Nat) (Γ : Cn) (e : Expr) (τ : Sl) (μ : Mem) : RE T := match e with
  | .List es _ => if es.all noStar && decide (es.length ≤ room) then (evL (ev n Γ) es τ μ).bind fun ts μ1 => .ok (.mut μ1.length) (μ1 ++ [.lst ts]) else .st
  | .Call (.Name x _) [a] [] _ => if x == ("list" : Str) && (idx Γ.N x).isNone && noStar a then (match Γ.look x with
    | .none => (ev n Γ a τ μ).bind layT
    | _ => .st) else .st
  | _ => .st
def evO (n : Nat) (Γ : Cn) (x : Str) (e : Expr) (τ : Sl) (μ : Mem) : RE T := if Γ.own.contains x then evM n Γ e τ μ else ev n Γ e τ μ
/-- what may be unpacked -/
def plainTup : Expr → Bool
  | .Call _ _ _ _ => true
  | .Name _ _ => true
  | _ => false
def namesIn (N : List Str) : List Expr → Bool
  | [] => true
  | e :: r => (match e with | .Name x _ => (idx N x).isSome | _ => false) && namesIn N r
def tgIn (N : List Str) : Expr → Bool
  | .Name x _ => (idx N x).isSome
  | .Tuple es _ _ => namesIn N es
  | _ => false
/-- a loop's turns -/
def forM (asgn : T → Sl → Option Sl) (body : Sl → Mem → Out) : List T → Sl → Mem → Out
  | [], τ, μ => .nx τ μ
  | x :: r, τ, μ => match asgn x τ with
    | none => .st
    | some τ' => match body τ' μ with
      | .nx τ2 μ2 => forM asgn body r τ2 μ2
      | .ct τ2 μ2 => forM asgn body r τ2 μ2
      | .bk τ2 μ2 => .nx τ2 μ2
      | o => o
def whileM (c : Sl → Mem → RE Bool) (body : Sl → Mem → Out) : Nat → Sl → Mem → Out
  | 0, _, _ => .st
  | n + 1, τ, μ => match c τ μ with
    | .ok true μ1 => (match body τ μ1 with
      | .nx τ2 μ2 => whileM c body n τ2 μ2
      | .ct τ2 μ2 => whileM c body n τ2 μ2
      | .bk τ2 μ2 => .nx τ2 μ2
      | o => o)
    | .ok false μ1 => .nx τ μ1
    | .ex c μ1 => .ex c τ μ1
    | .st => .st
def Out.seq : Out → (Sl → Mem → Out) → Out
  | .nx τ μ, f => f τ μ
  | o, _ => o
def RE.out {α : Type} (r : RE α) (τ : Sl) (f : α → Mem → Out) : Out := match r with
  | .ok a μ => f a μ
  | .ex c μ => .ex c τ μ
  | .st => .st
def xss (x : Stmt → Sl → Mem → Out) : List Stmt → Sl → Mem → Out
  | [], τ, μ => .nx τ μ
  | s :: r, τ, μ => (x s τ μ).seq fun τ1 μ1 => xss x r τ1 μ1
/-- fs with f put to v -/
def putT (f : Str) (v : T) : List (Str × T) → List (Str × T)
  | [] => [(f, v)]
  | (g, w) :: r => if g = f then (g, v) :: r else (g, w) :: putT f v r

/-- an exception of the class k is handled, the name e bound to it -/
def hanM (Γ : Cn) (c e : Str) (v : Sl → Mem → Out) (k : Str) (τ1 : Sl) (μ1 : Mem) : Out := match Γ.xcs.contains k, Γ.isin k c, idx Γ.N e with
  | true, some true, some i => (match v (τ1.set i (some (.exc k))) μ1 with
    | .nx τ2 μ2 => .nx (τ2.set i none) μ2
    | .rt t μ2 => .rt t μ2
    | _ => .st)
  | _, _, _ => .st

def ex : Nat → Cn → Stmt → Sl → Mem → Out
  | 0, _, _, _, _ => .st
  | n + 1, Γ, s, τ, μ => match s with
    | .Pass _ => .nx τ μ
    | .Return (some e) _ => (evO n Γ "return" e τ μ).out τ fun t μ1 => .rt t μ1
    | .Return none _ => .rt .non μ
    | .Expr e _ => (match e with
      | .ListComp _ _ _ _ => .st
      | _ => (ev n Γ e τ μ).out τ fun _ μ1 => .nx τ μ1)
    | .If c a b _ => (evT (ev n Γ) n c τ μ).out τ fun k μ1 => if k then xss (ex n Γ) a τ μ1 else xss (ex n Γ) b τ μ1
    | .Assign [.Name x p] e _ => if (idx Γ.N x).isSome then (evO n Γ x e τ μ).out τ fun t μ1 => (match asgT Γ.N (.Name x p) t τ with | some τ' => .nx τ' μ1 | none => .st) else .st
    | .Assign [.Tuple es k p] e _ => if Γ.calm && plainTup e && namesIn Γ.N es then (ev n Γ e τ μ).out τ fun t μ1 => (match asg Γ.N (.Tuple es k p) t τ with | some τ' => .nx τ' μ1 | none => .st) else .st
    | .Assign [.Attribute (.Name o p) f _] e _ => (ev n Γ e τ μ).out τ fun t μ1 => ((ev n Γ (.Name o p) τ μ1).out τ fun ot μ2 => match ot with
      | .mut i => (match μ2[i]? with
        | some (.obj c fs) => if fs.length < 900 ∧ (Γ.flds c).contains f then .nx τ (μ2.set i (.obj c (putT f t fs))) else .st
        | _ => .st)
      | _ => .st)
    | .Assign [.Subscript (.Name o p) b _] e _ => if plainIx b then (ev n Γ e τ μ).out τ fun t μ1 => ((ev n Γ (.Name o p) τ μ1).out τ fun ot μ2 => ((ev n Γ b τ μ2).out τ fun it μ3 => match putAt ot it t μ3 with
      | some μ4 => .nx τ μ4
      | none => .st)) else .st
    | .Assign _ _ _ => .st
    | .For tg iter body [] _ => if Γ.calm && tgIn Γ.N tg then (evIter Γ (ev n Γ) iter τ μ).out τ fun xs μ1 => forM (asg Γ.N tg) (xss (ex n Γ) body) xs τ μ1 else .st
    | .While c body [] _ => whileM (evT (ev n Γ) n c) (xss (ex n Γ) body) 1000000 τ μ
    | .Break _ => .bk τ μ
    | .Continue _ => .ct τ μ
    | .Raise (some (.Call (.Name x _) (a :: args) [] _)) none _ => if Γ.calm && (idx Γ.N x).isNone && (a :: args).all noStar then (match Γ.look x with
      | .xcl => (evL (ev n Γ) (a :: args) τ μ).out τ fun ts μ1 => if ts.length ≤ room then .ex x τ μ1 else .st
      | _ => .st) else .st
    | .Try body [.ExceptHandler (some (.Name c _)) (some e) (b0 :: suite) _] [] [] _ => if Γ.calm && (idx Γ.N c).isNone && !Γ.cel.contains e && Γ.xcs.contains c then (match Γ.look c with
      | .xcl => (match xss (ex n Γ) body τ μ with
        | .ex k τ1 μ1 => hanM Γ c e (xss (ex n { Γ with calm := false }) (b0 :: suite)) k τ1 μ1
        | o => o)
      | _ => .st) else .st
    | _ => .st

/-- a def's body, run at its arguments -/
def runF (n : Nat) (Γ : Cn) (body : List Stmt) (ts : List T) (μ : Mem) : RE T :=
  match xss (ex n Γ) body (ts.map some ++ List.replicate (Γ.N.length - ts.length) none) μ with
  | .nx _ μ1 => .ok .non μ1
  | .rt t μ1 => .ok t μ1
  | .ex c _ μ1 => .ex c μ1
  | _ => .st
/-- a def of trees alone: it has a store of its own -/
def pureFn (f : List T → Mem → RE T) (ts : List T) (μ : Mem) : RE T :=
  if pureL ts then (match f ts [] with
    | .ok t _ => if pureT t then .ok t μ else .st
    | .ex c _ => .ex c μ
    | .st => .st) else .st
end NH
end
section
set_option linter.all false
set_option maxRecDepth 100000
set_option maxHeartbeats 4000000
namespace NH
open PySem PySem.Spec PyProof.Rows L2

/-- the text as it stands behind the top: the written part, and where its classes lie -/
structure DP where
  K : PySem.W.Frag
  adr : Str → Option Addr

/-- an exception that was caught -/
def XcAt (a C : Addr) : Heap → Prop := fun h => ∃ oe vs, h.get? a = some oe ∧ oe.cls = .ref C ∧ oe.data = .fields vs ∧ oe.dict = none

mutual
/-- the value v means the tree t: φ are others' addresses, α those of the store -/
def Den (D : DP) (φ α : List Addr) (H : Hp) : T → V → Prop
  | .non, v => v = .non
  | .bl b, v => v = .bl b
  | .int i, v => v = .int i
  | .str x, v => v = .str x
  | .mut i, v => ∃ a, α[i]? = some a ∧ v = .ref a
  | .tup ts, v => ∃ a xs, v = .ref a ∧ a ∉ φ ∧ a ∉ α ∧ Rd H a (.tup xs) ∧ DenL D φ α H ts xs
  | .lst ts, v => ∃ a xs, v = .ref a ∧ a ∉ φ ∧ a ∉ α ∧ Rd H a (.lst xs) ∧ DenL D φ α H ts xs
  | .obj c fs, v => ∃ a C dx gs, v = .ref a ∧ a ∉ φ ∧ a ∉ α ∧ D.adr c = some C ∧ H a = some (.ins C dx gs) ∧ DenF D φ α H fs gs
  | .exc c, v => ∃ a C, v = .ref a ∧ a ∉ φ ∧ a ∉ α ∧ D.adr c = some C ∧ H a = some (.ext (XcAt a C))
def DenL (D : DP) (φ α : List Addr) (H : Hp) : List T → List V → Prop
  | [], vs => vs = []
  | t :: ts, vs => ∃ v r, vs = v :: r ∧ Den D φ α H t v ∧ DenL D φ α H ts r
def DenF (D : DP) (φ α : List Addr) (H : Hp) : List (Str × T) → List (Str × V) → Prop
  | [], gs => gs = []
  | p :: fs, gs => ∃ v r, gs = (p.1, v) :: r ∧ Den D φ α H p.2 v ∧ DenF D φ α H fs r
end
def DenO (D : DP) (φ α : List Addr) (H : Hp) : MO → Addr → Prop
  | .lst ts, a => ∃ xs, H a = some (.lst xs) ∧ DenL D φ α H ts xs
  | .obj c fs, a => ∃ C dx gs, D.adr c = some C ∧ H a = some (.ins C dx gs) ∧ DenF D φ α H fs gs

/-- the store grows, and turns within -/
structure Stp (α : List Addr) (H : Hp) (α' : List Addr) (H' : Hp) : Prop where
  ext : ∃ β, α' = α ++ β ∧ ∀ b ∈ β, H b = none
  keep : ∀ b o, b ∉ α → H b = some o → H' b = some o
  live : ∀ b, H' b = none → H b = none
theorem Stp.refl (α : List Addr) (H : Hp) : Stp α H α H := ⟨⟨[], by simp, by simp⟩, fun _ _ _ e => e, fun _ e => e⟩
theorem Stp.trans {α α1 α2 : List Addr} {H H1 H2 : Hp} (a : Stp α H α1 H1) (b : Stp α1 H1 α2 H2) : Stp α H α2 H2 := by
  obtain ⟨β, rfl, hβ⟩ := a.ext
  obtain ⟨γ, rfl, hγ⟩ := b.ext
  refine ⟨⟨β ++ γ, by simp, fun c hc => ?_⟩, fun c o n e => ?_, fun c e => a.live c (b.live c e)⟩
  · rcases List.mem_append.mp hc with h | h
    · exact hβ c h
    · exact a.live c (hγ c h)
  · refine b.keep c o (fun h => ?_) (a.keep c o n e)
    rcases List.mem_append.mp h with h | h
    · exact n h
    · rw [hβ c h] at e; cases e
/-- a step that makes new things alone -/
theorem Stp.new {α : List Addr} {H H' : Hp} (s : Same H H') : Stp α H α H' := ⟨⟨[], by simp, by simp⟩, fun b o _ e => s b o e, fun b e => by
  cases q : H b with
  | none => rfl
  | some o => rw [s b o q] at e; cases e⟩
theorem same_upd {H : Hp} {p : Addr} {o : HO} (h : H p = none) : Same H (upd H p o) := fun b u e => by rw [upd_ne (ne_of_none e h)]; exact e
theorem Rd.some {H : Hp} {a : Addr} {u : HO} (r : Rd H a u) : ∃ o, H a = some o := by
  rcases r with r | ⟨o, r⟩
  · exact ⟨_, r⟩
  · exact ⟨_, r⟩
theorem Rd.step {α α' : List Addr} {H H' : Hp} (s : Stp α H α' H') {a : Addr} {u : HO} (n : a ∉ α) (r : Rd H a u) : Rd H' a u := by
  rcases r with r | ⟨o, r⟩
  · exact .inl (s.keep _ _ n r)
  · exact .inr ⟨o, s.keep _ _ n r⟩
theorem Stp.out {α α' : List Addr} {H H' : Hp} (s : Stp α H α' H') {a : Addr} {o : HO} (n : a ∉ α) (e : H a = some o) : a ∉ α' := by
  obtain ⟨β, rfl, hβ⟩ := s.ext
  intro h
  rcases List.mem_append.mp h with h | h
  · exact n h
  · rw [hβ a h] at e; cases e

section
variable {D : DP} {φ α α' : List Addr} {H H' : Hp}
mutual
theorem Den.step (s : Stp α H α' H') : ∀ {t : T} {v : V}, Den D φ α H t v → Den D φ α' H' t v
  | .non, _, h => h
  | .bl _, _, h => h
  | .int _, _, h => h
  | .str _, _, h => h
  | .mut i, _, h => by
    obtain ⟨a, e, rfl⟩ := h
    obtain ⟨β, rfl, _⟩ := s.ext
    have hi := (List.getElem?_eq_some_iff.mp e).1
    exact ⟨a, by rw [List.getElem?_append_left hi]; exact e, rfl⟩
  | .tup ts, _, h => by
    obtain ⟨a, xs, rfl, n1, n2, r, l⟩ := h
    obtain ⟨o, e⟩ := Rd.some r
    exact ⟨a, xs, rfl, n1, s.out n2 e, Rd.step s n2 r, DenL.step s l⟩
  | .lst ts, _, h => by
    obtain ⟨a, xs, rfl, n1, n2, r, l⟩ := h
    obtain ⟨o, e⟩ := Rd.some r
    exact ⟨a, xs, rfl, n1, s.out n2 e, Rd.step s n2 r, DenL.step s l⟩
  | .obj c fs, _, h => by
    obtain ⟨a, C, dx, gs, rfl, n1, n2, ad, e, l⟩ := h
    exact ⟨a, C, dx, gs, rfl, n1, s.out n2 e, ad, s.keep _ _ n2 e, DenF.step s l⟩
  | .exc c, _, h => by
    obtain ⟨a, C, rfl, n1, n2, ad, e⟩ := h
    exact ⟨a, C, rfl, n1, s.out n2 e, ad, s.keep _ _ n2 e⟩
theorem DenL.step (s : Stp α H α' H') : ∀ {ts : List T} {vs : List V}, DenL D φ α H ts vs → DenL D φ α' H' ts vs
  | [], _, h => h
  | t :: ts, _, h => by
    obtain ⟨v, r, rfl, a, b⟩ := h
    exact ⟨v, r, rfl, Den.step s a, DenL.step s b⟩
theorem DenF.step (s : Stp α H α' H') : ∀ {fs : List (Str × T)} {gs : List (Str × V)}, DenF D φ α H fs gs → DenF D φ α' H' fs gs
  | [], _, h => h
  | p :: fs, _, h => by
    obtain ⟨v, r, rfl, a, b⟩ := h
    exact ⟨v, r, rfl, Den.step s a, DenF.step s b⟩
end
-- what has no mutable part is the same to others
mutual
theorem Den.hide : ∀ {t : T} {v : V}, pureT t = true → Den D φ α H t v → Den D (φ ++ α) [] H t v
  | .non, _, _, h => h
  | .bl _, _, _, h => h
  | .int _, _, _, h => h
  | .str _, _, _, h => h
  | .mut i, _, p, _ => by simp [pureT] at p
  | .tup ts, _, p, h => by
    obtain ⟨a, xs, rfl, n1, n2, r, l⟩ := h
    exact ⟨a, xs, rfl, fun z => (List.mem_append.mp z).elim n1 n2, by simp, r, DenL.hide (by simpa [pureT] using p) l⟩
  | .lst ts, _, p, h => by
    obtain ⟨a, xs, rfl, n1, n2, r, l⟩ := h
    exact ⟨a, xs, rfl, fun z => (List.mem_append.mp z).elim n1 n2, by simp, r, DenL.hide (by simpa [pureT] using p) l⟩
  | .obj c fs, _, p, h => by
    obtain ⟨a, C, dx, gs, rfl, n1, n2, ad, e, l⟩ := h
    exact ⟨a, C, dx, gs, rfl, fun z => (List.mem_append.mp z).elim n1 n2, by simp, ad, e, DenF.hide (by simpa [pureT] using p) l⟩
  | .exc c, _, p, h => by
    obtain ⟨a, C, rfl, n1, n2, ad, e⟩ := h
    exact ⟨a, C, rfl, fun z => (List.mem_append.mp z).elim n1 n2, by simp, ad, e⟩
theorem DenL.hide : ∀ {ts : List T} {vs : List V}, pureL ts = true → DenL D φ α H ts vs → DenL D (φ ++ α) [] H ts vs
  | [], _, _, h => h
  | t :: ts, _, p, h => by
    obtain ⟨v, r, rfl, a, b⟩ := h
    simp only [pureL, Bool.and_eq_true] at p
    exact ⟨v, r, rfl, Den.hide p.1 a, DenL.hide p.2 b⟩
theorem DenF.hide : ∀ {fs : List (Str × T)} {gs : List (Str × V)}, pureF fs = true → DenF D φ α H fs gs → DenF D (φ ++ α) [] H fs gs
  | [], _, _, h => h
  | q :: fs, _, p, h => by
    obtain ⟨v, r, rfl, a, b⟩ := h
    simp only [pureF, Bool.and_eq_true] at p
    exact ⟨v, r, rfl, Den.hide p.1 a, DenF.hide p.2 b⟩
end
mutual
theorem Den.back {β : List Addr} : ∀ {t : T} {v : V}, pureT t = true → Den D (φ ++ α) β H t v → Den D φ α H t v
  | .non, _, _, h => h
  | .bl _, _, _, h => h
  | .int _, _, _, h => h
  | .str _, _, _, h => h
  | .mut i, _, p, _ => by simp [pureT] at p
  | .tup ts, _, p, h => by
    obtain ⟨a, xs, rfl, n1, n2, r, l⟩ := h
    exact ⟨a, xs, rfl, fun z => n1 (List.mem_append_left _ z), fun z => n1 (List.mem_append_right _ z), r, DenL.back (by simpa [pureT] using p) l⟩
  | .lst ts, _, p, h => by
    obtain ⟨a, xs, rfl, n1, n2, r, l⟩ := h
    exact ⟨a, xs, rfl, fun z => n1 (List.mem_append_left _ z), fun z => n1 (List.mem_append_right _ z), r, DenL.back (by simpa [pureT] using p) l⟩
  | .obj c fs, _, p, h => by
    obtain ⟨a, C, dx, gs, rfl, n1, n2, ad, e, l⟩ := h
    exact ⟨a, C, dx, gs, rfl, fun z => n1 (List.mem_append_left _ z), fun z => n1 (List.mem_append_right _ z), ad, e, DenF.back (by simpa [pureT] using p) l⟩
  | .exc c, _, p, h => by
    obtain ⟨a, C, rfl, n1, n2, ad, e⟩ := h
    exact ⟨a, C, rfl, fun z => n1 (List.mem_append_left _ z), fun z => n1 (List.mem_append_right _ z), ad, e⟩
theorem DenL.back {β : List Addr} : ∀ {ts : List T} {vs : List V}, pureL ts = true → DenL D (φ ++ α) β H ts vs → DenL D φ α H ts vs
  | [], _, _, h => h
  | t :: ts, _, p, h => by
    obtain ⟨v, r, rfl, a, b⟩ := h
    simp only [pureL, Bool.and_eq_true] at p
    exact ⟨v, r, rfl, Den.back p.1 a, DenL.back p.2 b⟩
theorem DenF.back {β : List Addr} : ∀ {fs : List (Str × T)} {gs : List (Str × V)}, pureF fs = true → DenF D (φ ++ α) β H fs gs → DenF D φ α H fs gs
  | [], _, _, h => h
  | q :: fs, _, p, h => by
    obtain ⟨v, r, rfl, a, b⟩ := h
    simp only [pureF, Bool.and_eq_true] at p
    exact ⟨v, r, rfl, Den.back p.1 a, DenF.back p.2 b⟩
end
theorem DenL.length : ∀ {ts : List T} {vs : List V}, DenL D φ α H ts vs → ts.length = vs.length
  | [], _, h => by have : _ = [] := h; subst this; rfl
  | t :: ts, _, h => by
    obtain ⟨v, r, rfl, _, b⟩ := h
    simp [DenL.length b]
theorem DenL.get : ∀ {ts : List T} {vs : List V} {i : Nat} {t : T}, DenL D φ α H ts vs → ts[i]? = some t → ∃ v, vs[i]? = some v ∧ Den D φ α H t v
  | [], _, _, _, _, e => by simp at e
  | t :: ts, _, 0, _, h, e => by
    obtain ⟨v, r, rfl, a, b⟩ := h
    simp at e; subst e
    exact ⟨v, rfl, a⟩
  | t :: ts, _, i + 1, u, h, e => by
    obtain ⟨v, r, rfl, a, b⟩ := h
    obtain ⟨w, e', d⟩ := DenL.get (i := i) (t := u) b (by simpa using e)
    exact ⟨w, by simpa using e', d⟩
theorem DenL.append : ∀ {ts us : List T} {vs ws : List V}, DenL D φ α H ts vs → DenL D φ α H us ws → DenL D φ α H (ts ++ us) (vs ++ ws)
  | [], us, _, ws, h, k => by have : _ = [] := h; subst this; exact k
  | t :: ts, us, _, ws, h, k => by
    obtain ⟨v, r, rfl, a, b⟩ := h
    exact ⟨v, r ++ ws, rfl, a, DenL.append b k⟩
theorem DenL.drop : ∀ (n : Nat) {ts : List T} {vs : List V}, DenL D φ α H ts vs → DenL D φ α H (ts.drop n) (vs.drop n)
  | 0, _, _, h => h
  | n + 1, [], _, h => by have : _ = [] := h; subst this; exact rfl
  | n + 1, t :: ts, _, h => by
    obtain ⟨v, r, rfl, a, b⟩ := h
    exact DenL.drop n b
theorem DenL.take : ∀ (n : Nat) {ts : List T} {vs : List V}, DenL D φ α H ts vs → DenL D φ α H (ts.take n) (vs.take n)
  | 0, _, _, h => by simp [DenL]
  | n + 1, [], _, h => by have : _ = [] := h; subst this; exact rfl
  | n + 1, t :: ts, _, h => by
    obtain ⟨v, r, rfl, a, b⟩ := h
    exact ⟨v, r.take n, rfl, a, DenL.take n b⟩
theorem DenF.look : ∀ {fs : List (Str × T)} {gs : List (Str × V)} {f : Str} {t : T}, DenF D φ α H fs gs → fs.lookup f = some t → ∃ v, gs.lookup f = some v ∧ Den D φ α H t v
  | [], _, _, _, _, e => by simp at e
  | p :: fs, _, f, t, h, e => by
    obtain ⟨v, r, rfl, a, b⟩ := h
    rw [show p = (p.1, p.2) from rfl, List.lookup_cons] at e
    rw [List.lookup_cons]
    cases q : f == p.1 with
    | true => simp [q] at e ⊢; subst e; exact a
    | false => simp only [q] at e ⊢; exact DenF.look b e

/-- the store is held -/
structure MRel (D : DP) (φ α : List Addr) (H : Hp) (μ : Mem) : Prop where
  len : α.length = μ.length
  nd : α.Nodup
  dis : ∀ b ∈ α, b ∉ φ
  phi : ∀ b ∈ φ, ∃ o, H b = some o
  ob : ∀ (i : Nat) (a : Addr) (o : MO), α[i]? = some a → μ[i]? = some o → DenO D φ α H o a
theorem MRel.nil (D : DP) {φ : List Addr} {H : Hp} (h : ∀ b ∈ φ, ∃ o, H b = some o) : MRel D φ [] H [] := ⟨rfl, by simp, by simp, h, by simp⟩
theorem DenO.step {o : MO} {a : Addr} (s : Stp α H α' H') (e : H' a = H a) (h : DenO D φ α H o a) : DenO D φ α' H' o a := by
  cases o with
  | lst ts =>
    obtain ⟨xs, q, l⟩ := h
    exact ⟨xs, e.trans q, DenL.step s l⟩
  | obj c fs =>
    obtain ⟨C, dx, gs, ad, q, l⟩ := h
    exact ⟨C, dx, gs, ad, e.trans q, DenF.step s l⟩
theorem DenO.some {o : MO} {a : Addr} (h : DenO D φ α H o a) : ∃ u, H a = Option.some u := by
  cases o with
  | lst ts => obtain ⟨xs, q, _⟩ := h; exact ⟨_, q⟩
  | obj c fs => obtain ⟨C, dx, gs, _, q, _⟩ := h; exact ⟨_, q⟩
/-- new things beside: the store stays -/
theorem MRel.new {μ : Mem} (m : MRel D φ α H μ) (s : Same H H') : MRel D φ α H' μ :=
  ⟨m.len, m.nd, m.dis, fun b hb => let ⟨o, e⟩ := m.phi b hb; ⟨o, s b o e⟩, fun i a o e1 e2 => by
    have d := m.ob i a o e1 e2
    obtain ⟨u, q⟩ := d.some
    exact d.step (Stp.new s) ((s _ _ q).trans q.symm)⟩

/-- the names are held -/
structure SRel (D : DP) (φ α : List Addr) (H : Hp) (τ : Sl) (σ : St) : Prop where
  len : τ.length = σ.length
  val : ∀ (i : Nat) (t : T), τ[i]? = some (some t) → ∃ v, σ[i]? = some (some v) ∧ Den D φ α H t v
theorem SRel.step {τ : Sl} {σ : St} (r : SRel D φ α H τ σ) (s : Stp α H α' H') : SRel D φ α' H' τ σ := ⟨r.len, fun i t e => by
  obtain ⟨v, q, d⟩ := r.val i t e
  exact ⟨v, q, d.step s⟩⟩
theorem SRel.set {τ : Sl} {σ : St} (r : SRel D φ α H τ σ) {i : Nat} {t : T} {v : V} (d : Den D φ α H t v) : SRel D φ α H (τ.set i (some t)) (σ.set i (some v)) := by
  refine ⟨by simp [r.len], fun j u e => ?_⟩
  by_cases h : i = j
  · subst h
    rw [List.getElem?_set_self'] at e
    cases q : τ[i]? with
    | none => rw [q] at e; cases e
    | some o =>
      rw [q] at e
      simp at e
      subst e
      have hl : i < σ.length := by rw [← r.len]; exact (List.getElem?_eq_some_iff.mp q).1
      exact ⟨v, by simp [hl], d⟩
  · rw [List.getElem?_set_ne h] at e ⊢
    exact r.val j u e
end
end NH
end
section
set_option linter.all false
set_option maxRecDepth 100000
set_option maxHeartbeats 4000000
namespace NH
open PySem PySem.Spec PyProof.Rows L2

/-- what is wanted behind an expression's answer r -/
def Post (D : DP) (W : XW) (φ α : List Addr) (H : Hp) (σ : St) {β : Type} (R : β → Mem → List Addr → Hp → Prop) : RE β → Prop
  | .ok a μ' => ∀ α' H', Stp α H α' H' → MRel D φ α' H' μ' → R a μ' α' H'
  | .ex c μ' => ∀ α' H' C, Stp α H α' H' → MRel D φ α' H' μ' → D.adr c = some C → W (.ref C) none σ H'
  | .st => False
section
variable {D : DP} {W : XW} {φ α α' : List Addr} {H H' : Hp} {σ : St} {β γ : Type} {R R' : β → Mem → List Addr → Hp → Prop} {S : γ → Mem → List Addr → Hp → Prop}
theorem Post.mono {r : RE β} (p : Post D W φ α H σ R r) (h : ∀ a μ' α' H', Stp α H α' H' → MRel D φ α' H' μ' → R a μ' α' H' → R' a μ' α' H') : Post D W φ α H σ R' r := by
  cases r with
  | ok a μ' => exact fun α' H' s m => h a μ' α' H' s m (p α' H' s m)
  | ex c μ' => exact p
  | st => exact p
theorem Post.bind {r : RE γ} {k : γ → Mem → RE β} (p : Post D W φ α H σ R (r.bind k)) : Post D W φ α H σ (fun a μ' α' H' => Post D W φ α' H' σ R (k a μ')) r := by
  cases r with
  | ok a μ' =>
    intro α' H' s m
    have p' : Post D W φ α H σ R (k a μ') := p
    show Post D W φ α' H' σ R (k a μ')
    cases h : k a μ' with
    | ok b μ2 => rw [h] at p'; exact fun α2 H2 s2 m2 => p' α2 H2 (s.trans s2) m2
    | ex c μ2 => rw [h] at p'; exact fun α2 H2 C s2 m2 e => p' α2 H2 C (s.trans s2) m2 e
    | st => rw [h] at p'; exact p'
  | ex c μ' => exact p
  | st => exact p
end
/-- the reading of an expression by what it is worth -/
def rdE (D : DP) (W : XW) (f : Sl → Mem → RE T) : TE := fun σ H Q => ∃ φ α τ μ, SRel D φ α H τ σ ∧ MRel D φ α H μ ∧ Post D W φ α H σ (fun t _ α' H' => ∀ v, Den D φ α' H' t v → Q v H') (f τ μ)
def rdT (D : DP) (W : XW) (f : Sl → Mem → RE Bool) : TT := fun σ H Q => ∃ φ α τ μ, SRel D φ α H τ σ ∧ MRel D φ α H μ ∧ Post D W φ α H σ (fun b _ _ H' => Q b H') (f τ μ)
def rdA (D : DP) (W : XW) (f : Sl → Mem → RE (List T)) : TA := fun σ H Q => ∃ φ α τ μ, SRel D φ α H τ σ ∧ MRel D φ α H μ ∧ Post D W φ α H σ (fun ts _ α' H' => ∀ vs, DenL D φ α' H' ts vs → Q vs H') (f τ μ)

section
variable {X : Cx} {D : DP} {W : XW} {pins : List (Addr × Obj)} {s : Shared} {σ : St} {H : Hp} {φ α : List Addr} {τ : Sl} {μ : Mem} {β : Type} {R : β → Mem → List Addr → Hp → Prop}

/-- a part of an expression is worth k's argument -/
theorem sub {a : Expr} {f : Sl → Mem → RE T} {k : T → Mem → RE β} (ha : PE X a (rdE D W f)) (I : Inv X pins σ H s) (sr : SRel D φ α H τ σ) (mr : MRel D φ α H μ) (p : Post D W φ α H σ R ((f τ μ).bind k)) :
    wpAny (model X.prog X.w) X.A (eval a X.env) (fun u s1 => ∃ v H1 t μ1 α1, Inv X pins σ H1 s1 ∧ RelV v u ∧ Stp α H α1 H1 ∧ SRel D φ α1 H1 τ σ ∧ MRel D φ α1 H1 μ1 ∧ Den D φ α1 H1 t v ∧ Post D W φ α1 H1 σ R (k t μ1)) X.xe s := by
  refine thn (ha pins s σ H (fun v H1 => ∃ t μ1 α1, Stp α H α1 H1 ∧ SRel D φ α1 H1 τ σ ∧ MRel D φ α1 H1 μ1 ∧ Den D φ α1 H1 t v ∧ Post D W φ α1 H1 σ R (k t μ1)) I ⟨φ, α, τ, μ, sr, mr, p.bind.mono fun t μ' α' H' st m q v d => ⟨t, μ', α', st, sr.step st, m, d, q⟩⟩) ?_
  rintro u s1 ⟨v, H1, I1, r, t, μ1, α1, h⟩
  exact ⟨v, H1, t, μ1, α1, I1, r, h⟩
theorem subT {a : Expr} {f : Sl → Mem → RE Bool} {k : Bool → Mem → RE β} (ha : PT X a (rdT D W f)) (I : Inv X pins σ H s) (sr : SRel D φ α H τ σ) (mr : MRel D φ α H μ) (p : Post D W φ α H σ R ((f τ μ).bind k)) :
    wpAny (model X.prog X.w) X.A (isTrue a X.env (eval a X.env)) (fun b s1 => ∃ H1 μ1 α1, Inv X pins σ H1 s1 ∧ Stp α H α1 H1 ∧ SRel D φ α1 H1 τ σ ∧ MRel D φ α1 H1 μ1 ∧ Post D W φ α1 H1 σ R (k b μ1)) X.xe s := by
  refine thn (ha pins s σ H (fun b H1 => ∃ μ1 α1, Stp α H α1 H1 ∧ SRel D φ α1 H1 τ σ ∧ MRel D φ α1 H1 μ1 ∧ Post D W φ α1 H1 σ R (k b μ1)) I ⟨φ, α, τ, μ, sr, mr, p.bind.mono fun b μ' α' H' st m q => ⟨μ', α', st, sr.step st, m, q⟩⟩) ?_
  rintro b s1 ⟨H1, I1, μ1, α1, h⟩
  exact ⟨H1, μ1, α1, I1, h⟩
theorem subA {es : List Expr} {pos : Pos} {f : Sl → Mem → RE (List T)} {k : List T → Mem → RE β} (ha : PA X es (rdA D W f)) (I : Inv X pins σ H s) (sr : SRel D φ α H τ σ) (mr : MRel D φ α H μ) (p : Post D W φ α H σ R ((f τ μ).bind k)) :
    wpAny (model X.prog X.w) X.A (spliced (backTo pos (starEach es X.env))) (fun us s1 => ∃ vs H1 ts μ1 α1, Inv X pins σ H1 s1 ∧ Vals vs us ∧ Stp α H α1 H1 ∧ SRel D φ α1 H1 τ σ ∧ MRel D φ α1 H1 μ1 ∧ DenL D φ α1 H1 ts vs ∧ Post D W φ α1 H1 σ R (k ts μ1)) X.xe s := by
  refine thn (ha pos pins s σ H (fun vs H1 => ∃ ts μ1 α1, Stp α H α1 H1 ∧ SRel D φ α1 H1 τ σ ∧ MRel D φ α1 H1 μ1 ∧ DenL D φ α1 H1 ts vs ∧ Post D W φ α1 H1 σ R (k ts μ1)) I ⟨φ, α, τ, μ, sr, mr, p.bind.mono fun ts μ' α' H' st m q vs d => ⟨ts, μ', α', st, sr.step st, m, d, q⟩⟩) ?_
  rintro us s1 ⟨vs, H1, I1, r, ts, μ1, α1, h⟩
  exact ⟨vs, H1, ts, μ1, α1, I1, r, h⟩

/-- the wish of an expression, at its end -/
abbrev RV (D : DP) (φ : List Addr) (Q : VK) : T → Mem → List Addr → Hp → Prop := fun t _ α' H' => ∀ v, Den D φ α' H' t v → Q v H'
/-- .. met where nothing changed -/
theorem Post.here {Q : VK} {t : T} {v : V} (p : Post D W φ α H σ (RV D φ Q) (.ok t μ)) (mr : MRel D φ α H μ) (d : Den D φ α H t v) : Q v H := p α H (Stp.refl _ _) mr v d
/-- .. where new things came -/
theorem Post.fresh {Q : VK} {t : T} {v : V} {H' : Hp} (p : Post D W φ α H σ (RV D φ Q) (.ok t μ)) (mr : MRel D φ α H μ) (sm : Same H H') (d : Den D φ α H' t v) : Q v H' := p α H' (Stp.new sm) (mr.new sm) v d

theorem room_line {n : Nat} (h : n ≤ room) : n ≤ sizeLine := Nat.le_trans h (by unfold room; decide)

/-! ### two operands -/
theorem fresh_phi {α : List Addr} (mr : MRel D φ α H μ) {p : Addr} (h : H p = none) : p ∉ φ := fun z => by
  obtain ⟨o, e⟩ := mr.phi p z
  rw [h] at e; cases e
theorem fresh_out {α : List Addr} (mr : MRel D φ α H μ) {p : Addr} (h : H p = none) : p ∉ α := fun z => by
  obtain ⟨i, hi⟩ := List.mem_iff_getElem?.mp z
  have hl : i < μ.length := by rw [← mr.len]; exact (List.getElem?_eq_some_iff.mp hi).1
  obtain ⟨u, e⟩ := (mr.ob i p μ[i] hi (by simp [hl])).some
  rw [h] at e; cases e
theorem intsOf_den : ∀ {ts : List T} {ns : List Int} {vs : List V}, intsOf ts = some ns → DenL D φ α H ts vs → vs = ns.map V.int
  | [], ns, vs, h, l => by
    simp [intsOf] at h; subst h
    exact l
  | t :: ts, ns, vs, h, l => by
    obtain ⟨v, r, rfl, d, l⟩ := l
    cases t with
    | int i =>
      simp only [intsOf] at h
      cases q : intsOf ts with
      | none => rw [q] at h; cases h
      | some ms =>
        rw [q] at h; cases h
        rw [intsOf_den q l]
        have d : v = .int i := d
        rw [d]; rfl
    | _ => simp [intsOf] at h
/-- two lists, put together -/
theorem op_catR : OpR X (binaryOp .Add) (fun x y H Q => ∃ l b xs zs, x = .ref l ∧ y = .ref b ∧ Rd H l (.lst xs) ∧ Rd H b (.lst zs) ∧ xs.length + zs.length ≤ sizeLine ∧ ∀ p, H p = none → Q (.ref p) (upd H p (.lst (xs ++ zs)))) := by
  intro pins s σ H x y v u Q I rx ry h
  obtain ⟨l, b, xs, zs, rfl, rfl, hH, hB, hz, q⟩ := h
  cases rx
  cases ry
  obtain ⟨z, its, n, r, e⟩ := hH.ok I.hok
  obtain ⟨z2, its2, n2, r2, e2⟩ := hB.ok I.hok
  refine PySem.P.add_list e e2 ?_ (by rw [List.size_toArray, List.size_toArray, ← r.length, ← r2.length]; exact hz)
  rw [show its.toArray ++ its2.toArray = (its ++ its2).toArray by simp]
  exact ⟨.ref _, _, I.lnew (t' := s.toks) (r.append r2) (by rw [List.length_append]; exact hz), rfl, q _ I.fresh⟩
/-- two tuples, the first one empty -/
theorem op_catT0 : OpR X (binaryOp .Add) (fun x y H Q => ∃ a b ys, x = .ref a ∧ y = .ref b ∧ SqT X.K H a [] ∧ SqT X.K H b ys ∧ Q (.ref b) H) := by
  intro pins s σ H x y v u Q I rx ry h
  obtain ⟨a, b, ys, rfl, rfl, ha, hb, q⟩ := h
  cases rx
  cases ry
  obtain ⟨its, r1, p1, _⟩ := I.tuple ha
  obtain ⟨its2, r2, p2, _⟩ := I.tuple hb
  cases r1
  obtain ⟨⟨cls, dd, data, sl⟩, ho, hc, n, hd⟩ := id p1
  obtain ⟨⟨cls2, dd2, data2, sl2⟩, ho2, hc2, n2, hd2⟩ := id p2
  simp only at hc hd hc2 hd2
  subst hc hd hc2 hd2
  exact concat_meets ⟨_, ho, rfl⟩ ⟨_, ho2, rfl⟩ noFill_tuple_add seq_tuple_add PySem.F.slot_tuple_add PySem.F.entry_tuple_add (PySem.F.args_tuple_add_2 _ _)
    (tuple_addW0 a b #[] its2.toArray n n2 dd dd2 sl sl2 rfl) ⟨ho, ho2, ⟨.ref b, H, I, rfl, q⟩⟩
theorem op_bin {op : Operator} {x y : T} {v1 v2 : V} {u1 u2 : Value} {Q : VK} (I : Inv X pins σ H s) (mr : MRel D φ α H μ) (d1 : Den D φ α H x v1) (d2 : Den D φ α H y v2) (r1 : RelV v1 u1) (r2 : RelV v2 u2)
    (p : Post D W φ α H σ (RV D φ Q) (binT op x y μ)) : wpAny (model X.prog X.w) X.A (binaryOp op u1 u2) (EP X pins σ Q) X.xe s := by
  unfold binT at p
  split at p
  · cases d1; cases d2
    exact op_add pins s σ H _ _ _ _ Q I r1 r2 ⟨_, _, rfl, rfl, p.here mr rfl⟩
  · cases d1; cases d2
    exact op_sub pins s σ H _ _ _ _ Q I r1 r2 ⟨_, _, rfl, rfl, p.here mr rfl⟩
  · cases d1; cases d2
    split at p
    · rename_i h
      exact op_mul pins s σ H _ _ _ _ Q I r1 r2 ⟨_, _, rfl, rfl, by simpa [CMul, big] using h, p.here mr rfl⟩
    · exact p.elim
  · cases d1; cases d2
    split at p
    · rename_i h
      exact op_fdiv pins s σ H _ _ _ _ Q I r1 r2 ⟨_, _, rfl, rfl, h, p.here mr rfl⟩
    · exact p.elim
  · cases d1; cases d2
    split at p
    · rename_i h
      exact op_mod pins s σ H _ _ _ _ Q I r1 r2 ⟨_, _, rfl, rfl, h, p.here mr rfl⟩
    · exact p.elim
  · cases d1; cases d2
    split at p
    · rename_i h
      exact op_pow pins s σ H _ _ _ _ Q I r1 r2 ⟨_, _, rfl, rfl, ⟨h.1, h.2.1, by simpa using h.2.2⟩, p.here mr rfl⟩
    · exact p.elim
  · cases d1; cases d2
    split at p
    · rename_i h
      exact op_shr pins s σ H _ _ _ _ Q I r1 r2 ⟨_, _, rfl, rfl, h, p.here mr rfl⟩
    · exact p.elim
  · cases d1; cases d2
    split at p
    · rename_i h
      exact op_add_str pins s σ H _ _ _ _ Q I r1 r2 ⟨_, _, rfl, rfl, room_line h, p.here mr rfl⟩
    · exact p.elim
  · cases d1; cases d2
    exact op_and pins s σ H _ _ _ _ Q I r1 r2 ⟨_, _, rfl, rfl, p.here mr rfl⟩
  · split at p
    · rename_i h
      obtain ⟨a, vs, rfl, n1, n2, q1, l1⟩ := d1
      obtain ⟨b, ws, rfl, m1, m2, q2, l2⟩ := d2
      refine op_catR pins s σ H _ _ _ _ Q I r1 r2 ⟨a, b, vs, ws, rfl, rfl, q1, q2, by rw [← l1.length, ← l2.length]; exact room_line h, fun z hz => ?_⟩
      have sm := same_upd (o := .lst (vs ++ ws)) hz
      exact p.fresh mr sm ⟨z, _, rfl, fresh_phi mr hz, fresh_out mr hz, .inl upd_same, (l1.step (Stp.new sm)).append (l2.step (Stp.new sm))⟩
    · exact p.elim
  · split at p
    · rename_i xs ys h
      obtain ⟨a, vs, rfl, n1, n2, q1, l1⟩ := d1
      obtain ⟨b, ws, rfl, m1, m2, q2, l2⟩ := d2
      cases vs with
      | nil =>
        cases xs with
        | cons x xs => obtain ⟨_, _, e, _⟩ := l1; cases e
        | nil => exact op_catT0 pins s σ H _ _ _ _ Q I r1 r2 ⟨a, b, ws, rfl, rfl, .inl q1, .inl q2, p.here mr ⟨b, ws, rfl, m1, m2, q2, l2⟩⟩
      | cons v vs =>
        refine op_catT pins s σ H _ _ _ _ Q I r1 r2 ⟨a, b, v :: vs, ws, rfl, rfl, .inl q1, .inl q2, by simp, by rw [← l1.length, ← l2.length]; exact room_line h, fun hw => ?_, fun hw z hz => ?_⟩
        · subst hw
          cases ys with
          | cons y ys => obtain ⟨_, _, e, _⟩ := l2; cases e
          | nil =>
            rw [List.append_nil] at p
            exact p.here mr ⟨a, v :: vs, rfl, n1, n2, q1, l1⟩
        · have sm := same_upd (o := .tup (v :: vs ++ ws)) hz
          exact p.fresh mr sm ⟨z, _, rfl, fresh_phi mr hz, fresh_out mr hz, .inl upd_same, (l1.step (Stp.new sm)).append (l2.step (Stp.new sm))⟩
    · exact p.elim
  · exact p.elim
end
end NH
end
section
set_option linter.all false
set_option maxRecDepth 100000
set_option maxHeartbeats 4000000
namespace NH
open PySem PySem.Spec PyProof.Rows L2

section
variable {D : DP} {φ α : List Addr} {H : Hp}
theorem Rd.inj {a : Addr} {u w : HO} (hu : ∀ o z, u ≠ .frz o z) (hw : ∀ o z, w ≠ .frz o z) (r : Rd H a u) (q : Rd H a w) : u = w := by
  rcases r with r | ⟨o, r⟩ <;> rcases q with q | ⟨o', q⟩ <;> rw [r] at q
  · exact Option.some.inj q
  · exact absurd (Option.some.inj q) (hu _ _)
  · exact absurd (Option.some.inj q).symm (hw _ _)
  · injection Option.some.inj q
mutual
theorem den_same : ∀ {t u : T} {v : V} {k : Bool}, Den D φ α H t v → Den D φ α H u v → eqT t u = some k → k = true
  | .int i, u, _, k, h1, h2, e => by
    have h1 : _ = V.int i := h1
    subst h1
    cases u with
    | int j => have h2 : V.int i = V.int j := h2; injection h2 with h2; subst h2; simpa [eqT] using e.symm
    | bl b => have h2 : V.int i = V.bl b := h2; cases h2
    | str b => have h2 : V.int i = V.str b := h2; cases h2
    | non => have h2 : V.int i = V.non := h2; cases h2
    | tup b => obtain ⟨_, _, h2, _⟩ := h2; cases h2
    | lst b => obtain ⟨_, _, h2, _⟩ := h2; cases h2
    | _ => simp [eqT] at e
  | .bl i, u, _, k, h1, h2, e => by
    have h1 : _ = V.bl i := h1
    subst h1
    cases u with
    | bl j => have h2 : V.bl i = V.bl j := h2; injection h2 with h2; subst h2; simpa [eqT] using e.symm
    | int b => have h2 : V.bl i = V.int b := h2; cases h2
    | str b => have h2 : V.bl i = V.str b := h2; cases h2
    | non => have h2 : V.bl i = V.non := h2; cases h2
    | tup b => obtain ⟨_, _, h2, _⟩ := h2; cases h2
    | lst b => obtain ⟨_, _, h2, _⟩ := h2; cases h2
    | _ => simp [eqT] at e
  | .str i, u, _, k, h1, h2, e => by
    have h1 : _ = V.str i := h1
    subst h1
    cases u with
    | str j => have h2 : V.str i = V.str j := h2; injection h2 with h2; subst h2; simpa [eqT] using e.symm
    | int b => have h2 : V.str i = V.int b := h2; cases h2
    | bl b => have h2 : V.str i = V.bl b := h2; cases h2
    | non => have h2 : V.str i = V.non := h2; cases h2
    | tup b => obtain ⟨_, _, h2, _⟩ := h2; cases h2
    | lst b => obtain ⟨_, _, h2, _⟩ := h2; cases h2
    | _ => simp [eqT] at e
  | .non, u, _, k, h1, h2, e => by
    have h1 : _ = V.non := h1
    subst h1
    cases u with
    | non => simpa [eqT] using e.symm
    | int b => have h2 : V.non = V.int b := h2; cases h2
    | bl b => have h2 : V.non = V.bl b := h2; cases h2
    | str b => have h2 : V.non = V.str b := h2; cases h2
    | tup b => obtain ⟨_, _, h2, _⟩ := h2; cases h2
    | lst b => obtain ⟨_, _, h2, _⟩ := h2; cases h2
    | _ => simp [eqT] at e
  | .tup ts, u, _, k, h1, h2, e => by
    obtain ⟨a, xs, rfl, _, _, r, l⟩ := h1
    cases u with
    | tup us =>
      obtain ⟨b, ys, e2, _, _, r', l'⟩ := h2
      cases e2
      have := Rd.inj (by intro _ _ z; cases z) (by intro _ _ z; cases z) r r'
      injection this with this
      subst this
      exact denL_same l l' (by simpa [eqT] using e)
    | lst us =>
      obtain ⟨b, ys, e2, _, _, r', l'⟩ := h2
      cases e2
      have := Rd.inj (by intro _ _ z; cases z) (by intro _ _ z; cases z) r r'
      cases this
    | int b => have h2 : V.ref a = V.int b := h2; cases h2
    | bl b => have h2 : V.ref a = V.bl b := h2; cases h2
    | str b => have h2 : V.ref a = V.str b := h2; cases h2
    | non => have h2 : V.ref a = V.non := h2; cases h2
    | _ => simp [eqT] at e
  | .lst ts, u, _, k, h1, h2, e => by
    obtain ⟨a, xs, rfl, _, _, r, l⟩ := h1
    cases u with
    | lst us =>
      obtain ⟨b, ys, e2, _, _, r', l'⟩ := h2
      cases e2
      have := Rd.inj (by intro _ _ z; cases z) (by intro _ _ z; cases z) r r'
      injection this with this
      subst this
      exact denL_same l l' (by simpa [eqT] using e)
    | tup us =>
      obtain ⟨b, ys, e2, _, _, r', l'⟩ := h2
      cases e2
      have := Rd.inj (by intro _ _ z; cases z) (by intro _ _ z; cases z) r r'
      cases this
    | int b => have h2 : V.ref a = V.int b := h2; cases h2
    | bl b => have h2 : V.ref a = V.bl b := h2; cases h2
    | str b => have h2 : V.ref a = V.str b := h2; cases h2
    | non => have h2 : V.ref a = V.non := h2; cases h2
    | _ => simp [eqT] at e
  | .obj _ _, _, _, _, _, _, e => by simp [eqT] at e
  | .mut _, _, _, _, _, _, e => by simp [eqT] at e
  | .exc _, _, _, _, _, _, e => by simp [eqT] at e
theorem denL_same : ∀ {ts us : List T} {vs : List V} {k : Bool}, DenL D φ α H ts vs → DenL D φ α H us vs → eqL ts us = some k → k = true
  | [], [], _, k, _, _, e => by simpa [eqL] using e.symm
  | [], _ :: _, _, k, h1, h2, e => by
    have h1 : _ = [] := h1
    obtain ⟨_, _, h2, _⟩ := h2
    rw [h1] at h2; cases h2
  | _ :: _, [], _, k, h1, h2, e => by
    have h2 : _ = [] := h2
    obtain ⟨_, _, h1, _⟩ := h1
    rw [h2] at h1; cases h1
  | t :: ts, u :: us, _, k, h1, h2, e => by
    obtain ⟨v, r, rfl, a1, b1⟩ := h1
    obtain ⟨v', r', q, a2, b2⟩ := h2
    injection q with q1 q2
    subst q1 q2
    cases h : eqT t u with
    | none => simp [eqL, h] at e
    | some x =>
      cases h' : eqL ts us with
      | none => simp [eqL, h, h'] at e
      | some y =>
        have e1 := den_same a1 a2 h
        have e2 := denL_same b1 b2 h'
        subst e1 e2
        simpa [eqL, h, h'] using e.symm
end
end

section
variable {X : Cx} {D : DP} {pins : List (Addr × Obj)} {s : Shared} {σ : St} {H : Hp} {φ α : List Addr}
theorem eqL_at : ∀ {ts us : List T} {k : Bool}, eqL ts us = some k → (∀ j (h1 : j < ts.length) (h2 : j < us.length), ∃ b, eqT ts[j] us[j] = some b) ∧
    k = ((List.range (min ts.length us.length)).all (fun j => match ts[j]?, us[j]? with | some t, some u => (eqT t u).getD false | _, _ => false) && ts.length == us.length)
  | [], [], k, e => by
    simp [eqL] at e; subst e
    exact ⟨fun j h1 => by simp at h1, by simp⟩
  | [], u :: us, k, e => by
    simp [eqL] at e; subst e
    exact ⟨fun j h1 => by simp at h1, by simp⟩
  | t :: ts, [], k, e => by
    simp [eqL] at e; subst e
    exact ⟨fun j h1 h2 => by simp at h2, by simp⟩
  | t :: ts, u :: us, k, e => by
    cases h : eqT t u with
    | none => simp [eqL, h] at e
    | some x =>
      cases h' : eqL ts us with
      | none => simp [eqL, h, h'] at e
      | some y =>
        obtain ⟨g, ih⟩ := eqL_at h'
        simp [eqL, h, h'] at e
        subst e
        refine ⟨fun j h1 h2 => ?_, ?_⟩
        · cases j with
          | zero => exact ⟨x, h⟩
          | succ j => exact g j (by simpa using h1) (by simpa using h2)
        · rw [ih]
          have e1 : min (t :: ts).length (u :: us).length = min ts.length us.length + 1 := by simp [Nat.succ_min_succ]
          rw [e1, List.range_succ_eq_map, List.all_cons, List.all_map]
          simp only [List.getElem?_cons_zero, h, Option.getD_some, Function.comp_def, List.getElem?_cons_succ, List.length_cons]
          rw [Bool.and_assoc]
          congr 2
          simp
theorem in1_units (A : Around) : A.in1.units = A.units + 1 := by first | rfl | simp [Around.in1, Around.units]
mutual
theorem eqAt_tree (I : Inv X pins σ H s) : ∀ {t u : T} {v w : V} {a b : Value} {k : Bool} {A : Around}, Den D φ α H t v → Den D φ α H u w → RelV v a → RelV w b → eqT t u = some k → A.units + depT t + 1 < cLine → SeqAt.EqAt A s a b k
  | .int i, u, _, w, a, b, k, A, h1, h2, r1, r2, e, hu => by
    have h1 : _ = V.int i := h1
    subst h1
    obtain ⟨t1, rfl⟩ := r1
    cases u with
    | int j => have h2 : w = V.int j := h2; subst h2; obtain ⟨t2, rfl⟩ := r2; simp [eqT] at e; subst e; exact SeqAt.EqAt.int_int _ _ _ _
    | bl j => have h2 : w = V.bl j := h2; subst h2; cases r2; simp [eqT] at e; subst e; exact SeqAt.EqAt.int_bool _ _ _
    | str j => have h2 : w = V.str j := h2; subst h2; obtain ⟨t2, rfl⟩ := r2; simp [eqT] at e; subst e; exact SeqAt.EqAt.int_str _ _ _ _
    | non => have h2 : w = V.non := h2; subst h2; cases r2; simp [eqT] at e; subst e; exact SeqAt.EqAt.int_none _ _
    | tup ys => obtain ⟨c, xs, rfl, _, _, r, _⟩ := h2; cases r2; obtain ⟨its, _, p, _⟩ := I.tuple (.inl r); simp [eqT] at e; subst e; exact SeqAt.EqAt.int_tuple _ _ p (by omega)
    | lst ys => obtain ⟨c, xs, rfl, _, _, r, _⟩ := h2; cases r2; obtain ⟨its, _, p, _⟩ := I.list (.inl r); simp [eqT] at e; subst e; exact SeqAt.EqAt.int_list _ _ p.isList (by omega)
    | _ => simp [eqT] at e
  | .bl i, u, _, w, a, b, k, A, h1, h2, r1, r2, e, hu => by
    have h1 : _ = V.bl i := h1
    subst h1
    cases r1
    cases u with
    | int j => have h2 : w = V.int j := h2; subst h2; obtain ⟨t2, rfl⟩ := r2; simp [eqT] at e; subst e; exact SeqAt.EqAt.bool_int _ _ _
    | bl j => have h2 : w = V.bl j := h2; subst h2; cases r2; simp [eqT] at e; subst e; exact SeqAt.EqAt.bool_bool _ _
    | str j => have h2 : w = V.str j := h2; subst h2; obtain ⟨t2, rfl⟩ := r2; simp [eqT] at e; subst e; exact SeqAt.EqAt.bool_str _ _ _
    | non => have h2 : w = V.non := h2; subst h2; cases r2; simp [eqT] at e; subst e; exact SeqAt.EqAt.bool_none _
    | tup ys => obtain ⟨c, xs, rfl, _, _, r, _⟩ := h2; cases r2; obtain ⟨its, _, p, _⟩ := I.tuple (.inl r); simp [eqT] at e; subst e; exact SeqAt.EqAt.bool_tuple _ p (by omega)
    | lst ys => obtain ⟨c, xs, rfl, _, _, r, _⟩ := h2; cases r2; obtain ⟨its, _, p, _⟩ := I.list (.inl r); simp [eqT] at e; subst e; exact SeqAt.EqAt.bool_list _ p.isList (by omega)
    | _ => simp [eqT] at e
  | .str i, u, _, w, a, b, k, A, h1, h2, r1, r2, e, hu => by
    have h1 : _ = V.str i := h1
    subst h1
    obtain ⟨t1, rfl⟩ := r1
    cases u with
    | int j => have h2 : w = V.int j := h2; subst h2; obtain ⟨t2, rfl⟩ := r2; simp [eqT] at e; subst e; exact SeqAt.EqAt.str_int _ _ _ _
    | bl j => have h2 : w = V.bl j := h2; subst h2; cases r2; simp [eqT] at e; subst e; exact SeqAt.EqAt.str_bool _ _ _
    | str j => have h2 : w = V.str j := h2; subst h2; obtain ⟨t2, rfl⟩ := r2; simp [eqT] at e; subst e; exact SeqAt.EqAt.str_str _ _ _ _
    | non => have h2 : w = V.non := h2; subst h2; cases r2; simp [eqT] at e; subst e; exact SeqAt.EqAt.str_none _ _
    | tup ys => obtain ⟨c, xs, rfl, _, _, r, _⟩ := h2; cases r2; obtain ⟨its, _, p, _⟩ := I.tuple (.inl r); simp [eqT] at e; subst e; exact SeqAt.EqAt.str_tuple _ _ p (by omega)
    | lst ys => obtain ⟨c, xs, rfl, _, _, r, _⟩ := h2; cases r2; obtain ⟨its, _, p, _⟩ := I.list (.inl r); simp [eqT] at e; subst e; exact SeqAt.EqAt.str_list _ _ p.isList (by omega)
    | _ => simp [eqT] at e
  | .non, u, _, w, a, b, k, A, h1, h2, r1, r2, e, hu => by
    have h1 : _ = V.non := h1
    subst h1
    cases r1
    cases u with
    | int j => have h2 : w = V.int j := h2; subst h2; obtain ⟨t2, rfl⟩ := r2; simp [eqT] at e; subst e; exact SeqAt.EqAt.none_int _ _
    | bl j => have h2 : w = V.bl j := h2; subst h2; cases r2; simp [eqT] at e; subst e; exact SeqAt.EqAt.none_bool _
    | str j => have h2 : w = V.str j := h2; subst h2; obtain ⟨t2, rfl⟩ := r2; simp [eqT] at e; subst e; exact SeqAt.EqAt.none_str _ _
    | non => have h2 : w = V.non := h2; subst h2; cases r2; simp [eqT] at e; subst e; exact SeqAt.EqAt.same _
    | tup ys => obtain ⟨c, xs, rfl, _, _, r, _⟩ := h2; cases r2; obtain ⟨its, _, p, _⟩ := I.tuple (.inl r); simp [eqT] at e; subst e; exact SeqAt.EqAt.none_tuple p (by omega)
    | lst ys => obtain ⟨c, xs, rfl, _, _, r, _⟩ := h2; cases r2; obtain ⟨its, _, p, _⟩ := I.list (.inl r); simp [eqT] at e; subst e; exact SeqAt.EqAt.none_list p.isList (by omega)
    | _ => simp [eqT] at e
  | .tup ts, u, v0, w, a, b, k, A, h1, h2, r1, r2, e, hu => by
    cases u with
    | tup us =>
      have hs := fun (q : w = v0) => den_same h1 (q ▸ h2) e
      obtain ⟨c, xs, rfl, _, _, r, l⟩ := h1
      obtain ⟨d, ys, rfl, _, _, r', l'⟩ := h2
      cases r1; cases r2
      by_cases hcd : c = d
      · subst hcd
        rw [hs rfl]
        exact SeqAt.EqAt.same _
      · refine SeqAt.EqAt.of_refs hcd ?_
        exact rcAt_tup I l l' r r' (by simpa [eqT] using e) (by simp only [depT] at hu; omega)
    | lst us =>
      obtain ⟨c, xs, rfl, _, _, r, l⟩ := h1
      obtain ⟨d, ys, rfl, _, _, r', l'⟩ := h2
      cases r1; cases r2
      obtain ⟨_, _, p, _⟩ := I.tuple (.inl r)
      obtain ⟨_, _, p', _⟩ := I.list (.inl r')
      simp [eqT] at e; subst e
      exact SeqAt.EqAt.tuple_list p p'.isList (by omega)
    | int j => have h2 : w = V.int j := h2; subst h2; obtain ⟨t2, rfl⟩ := r2; obtain ⟨c, xs, rfl, _, _, r, _⟩ := h1; cases r1; obtain ⟨its, _, p, _⟩ := I.tuple (.inl r); simp [eqT] at e; subst e; exact SeqAt.EqAt.tuple_int _ _ p (by omega)
    | bl j => have h2 : w = V.bl j := h2; subst h2; cases r2; obtain ⟨c, xs, rfl, _, _, r, _⟩ := h1; cases r1; obtain ⟨its, _, p, _⟩ := I.tuple (.inl r); simp [eqT] at e; subst e; exact SeqAt.EqAt.tuple_bool _ p (by omega)
    | str j => have h2 : w = V.str j := h2; subst h2; obtain ⟨t2, rfl⟩ := r2; obtain ⟨c, xs, rfl, _, _, r, _⟩ := h1; cases r1; obtain ⟨its, _, p, _⟩ := I.tuple (.inl r); simp [eqT] at e; subst e; exact SeqAt.EqAt.tuple_str _ _ p (by omega)
    | non => have h2 : w = V.non := h2; subst h2; cases r2; obtain ⟨c, xs, rfl, _, _, r, _⟩ := h1; cases r1; obtain ⟨its, _, p, _⟩ := I.tuple (.inl r); simp [eqT] at e; subst e; exact SeqAt.EqAt.tuple_none p (by omega)
    | _ => simp [eqT] at e
  | .lst ts, u, v0, w, a, b, k, A, h1, h2, r1, r2, e, hu => by
    cases u with
    | lst us =>
      have hs := fun (q : w = v0) => den_same h1 (q ▸ h2) e
      obtain ⟨c, xs, rfl, _, _, r, l⟩ := h1
      obtain ⟨d, ys, rfl, _, _, r', l'⟩ := h2
      cases r1; cases r2
      by_cases hcd : c = d
      · subst hcd
        rw [hs rfl]
        exact SeqAt.EqAt.same _
      · refine SeqAt.EqAt.of_refs hcd ?_
        exact rcAt_lst I l l' r r' (by simpa [eqT] using e) (by simp only [depT] at hu; omega)
    | tup us =>
      obtain ⟨c, xs, rfl, _, _, r, l⟩ := h1
      obtain ⟨d, ys, rfl, _, _, r', l'⟩ := h2
      cases r1; cases r2
      obtain ⟨_, _, p, _⟩ := I.list (.inl r)
      obtain ⟨_, _, p', _⟩ := I.tuple (.inl r')
      simp [eqT] at e; subst e
      exact SeqAt.EqAt.list_tuple p.isList p' (by omega)
    | int j => have h2 : w = V.int j := h2; subst h2; obtain ⟨t2, rfl⟩ := r2; obtain ⟨c, xs, rfl, _, _, r, _⟩ := h1; cases r1; obtain ⟨its, _, p, _⟩ := I.list (.inl r); simp [eqT] at e; subst e; exact SeqAt.EqAt.list_int _ _ p.isList (by omega)
    | bl j => have h2 : w = V.bl j := h2; subst h2; cases r2; obtain ⟨c, xs, rfl, _, _, r, _⟩ := h1; cases r1; obtain ⟨its, _, p, _⟩ := I.list (.inl r); simp [eqT] at e; subst e; exact SeqAt.EqAt.list_bool _ p.isList (by omega)
    | str j => have h2 : w = V.str j := h2; subst h2; obtain ⟨t2, rfl⟩ := r2; obtain ⟨c, xs, rfl, _, _, r, _⟩ := h1; cases r1; obtain ⟨its, _, p, _⟩ := I.list (.inl r); simp [eqT] at e; subst e; exact SeqAt.EqAt.list_str _ _ p.isList (by omega)
    | non => have h2 : w = V.non := h2; subst h2; cases r2; obtain ⟨c, xs, rfl, _, _, r, _⟩ := h1; cases r1; obtain ⟨its, _, p, _⟩ := I.list (.inl r); simp [eqT] at e; subst e; exact SeqAt.EqAt.list_none p.isList (by omega)
    | _ => simp [eqT] at e
  | .obj _ _, _, _, _, _, _, _, _, _, _, _, _, e, _ => by simp [eqT] at e
  | .mut _, _, _, _, _, _, _, _, _, _, _, _, e, _ => by simp [eqT] at e
  | .exc _, _, _, _, _, _, _, _, _, _, _, _, e, _ => by simp [eqT] at e
theorem eqAt_items (I : Inv X pins σ H s) : ∀ {ts us : List T} {xs ys : List V} {its its2 : List Value} {A : Around}, DenL D φ α H ts xs → DenL D φ α H us ys → Vals xs its → Vals ys its2 → A.units + depL ts + 1 < cLine →
    ∀ (j : Nat) (h1 : j < its.length) (h2 : j < its2.length), (∀ (g1 : j < ts.length) (g2 : j < us.length), ∃ b, eqT ts[j] us[j] = some b) → SeqAt.EqAt A s its[j] its2[j] (match ts[j]?, us[j]? with | some t, some u => (eqT t u).getD false | _, _ => false)
  | [], _, xs, _, its, _, A, l, _, rv, _, _, j, h1, _, _ => by
    have l : xs = [] := l
    subst l
    cases rv
    simp at h1
  | t :: ts, us, xs, ys, its, its2, A, l, l', rv, rv', hu, j, h1, h2, g => by
    obtain ⟨v, r, rfl, d1, l⟩ := l
    cases rv with
    | @cons _ u0 _ us0 r0 rv =>
    cases us with
    | nil =>
      have l' : ys = [] := l'
      subst l'
      cases rv'
      simp at h2
    | cons u us =>
      obtain ⟨w, r', rfl, d2, l'⟩ := l'
      cases rv' with
      | @cons _ u0' _ us0' r0' rv' =>
      simp only [depL] at hu
      cases j with
      | zero =>
        obtain ⟨b, hb⟩ := g (by simp) (by simp)
        have hb' : eqT t u = some b := by simpa using hb
        simp only [List.getElem?_cons_zero, hb', Option.getD_some, List.getElem_cons_zero]
        exact eqAt_tree I d1 d2 r0 r0' hb' (by omega)
      | succ j =>
        simp only [List.getElem?_cons_succ, List.getElem_cons_succ]
        exact eqAt_items I l l' rv rv' (by omega) j (by simpa using h1) (by simpa using h2) fun g1 g2 => by
          obtain ⟨b, hb⟩ := g (by simpa using g1) (by simpa using g2)
          exact ⟨b, by simpa using hb⟩
theorem rcAt_tup (I : Inv X pins σ H s) {ts us : List T} {xs ys : List V} {c d : Addr} {k : Bool} {A : Around} (l : DenL D φ α H ts xs) (l' : DenL D φ α H us ys) (r : Rd H c (.tup xs)) (r' : Rd H d (.tup ys)) (e : eqL ts us = some k) (hu : A.units + depL ts + 2 < cLine) : SeqAt.RcAt A s (.ref c) (.ref d) k := by
  obtain ⟨its, rv, p, _⟩ := I.tuple (.inl r)
  obtain ⟨its2, rv', p', _⟩ := I.tuple (.inl r')
  obtain ⟨g, rfl⟩ := eqL_at e
  have h1 : ts.length = its.length := l.length.trans rv.length
  have h2 : us.length = its2.length := l'.length.trans rv'.length
  have := SeqAt.RcAt.tuples (A := A) (e := fun j => match ts[j]?, us[j]? with | some t, some u => (eqT t u).getD false | _, _ => false) p p' (by omega) fun j q1 q2 => by
    have := eqAt_items (A := A.in1) I l l' rv rv' (by rw [in1_units]; omega) j (by simpa using q1) (by simpa using q2) fun g1 g2 => g j g1 g2
    simpa using this
  simpa [h1, h2] using this
theorem rcAt_lst (I : Inv X pins σ H s) {ts us : List T} {xs ys : List V} {c d : Addr} {k : Bool} {A : Around} (l : DenL D φ α H ts xs) (l' : DenL D φ α H us ys) (r : Rd H c (.lst xs)) (r' : Rd H d (.lst ys)) (e : eqL ts us = some k) (hu : A.units + depL ts + 2 < cLine) : SeqAt.RcAt A s (.ref c) (.ref d) k := by
  obtain ⟨its, rv, p, _⟩ := I.list (.inl r)
  obtain ⟨its2, rv', p', _⟩ := I.list (.inl r')
  obtain ⟨g, rfl⟩ := eqL_at e
  have h1 : ts.length = its.length := l.length.trans rv.length
  have h2 : us.length = its2.length := l'.length.trans rv'.length
  by_cases hl : ts.length = us.length
  · have := SeqAt.RcAt.lists (A := A) (e := fun j => match ts[j]?, us[j]? with | some t, some u => (eqT t u).getD false | _, _ => false) p.isList p'.isList (by simp; omega) (by omega) fun j q1 q2 => by
      have := eqAt_items (A := A.in1) I l l' rv rv' (by rw [in1_units]; omega) j (by simpa using q1) (by simpa using q2) fun g1 g2 => g j g1 g2
      simpa using this
    have e2 : min ts.length us.length = its.length := by omega
    have e3 : (ts.length == us.length) = true := by simpa using hl
    rw [e2, e3, Bool.and_true]
    simpa using this
  · have e3 : (ts.length == us.length) = false := by simpa using hl
    rw [e3, Bool.and_false]
    exact SeqAt.RcAt.lists_lengths p.isList p'.isList (by simp; omega) (by omega)
end
theorem rcNe_tup (I : Inv X pins σ H s) {ts us : List T} {xs ys : List V} {c d : Addr} {k : Bool} {A : Around} (l : DenL D φ α H ts xs) (l' : DenL D φ α H us ys) (r : Rd H c (.tup xs)) (r' : Rd H d (.tup ys)) (e : eqL ts us = some k) (hu : A.units + depL ts + 2 < cLine) : SeqAt.RcNeAt A s (.ref c) (.ref d) (!k) := by
  obtain ⟨its, rv, p, _⟩ := I.tuple (.inl r)
  obtain ⟨its2, rv', p', _⟩ := I.tuple (.inl r')
  obtain ⟨g, rfl⟩ := eqL_at e
  have h1 : ts.length = its.length := l.length.trans rv.length
  have h2 : us.length = its2.length := l'.length.trans rv'.length
  have := SeqAt.RcNeAt.tuples (A := A) (e := fun j => match ts[j]?, us[j]? with | some t, some u => (eqT t u).getD false | _, _ => false) p p' (by omega) fun j q1 q2 => by
    have := eqAt_items (A := A.in1) I l l' rv rv' (by rw [in1_units]; omega) j (by simpa using q1) (by simpa using q2) fun g1 g2 => g j g1 g2
    simpa using this
  simpa [h1, h2] using this
theorem rcNe_lst (I : Inv X pins σ H s) {ts us : List T} {xs ys : List V} {c d : Addr} {k : Bool} {A : Around} (l : DenL D φ α H ts xs) (l' : DenL D φ α H us ys) (r : Rd H c (.lst xs)) (r' : Rd H d (.lst ys)) (e : eqL ts us = some k) (hu : A.units + depL ts + 2 < cLine) : SeqAt.RcNeAt A s (.ref c) (.ref d) (!k) := by
  obtain ⟨its, rv, p, _⟩ := I.list (.inl r)
  obtain ⟨its2, rv', p', _⟩ := I.list (.inl r')
  obtain ⟨g, rfl⟩ := eqL_at e
  have h1 : ts.length = its.length := l.length.trans rv.length
  have h2 : us.length = its2.length := l'.length.trans rv'.length
  by_cases hl : ts.length = us.length
  · have := SeqAt.RcNeAt.lists (A := A) (e := fun j => match ts[j]?, us[j]? with | some t, some u => (eqT t u).getD false | _, _ => false) p.isList p'.isList (by simp; omega) (by omega) fun j q1 q2 => by
      have := eqAt_items (A := A.in1) I l l' rv rv' (by rw [in1_units]; omega) j (by simpa using q1) (by simpa using q2) fun g1 g2 => g j g1 g2
      simpa using this
    have e2 : min ts.length us.length = its.length := by omega
    have e3 : (ts.length == us.length) = true := by simpa using hl
    rw [e2, e3, Bool.and_true]
    simpa using this
  · have e3 : (ts.length == us.length) = false := by simpa using hl
    rw [e3, Bool.and_false]
    exact SeqAt.RcNeAt.lists_lengths p.isList p'.isList (by simp; omega) (by omega)
end
end NH
end
section
set_option linter.all false
set_option maxRecDepth 100000
set_option maxHeartbeats 4000000
namespace NH
open PySem PySem.Spec PyProof.Rows L2

/-- what a def promises, by what it is worth -/
def spM (D : DP) (f : List T → Mem → RE T) : Sp := fun vs H Q E => ∃ φ α ts μ, DenL D φ α H ts vs ∧ MRel D φ α H μ ∧ Post D (wOf E) φ α H [] (fun t _ α' H' => ∀ v, Den D φ α' H' t v → Q v H') (f ts μ)
/-- .. with so many arguments -/
def spN (D : DP) (n : Nat) (f : List T → Mem → RE T) : Sp := fun vs H Q E => vs.length = n ∧ spM D f vs H Q E

/-- the type of a thing, as the deciders take it -/
def TyNm (D : DP) (t : Str) (u : Value) : Prop :=
  (t = "NoneType" ∧ u = .type "NoneType") ∨ (t = "bool" ∧ u = .type "bool") ∨ (t = "int" ∧ u = .type "int") ∨ (t = "str" ∧ u = .type "str") ∨ (t = "tuple" ∧ u = .type "tuple") ∨ (t = "list" ∧ u = .type "list") ∨ ∃ C, D.adr t = some C ∧ u = .ref C
/-- the value of a class's name -/
def ClValM (mg : Str → Option Value) (c : Str) (u : Value) : Prop := mg c = some u ∨ (mg c = none ∧ bootBuiltins c = some u ∧ c ≠ "__name__")
abbrev ClVal (X : Cx) (c : Str) (u : Value) : Prop := ClValM X.mg c u

/-- a class as a value -/
def ClsV (v : V) (u : Value) : Prop := (∃ C, v = .ref C ∧ u = .ref C) ∨ ∃ n, v = .ty n ∧ u = .type n
theorem ClsV.rel {v : V} {u : Value} (h : ClsV v u) : L2.RelV v u := by
  rcases h with ⟨C, rfl, rfl⟩ | ⟨n, rfl, rfl⟩ <;> rfl
theorem ClsV.only {v : V} {u u' : Value} (h : ClsV v u) (r : L2.RelV v u') : u' = u := by
  rcases h with ⟨C, rfl, rfl⟩ | ⟨n, rfl, rfl⟩ <;> exact r
/-- an exception's class, as far as isinstance asks -/
structure XCls (K : PySem.W.Frag) (C : Addr) : Prop where
  ga : PySem.W.findIn K (.ref C) "__getattribute__" = some (some (.builtin "BaseException.__getattribute__"))
  hk : PySem.W.findIn K (.ref C) "__getattr__" = some none
  fo : PySem.W.findObj K C none "__class__" = some (.bind (.builtin "getset_descriptor.__get__") (.builtin "object.__class__"))
  ob : PySem.W.mroIn K C (.type "object") = some true
  bx : PySem.W.mroIn K C (.type "BaseException") = some true
  cl : (PySem.W.clsIn K C).isSome = true
/-- bmB, newId of ValueError -/
abbrev veMro : List Value := [.type "ValueError", .type "Exception", .type "BaseException", .type "object"]

/-- what a global name stands for, in the text -/
def GlOkM (D : DP) (P : Program) (w : World) (K : PySem.W.Frag) (mg : Str → Option Value) (base : Heap) (k : Nat) (x : Str) : GM → Prop
  | .fn f => ∃ fa fd ps kk, mg x = some (.ref fa) ∧ PySem.W.keepIn K (.ref fa) = true ∧ Binds K fd ps [] ∧ kk ≤ k ∧ FnOk P w K mg base (CX1 P w) kk fa fd ps (spN D ps.length f) ∧ ∀ ts μ, ts.length ≠ ps.length → f ts μ = .st
  | .mk c f => ∃ C fI fd ps kk, D.adr c = some C ∧ mg x = some (.ref C) ∧ Mk K C fI ∧ Binds K fd ps [] ∧ kk + 1 ≤ k ∧ FnOk P w K mg base (CX1 P w) kk fI fd ps (spN D ps.length f) ∧ ∀ ts μ, ts.length ≠ ps.length → f ts μ = .st
  | .cst t => ∃ u v, mg x = some u ∧ RelV v u ∧ ∀ φ α H, Den D φ α H t v
  | .xcl => ∃ C, D.adr x = some C ∧ mg x = some (.ref C) ∧ PySem.W.excIn K C veMro "ValueError.__new__" = true
  | .none => mg x = none
  | .bad => True
/-- .. in X -/
abbrev GlOk (D : DP) (X : Cx) (k : Nat) (x : Str) (g : GM) : Prop := GlOkM D X.prog X.w X.K X.mg X.base k x g

/-- the context of a def's body (or of a comprehension's block) -/
structure Ck (D : DP) (W : XW) (Γ : Cn) (X : Cx) (k : Nat) : Prop where
  hK : X.K = D.K
  hN : X.N = Γ.N
  nd : Γ.N.Nodup
  vis : ∀ x ∈ Γ.N, Vis X.env.scope x
  dbg : ∀ x ∈ Γ.N, (x == ("__debug__" : Str)) = false ∧ (x == ("__classdict__" : Str)) = false
  dbG : ∀ x ∈ Γ.G, (x == ("__debug__" : Str)) = false
  glb : ∀ x ∈ Γ.G, Gl X x
  glo : ∀ x ∈ Γ.G, GlOk D X k x (Γ.gl x)
  glU : ∀ x ∈ Γ.U, GlOk D X k x (Γ.gl x) ∧ (x == ("__debug__" : Str)) = false
  cel : ∀ x ∈ Γ.cel, X.env.kindOf x = some .cell ∨ X.env.kindOf x = some .free
  isi : ∀ t c b, Γ.isin t c = some b → ∀ u v, TyNm D t u → ClVal X c v → PySem.W.kitOne X.K u v = some b
  fld : ∀ c C f, (Γ.flds c).contains f = true → D.adr c = some C → Cls X.K C ∧ NoAttr X.K C f
  xcx : ∀ c C, Γ.xcs.contains c = true → D.adr c = some C → XCls X.K C
  clv : ∀ c, Γ.cls.contains c = true → ∃ u v, ClVal X c u ∧ ClsV v u
  clm : Γ.calm = true → X.calm = true
  rom : Γ.calm = true → Room k X.A
  unt : X.A.units + 64 < cLine
  xe : ∀ e s, XP X W e s → X.xe e s
  frm : ∃ e0 out L, Frm X e0 out L

theorem idx_get : ∀ {N : List Str} {x : Str} {i : Nat}, idx N x = some i → N[i]? = some x
  | [], _, _, h => by simp [idx] at h
  | y :: r, x, i, h => by
    simp only [idx] at h
    split at h
    · rename_i e; cases h; simp [e]
    · cases q : idx r x with
      | none => rw [q] at h; cases h
      | some j => rw [q] at h; cases h; simpa using idx_get q
theorem idx_mem {N : List Str} {x : Str} {i : Nat} (h : idx N x = some i) : x ∈ N := List.mem_of_getElem? (idx_get h)

section
variable {X : Cx} {D : DP} {W : XW} {Γ : Cn} {k : Nat} {pins : List (Addr × Obj)} {s : Shared} {σ : St} {H : Hp} {φ α : List Addr} {τ : Sl} {μ : Mem} {f g h : Sl → Mem → RE T} {a b c : Expr} {pos : Pos}

theorem se_st {e : Expr} : PE X e (rdE D W fun _ _ => .st) := fun _ _ _ _ _ _ ⟨_, _, _, _, _, _, p⟩ => p.elim
theorem PE.mono {e : Expr} {t t' : TE} (h : PE X e t) (m : ∀ σ H Q, t' σ H Q → t σ H Q) : PE X e t' := fun pins s σ H Q I q => h pins s σ H Q I (m σ H Q q)

/-! ### constants and names -/
theorem se_int {i j pos} : PE X (.Constant (.int i) j pos) (rdE D W fun _ μ => .ok (.int i) μ) := PE.mono pe_int fun σ H Q ⟨φ, α, τ, μ, sr, mr, p⟩ => p.here mr rfl
theorem se_bl {i j pos} : PE X (.Constant (.bool i) j pos) (rdE D W fun _ μ => .ok (.bl i) μ) := PE.mono pe_bl fun σ H Q ⟨φ, α, τ, μ, sr, mr, p⟩ => p.here mr rfl
theorem se_non {j pos} : PE X (.Constant .none j pos) (rdE D W fun _ μ => .ok .non μ) := PE.mono pe_non fun σ H Q ⟨φ, α, τ, μ, sr, mr, p⟩ => p.here mr rfl
theorem se_str {i j pos} : PE X (.Constant (.str i) j pos) (rdE D W fun _ μ => .ok (.str i) μ) := PE.mono pe_str fun σ H Q ⟨φ, α, τ, μ, sr, mr, p⟩ => p.here mr rfl
theorem se_var (C : Ck D W Γ X k) {x : Str} {i : Nat} (hi : idx Γ.N x = some i) : PE X (.Name x pos) (rdE D W fun τ μ => match τ[i]? with | some (some t) => .ok t μ | _ => .st) := by
  refine PE.mono (pe_var (i := i) (by rw [C.hN]; exact idx_get hi) (C.vis x (idx_mem hi)) (C.dbg x (idx_mem hi)).1 (C.dbg x (idx_mem hi)).2) ?_
  rintro σ H Q ⟨φ, α, τ, μ, sr, mr, p⟩
  dsimp only at p
  split at p
  · rename_i t e
    obtain ⟨v, q, d⟩ := sr.val i t e
    exact ⟨v, q, p.here mr d⟩
  · exact p.elim
theorem se_cst (C : Ck D W Γ X k) {x : Str} {t : T} (hx : x ∈ Γ.G) (ht : Γ.gl x = .cst t) : PE X (.Name x pos) (rdE D W fun _ μ => .ok t μ) := by
  have g := C.glo x hx
  rw [ht] at g
  obtain ⟨u, v, hm, r, d⟩ := g
  exact PE.mono (pe_glob (C.glb x hx) hm r (C.dbG x hx)) fun σ H Q ⟨φ, α, τ, μ, sr, mr, p⟩ => p.here mr (d _ _ _)

/-! ### operators -/
theorem se_bin {op : Operator} (ha : PE X a (rdE D W f)) (hb : PE X b (rdE D W g)) : PE X (.BinOp a op b pos) (rdE D W fun τ μ => (f τ μ).bind fun x μ1 => (g τ μ1).bind fun y μ2 => binT op x y μ2) := by
  rintro pins s σ H Q I ⟨φ, α, τ, μ, sr, mr, p⟩
  refine wpAny_BinOp (thn (sub ha I sr mr p) ?_)
  rintro u s1 ⟨v, H1, t, μ1, α1, I1, r1, st1, sr1, mr1, d1, p1⟩
  refine thn (sub hb I1 sr1 mr1 p1) ?_
  rintro u' s2 ⟨v', H2, t', μ2, α2, I2, r2, st2, sr2, mr2, d2, p2⟩
  exact op_bin I2 mr2 (d1.step st2) d2 r1 r2 p2
theorem se_neg (ha : PE X a (rdE D W f)) : PE X (.UnaryOp .USub a pos) (rdE D W fun τ μ => (f τ μ).bind fun x μ1 => (match x with | .int i => .ok (.int (-i)) μ1 | _ => .st)) := by
  rintro pins s σ H Q I ⟨φ, α, τ, μ, sr, mr, p⟩
  refine UnaryOp_ (thn (sub ha I sr mr p) ?_)
  rintro u s1 ⟨v, H1, t, μ1, α1, I1, r1, st1, sr1, mr1, d1, p1⟩
  try dsimp only at p1
  split at p1
  · cases d1
    exact un_neg pins s1 σ H1 _ _ Q I1 r1 ⟨_, rfl, p1.here mr1 rfl⟩
  · exact p1.elim
theorem se_not (ha : PE X a (rdE D W f)) : PE X (.UnaryOp .Not a pos) (rdE D W fun τ μ => (f τ μ).bind fun x μ1 => (match x with | .bl b => .ok (.bl (!b)) μ1 | _ => .st)) := by
  rintro pins s σ H Q I ⟨φ, α, τ, μ, sr, mr, p⟩
  refine UnaryOp_ (thn (sub ha I sr mr p) ?_)
  rintro u s1 ⟨v, H1, t, μ1, α1, I1, r1, st1, sr1, mr1, d1, p1⟩
  try dsimp only at p1
  split at p1
  · rename_i b
    cases d1
    cases r1
    exact not_of (wpAny_truthy_bool ⟨.bl (!b), H1, I1, rfl, p1.here mr1 rfl⟩)
  · exact p1.elim
theorem se_one {op : BoolOp} (ha : PE X a (rdE D W f)) : PE X (.BoolOp op [a] pos) (rdE D W f) := pe_one ha
theorem se_and {r : List Expr} (ha : PE X a (rdE D W f)) (hb : PE X (.BoolOp .And (b :: r) pos) (rdE D W g)) : PE X (.BoolOp .And (a :: b :: r) pos) (rdE D W fun τ μ => (f τ μ).bind fun x μ1 => (match x with
      | .bl true => g τ μ1
      | .bl false => .ok (.bl false) μ1
      | _ => .st)) := by
  rintro pins s σ H Q I ⟨φ, α, τ, μ, sr, mr, p⟩
  refine BoolOp_and (thn (sub ha I sr mr p) ?_)
  rintro u s1 ⟨v, H1, t, μ1, α1, I1, r1, st1, sr1, mr1, d1, p1⟩
  try dsimp only at p1
  split at p1
  · cases d1
    cases r1
    exact wpAny_truthy_bool (hb pins s1 σ H1 Q I1 ⟨φ, α1, τ, μ1, sr1, mr1, p1⟩)
  · cases d1
    cases r1
    exact wpAny_truthy_bool ⟨.bl false, H1, I1, rfl, p1.here mr1 rfl⟩
  · exact p1.elim
theorem se_or {r : List Expr} (ha : PE X a (rdE D W f)) (hb : PE X (.BoolOp .Or (b :: r) pos) (rdE D W g)) : PE X (.BoolOp .Or (a :: b :: r) pos) (rdE D W fun τ μ => (f τ μ).bind fun x μ1 => (match x with
      | .bl false => g τ μ1
      | .bl true => .ok (.bl true) μ1
      | _ => .st)) := by
  rintro pins s σ H Q I ⟨φ, α, τ, μ, sr, mr, p⟩
  refine BoolOp_or (thn (sub ha I sr mr p) ?_)
  rintro u s1 ⟨v, H1, t, μ1, α1, I1, r1, st1, sr1, mr1, d1, p1⟩
  try dsimp only at p1
  split at p1
  · cases d1
    cases r1
    exact wpAny_truthy_bool (hb pins s1 σ H1 Q I1 ⟨φ, α1, τ, μ1, sr1, mr1, p1⟩)
  · cases d1
    cases r1
    exact wpAny_truthy_bool ⟨.bl true, H1, I1, rfl, p1.here mr1 rfl⟩
  · exact p1.elim

/-! ### comparisons -/
theorem scT_ok {x y : T} {v w : V} {b : Bool} (d1 : Den D φ α H x v) (d2 : Den D φ α H y w) (h : scT x y = some b) : scal v w = true ∧ decide (v = w) = b := by
  unfold scT at h
  split at h <;> first
    | (cases h; cases d1; cases d2; exact ⟨rfl, by simp⟩)
    | cases h
theorem op_cmp {op : CmpOp} {x y : T} {v w : V} {u1 u2 : Value} {Q : VK} (I : Inv X pins σ H s) (hu : X.A.units + 64 < cLine) (mr : MRel D φ α H μ) (d1 : Den D φ α H x v) (d2 : Den D φ α H y w) (r1 : RelV v u1) (r2 : RelV w u2)
    (p : Post D W φ α H σ (RV D φ Q) (cmpT op x y μ)) : wpAny (model X.prog X.w) X.A (compareOp op u1 u2) (EP X pins σ Q) X.xe s := by
  unfold cmpT at p
  split at p
  · split at p
    · rename_i b hb
      have q := p.here mr rfl
      unfold topEq at hb
      split at hb
      · split at hb
        · obtain ⟨c, vs, rfl, _, _, r, l⟩ := d1
          obtain ⟨d, ws, rfl, _, _, r', l'⟩ := d2
          cases r1; cases r2
          exact rcAt_tup I l l' r r' hb (by omega) _ _ _ _ ⟨.bl b, H, I, rfl, q⟩
        · cases hb
      · split at hb
        · obtain ⟨c, vs, rfl, _, _, r, l⟩ := d1
          obtain ⟨d, ws, rfl, _, _, r', l'⟩ := d2
          cases r1; cases r2
          exact rcAt_lst I l l' r r' hb (by omega) _ _ _ _ ⟨.bl b, H, I, rfl, q⟩
        · cases hb
      · obtain ⟨s1, s2⟩ := scT_ok d1 d2 hb
        exact op_eq pins s σ H v w u1 u2 Q I r1 r2 ⟨s1, by rw [s2]; exact q⟩
    · exact p.elim
  · split at p
    · rename_i b hb
      have q := p.here mr rfl
      unfold topEq at hb
      split at hb
      · split at hb
        · obtain ⟨c, vs, rfl, _, _, r, l⟩ := d1
          obtain ⟨d, ws, rfl, _, _, r', l'⟩ := d2
          cases r1; cases r2
          exact rcNe_tup I l l' r r' hb (by omega) _ _ _ _ ⟨.bl (!b), H, I, rfl, q⟩
        · cases hb
      · split at hb
        · obtain ⟨c, vs, rfl, _, _, r, l⟩ := d1
          obtain ⟨d, ws, rfl, _, _, r', l'⟩ := d2
          cases r1; cases r2
          exact rcNe_lst I l l' r r' hb (by omega) _ _ _ _ ⟨.bl (!b), H, I, rfl, q⟩
        · cases hb
      · obtain ⟨s1, s2⟩ := scT_ok d1 d2 hb
        exact op_ne pins s σ H v w u1 u2 Q I r1 r2 ⟨s1, by rw [s2]; exact q⟩
    · exact p.elim
  · split at p
    · rename_i b hb
      unfold ltT at hb
      split at hb
      · cases d1; cases d2; cases hb
        exact op_lt pins s σ H _ _ u1 u2 Q I r1 r2 ⟨_, _, rfl, rfl, p.here mr rfl⟩
      · split at hb
        · rename_i ns ms h1 h2
          cases hb
          obtain ⟨a, vs, rfl, _, _, q1, l1⟩ := d1
          obtain ⟨c, ws, rfl, _, _, q2, l2⟩ := d2
          rw [intsOf_den h1 l1] at q1
          rw [intsOf_den h2 l2] at q2
          exact op_ltT (by omega) pins s σ H _ _ u1 u2 Q I r1 r2 ⟨a, c, ns, ms, rfl, rfl, .inl q1, .inl q2, p.here mr rfl⟩
        · cases hb
      · cases hb
    · exact p.elim
  · split at p
    · cases d1; cases d2
      exact op_le pins s σ H _ _ u1 u2 Q I r1 r2 ⟨_, _, rfl, rfl, p.here mr rfl⟩
    · exact p.elim
  · split at p
    · cases d1; cases d2
      exact op_gt pins s σ H _ _ u1 u2 Q I r1 r2 ⟨_, _, rfl, rfl, p.here mr rfl⟩
    · exact p.elim
  · split at p
    · cases d1; cases d2
      exact op_ge pins s σ H _ _ u1 u2 Q I r1 r2 ⟨_, _, rfl, rfl, p.here mr rfl⟩
    · exact p.elim
  · split at p
    · cases d2
      refine op_isN pins s σ H _ _ u1 u2 Q I r1 r2 ⟨rfl, ?_⟩
      have q := p.here mr rfl
      cases x <;> first
        | (have d1 : v = _ := d1; subst d1; simpa using q)
        | (obtain ⟨_, _, rfl, _⟩ := d1; simpa using q)
        | (obtain ⟨_, _, _, _, rfl, _⟩ := d1; simpa using q)
        | (obtain ⟨_, _, rfl⟩ := d1; simpa using q)
    · exact p.elim
  · split at p
    · cases d2
      refine op_notN pins s σ H _ _ u1 u2 Q I r1 r2 ⟨rfl, ?_⟩
      have q := p.here mr rfl
      cases x <;> first
        | (have d1 : v = _ := d1; subst d1; simpa using q)
        | (obtain ⟨_, _, rfl, _⟩ := d1; simpa using q)
        | (obtain ⟨_, _, _, _, rfl, _⟩ := d1; simpa using q)
        | (obtain ⟨_, _, rfl⟩ := d1; simpa using q)
    · exact p.elim
  · split at p
    · have d1 : v = .str _ := d1
      have d2 : w = .str _ := d2
      subst d1 d2
      exact op_in_str pins s σ H _ _ u1 u2 Q I r1 r2 ⟨_, _, rfl, rfl, p.here mr rfl⟩
    · exact p.elim
  · split at p
    · have d1 : v = .str _ := d1
      have d2 : w = .str _ := d2
      subst d1 d2
      exact op_notin_str pins s σ H _ _ u1 u2 Q I r1 r2 ⟨_, _, rfl, rfl, p.here mr rfl⟩
    · exact p.elim
theorem mark_of {op : CmpOp} {b : Expr} (h : okCmp op b = true) : behindInMarks op b = false := by
  cases hp : plainCmp op with
  | true => exact nomark b (by rintro rfl; simp [plainCmp] at hp) (by rintro rfl; simp [plainCmp] at hp)
  | false =>
    have hb : plainIn b = true := by unfold okCmp at h; rw [hp] at h; exact h
    cases b with
    | Name x p => cases op <;> with_unfolding_all rfl
    | Constant c k p => cases c <;> first | (simp [plainIn] at hb; done) | (cases op <;> with_unfolding_all rfl)
    | _ => simp [plainIn] at hb
theorem se_cmp (C : Ck D W Γ X k) {op : CmpOp} (ho : okCmp op b = true) (ha : PE X a (rdE D W f)) (hb : PE X b (rdE D W g)) : PE X (.Compare a [op] [b] pos) (rdE D W fun τ μ => (f τ μ).bind fun x μ1 => (g τ μ1).bind fun y μ2 => cmpT op x y μ2) := by
  rintro pins s σ H Q I ⟨φ, α, τ, μ, sr, mr, p⟩
  refine wpAny_Compare1 (thn (sub ha I sr mr p) ?_) (mark_of ho)
  rintro u s1 ⟨v, H1, t, μ1, α1, I1, r1, st1, sr1, mr1, d1, p1⟩
  refine thn (sub hb I1 sr1 mr1 p1) ?_
  rintro u' s2 ⟨v', H2, t', μ2, α2, I2, r2, st2, sr2, mr2, d2, p2⟩
  exact op_cmp I2 C.unt mr2 (d1.step st2) d2 r1 r2 p2
/-- one comparison, its answer kept -/
theorem op_cmp' {op : CmpOp} {β : Type} {R : β → Mem → List Addr → Hp → Prop} {kk : T → Mem → RE β} {x y : T} {v w : V} {u1 u2 : Value} (I : Inv X pins σ H s) (hu : X.A.units + 64 < cLine) (mr : MRel D φ α H μ) (d1 : Den D φ α H x v) (d2 : Den D φ α H y w) (r1 : RelV v u1) (r2 : RelV w u2)
    (p : Post D W φ α H σ R ((cmpT op x y μ).bind kk)) : wpAny (model X.prog X.w) X.A (compareOp op u1 u2) (EP X pins σ fun z H1 => ∃ t μ1 α1, Stp α H α1 H1 ∧ MRel D φ α1 H1 μ1 ∧ Den D φ α1 H1 t z ∧ Post D W φ α1 H1 σ R (kk t μ1)) X.xe s :=
  op_cmp I hu mr d1 d2 r1 r2 (p.bind.mono fun t μ' α' H' st m q v d => ⟨t, μ', α', st, m, d, q⟩)
theorem lastMarks_of {op op' : CmpOp} (h : bySize op = true) (h' : bySize op' = true) (b c : Expr) : lastMarks [op, op'] [b, c] = false := by
  have q : behindInMarks op' c = false := nomark c (by rintro rfl; simp [bySize] at h') (by rintro rfl; simp [bySize] at h')
  first | exact q | (unfold lastMarks; simpa using q) | simpa [lastMarks] using q
theorem se_chain (C : Ck D W Γ X k) {op op' : CmpOp} (ho : bySize op = true) (ho' : bySize op' = true) (ha : PE X a (rdE D W f)) (hb : PE X b (rdE D W g)) (hc : PE X c (rdE D W h)) : PE X (.Compare a [op, op'] [b, c] pos) (rdE D W fun τ μ => (f τ μ).bind fun x μ1 => (g τ μ1).bind fun y μ2 => (cmpT op x y μ2).bind fun k μ3 => (match k with
      | .bl true => (h τ μ3).bind fun z μ4 => cmpT op' y z μ4
      | .bl false => .ok (.bl false) μ3
      | _ => .st)) := by
  rintro pins s σ H Q I ⟨φ, α, τ, μ, sr, mr, p⟩
  refine Compare_chain (thn (sub ha I sr mr p) ?_) (lastMarks_of ho ho' b c)
  rintro u s1 ⟨v, H1, t, μ1, α1, I1, r1, st1, sr1, mr1, d1, p1⟩
  refine chain_link (thn (sub hb I1 sr1 mr1 p1) ?_)
  rintro u' s2 ⟨v', H2, t', μ2, α2, I2, r2, st2, sr2, mr2, d2, p2⟩
  refine thn (op_cmp' I2 C.unt mr2 (d1.step st2) d2 r1 r2 p2) ?_
  rintro d s3 ⟨z, H3, I3, r3, t3, μ3, α3, st3, mr3, d3, p3⟩
  try dsimp only at p3
  split at p3
  · cases d3
    cases r3
    refine wpAny_truthy_bool (ite_tt (chain_last (thn (sub hc I3 (sr2.step st3) mr3 p3) ?_)))
    rintro w' s4 ⟨v4, H4, t4, μ4, α4, I4, r4, st4, sr4, mr4, d4, p4⟩
    exact op_cmp I4 C.unt mr4 ((d2.step st3).step st4) d4 r2 r4 p4
  · cases d3
    cases r3
    exact wpAny_truthy_bool (ite_ff ⟨.bl false, H3, I3, rfl, p3.here mr3 rfl⟩)
  · exact p3.elim
end
end NH
end
section
set_option linter.all false
set_option maxRecDepth 100000
set_option maxHeartbeats 4000000
namespace NH
open PySem PySem.Spec PyProof.Rows L2

section
variable {X : Cx} {D : DP} {W : XW} {Γ : Cn} {k : Nat} {pins : List (Addr × Obj)} {s : Shared} {σ : St} {H : Hp} {φ α : List Addr} {τ : Sl} {μ : Mem} {f g h : Sl → Mem → RE T} {ft gt : Sl → Mem → RE Bool} {a b c : Expr} {pos : Pos}

theorem RE.assoc {β γ δ : Type} (r : RE β) (k1 : β → Mem → RE γ) (k2 : γ → Mem → RE δ) : (r.bind k1).bind k2 = r.bind fun x m => (k1 x m).bind k2 := by cases r <;> rfl
/-! ### tests -/
theorem stest (ha : PE X a (rdE D W f)) (he : ∀ whole, isTrue a X.env whole = (do let v ← whole; standAt a.pos; holding [v] (truthy v))) : PT X a (rdT D W fun τ μ => (f τ μ).bind truT) := by
  rintro pins s σ H Q I ⟨φ, α, τ, μ, sr, mr, p⟩
  rw [he]
  refine wpAny_bind (thn (sub ha I sr mr p) ?_)
  rintro u s1 ⟨v, H1, t, μ1, α1, I1, r1, st1, sr1, mr1, d1, p1⟩
  unfold truT at p1
  split at p1
  · cases d1
    cases r1
    exact wpAny_bind (wpAny_standAt (wpAny_holding (wpAny_truthy_bool ⟨H1, I1, p1 α1 H1 (Stp.refl _ _) mr1⟩)))
  · exact p1.elim
theorem stest_cmp1 (C : Ck D W Γ X k) {op : CmpOp} (ho : okCmp op b = true) (ha : PE X a (rdE D W f)) (hb : PE X b (rdE D W g)) : PT X (.Compare a [op] [b] pos) (rdT D W fun τ μ => ((f τ μ).bind fun x μ1 => (g τ μ1).bind fun y μ2 => cmpT op x y μ2).bind truT) := by
  rintro pins s σ H Q I ⟨φ, α, τ, μ, sr, mr, p⟩
  dsimp only at p
  rw [RE.assoc] at p
  refine wpAny_isTrue_Compare1 (thn (sub ha I sr mr p) ?_) (mark_of ho)
  rintro u s1 ⟨v, H1, t, μ1, α1, I1, r1, st1, sr1, mr1, d1, p1⟩
  rw [RE.assoc] at p1
  refine thn (sub hb I1 sr1 mr1 p1) ?_
  rintro u' s2 ⟨v', H2, t', μ2, α2, I2, r2, st2, sr2, mr2, d2, p2⟩
  refine thn (op_cmp' I2 C.unt mr2 (d1.step st2) d2 r1 r2 p2) ?_
  rintro d s3 ⟨z, H3, I3, r3, t3, μ3, α3, st3, mr3, d3, p3⟩
  unfold truT at p3
  split at p3
  · cases d3
    cases r3
    exact wpAny_truthy_bool ⟨H3, I3, p3 α3 H3 (Stp.refl _ _) mr3⟩
  · exact p3.elim
theorem stest_chain (C : Ck D W Γ X k) {op op' : CmpOp} (ho : bySize op = true) (ho' : bySize op' = true) (ha : PE X a (rdE D W f)) (hb : PE X b (rdE D W g)) (hc : PE X c (rdE D W h)) : PT X (.Compare a [op, op'] [b, c] pos) (rdT D W fun τ μ => ((f τ μ).bind fun x μ1 => (g τ μ1).bind fun y μ2 => (cmpT op x y μ2).bind fun k μ3 => (match k with
      | .bl true => (h τ μ3).bind fun z μ4 => cmpT op' y z μ4
      | .bl false => .ok (.bl false) μ3
      | _ => .st)).bind truT) := by
  rintro pins s σ H Q I ⟨φ, α, τ, μ, sr, mr, p⟩
  dsimp only at p
  rw [RE.assoc] at p
  refine isTrue_chain (thn (sub ha I sr mr p) ?_) (lastMarks_of ho ho' b c)
  rintro u s1 ⟨v, H1, t, μ1, α1, I1, r1, st1, sr1, mr1, d1, p1⟩
  rw [RE.assoc] at p1
  refine test_link (thn (sub hb I1 sr1 mr1 p1) ?_)
  rintro u' s2 ⟨v', H2, t', μ2, α2, I2, r2, st2, sr2, mr2, d2, p2⟩
  rw [RE.assoc] at p2
  refine thn (op_cmp' I2 C.unt mr2 (d1.step st2) d2 r1 r2 p2) ?_
  rintro d s3 ⟨z, H3, I3, r3, t3, μ3, α3, st3, mr3, d3, p3⟩
  split at p3
  · cases d3
    cases r3
    rw [RE.assoc] at p3
    refine wpAny_truthy_bool (ite_tt (test_last (thn (sub hc I3 (sr2.step st3) mr3 p3) ?_)))
    rintro w' s4 ⟨v4, H4, t4, μ4, α4, I4, r4, st4, sr4, mr4, d4, p4⟩
    refine thn (op_cmp' I4 C.unt mr4 ((d2.step st3).step st4) d4 r2 r4 p4) ?_
    rintro d' s5 ⟨z5, H5, I5, r5, t5, μ5, α5, st5, mr5, d5, p5⟩
    unfold truT at p5
    split at p5
    · cases d5
      cases r5
      exact wpAny_truthy_bool ⟨H5, I5, p5 α5 H5 (Stp.refl _ _) mr5⟩
    · exact p5.elim
  · cases d3
    cases r3
    exact wpAny_truthy_bool (ite_ff ⟨H3, I3, p3 α3 H3 (Stp.refl _ _) mr3⟩)
  · exact p3.elim
theorem st_st {e : Expr} : PT X e (rdT D W fun _ _ => .st) := fun _ _ _ _ _ _ ⟨_, _, _, _, _, _, p⟩ => p.elim
theorem st_and {r : List Expr} (ha : PT X a (rdT D W ft)) (hb : PW X (.BoolOp .And (b :: r) pos) (rdT D W gt)) : PW X (.BoolOp .And (a :: b :: r) pos) (rdT D W fun τ μ => (ft τ μ).bind fun c μ1 => if c then gt τ μ1 else .ok false μ1) := by
  intro whole pins s σ H Q I hq
  refine pw_and ha hb whole pins s σ H Q I ?_
  obtain ⟨φ, α, τ, μ, sr, mr, p⟩ := hq
  refine ⟨φ, α, τ, μ, sr, mr, p.bind.mono fun c μ' α' H' st m q => ?_⟩
  cases c with
  | true => exact ⟨φ, α', τ, μ', sr.step st, m, q⟩
  | false => exact q α' H' (Stp.refl _ _) m
theorem st_or {r : List Expr} (ha : PT X a (rdT D W ft)) (hb : PW X (.BoolOp .Or (b :: r) pos) (rdT D W gt)) : PW X (.BoolOp .Or (a :: b :: r) pos) (rdT D W fun τ μ => (ft τ μ).bind fun c μ1 => if c then .ok true μ1 else gt τ μ1) := by
  intro whole pins s σ H Q I hq
  refine pw_or ha hb whole pins s σ H Q I ?_
  obtain ⟨φ, α, τ, μ, sr, mr, p⟩ := hq
  refine ⟨φ, α, τ, μ, sr, mr, p.bind.mono fun c μ' α' H' st m q => ?_⟩
  cases c with
  | false => exact ⟨φ, α', τ, μ', sr.step st, m, q⟩
  | true => exact q α' H' (Stp.refl _ _) m
theorem st_not (ha : PT X a (rdT D W ft)) : PT X (.UnaryOp .Not a pos) (rdT D W fun τ μ => (ft τ μ).bind fun c μ1 => .ok (!c) μ1) := by
  intro pins s σ H Q I hq
  refine pt_not ha pins s σ H Q I ?_
  obtain ⟨φ, α, τ, μ, sr, mr, p⟩ := hq
  exact ⟨φ, α, τ, μ, sr, mr, p.bind.mono fun c μ' α' H' st m q => q α' H' (Stp.refl _ _) m⟩
theorem se_if (hc : PT X c (rdT D W ft)) (ha : PE X a (rdE D W f)) (hb : PE X b (rdE D W g)) : PE X (.IfExp c a b pos) (rdE D W fun τ μ => (ft τ μ).bind fun k μ1 => if k then f τ μ1 else g τ μ1) := by
  rintro pins s σ H Q I ⟨φ, α, τ, μ, sr, mr, p⟩
  refine wpAny_IfExp (thn (subT hc I sr mr p) ?_)
  rintro d s1 ⟨H1, μ1, α1, I1, st1, sr1, mr1, p1⟩
  cases d with
  | true => exact ha pins s1 σ H1 Q I1 ⟨φ, α1, τ, μ1, sr1, mr1, p1⟩
  | false => exact hb pins s1 σ H1 Q I1 ⟨φ, α1, τ, μ1, sr1, mr1, p1⟩

/-! ### fields, items, slices -/
theorem se_fld (C : Ck D W Γ X k) {x f' : Str} {p0 : Pos} (ha : PE X (.Name x p0) (rdE D W f)) : PE X (.Attribute (.Name x p0) f' pos) (rdE D W fun τ μ => (f τ μ).bind fun t μ1 => fieldT Γ.flds t f' μ1) := by
  refine PE.mono (pe_fld ha rfl) ?_
  rintro σ H Q ⟨φ, α, τ, μ, sr, mr, p⟩
  refine ⟨φ, α, τ, μ, sr, mr, p.bind.mono fun t μ1 α1 H1 st m q v d => ?_⟩
  unfold fieldT at q
  split at q
  · split at q
    · rename_i c fs hf
      split at q
      · rename_i w hw
        obtain ⟨ad, C0, dx, gs, rfl, _, _, e1, e2, l⟩ := d
        obtain ⟨z, hz, dz⟩ := l.look hw
        obtain ⟨c1, c2⟩ := C.fld c C0 f' hf e1
        exact ⟨ad, C0, dx, gs, z, rfl, e2, c1, c2, hz, q.here m dz⟩
      · exact q.elim
    · exact q.elim
  · split at q
    · rename_i c fs hi
      split at q
      · rename_i hf
        split at q
        · rename_i w hw
          obtain ⟨ad, hi', rfl⟩ := d
          obtain ⟨C0, dx, gs, e1, e2, l⟩ := m.ob _ ad _ hi' hi
          obtain ⟨z, hz, dz⟩ := l.look hw
          obtain ⟨c1, c2⟩ := C.fld c C0 f' hf e1
          exact ⟨ad, C0, dx, gs, z, rfl, e2, c1, c2, hz, q.here m dz⟩
        · exact q.elim
      · exact q.elim
    · exact q.elim
  · exact q.elim
theorem plainIx_of {b : Expr} (h : plainIx b = true) : PlainIx b := by
  intro o i
  cases b <;> first | (simp [plainIx] at h; done) | rfl
theorem ixAt_get {D : DP} {ts : List T} {xs : List V} {i : Int} {t : T} (l : DenL D φ α H ts xs) (h : ixAt ts i = some t) : ∃ v, atI xs i = some v ∧ Den D φ α H t v := by
  unfold ixAt at h
  have e : ixN xs.length i = ixNo ts.length i := by rw [l.length]; rfl
  unfold atI
  rw [e]
  cases q : ixNo ts.length i with
  | none => rw [q] at h; cases h
  | some j =>
    rw [q] at h
    exact l.get h
theorem se_ix (hb' : plainIx b = true) (hK : X.K = D.K) (ha : PE X a (rdE D W f)) (hb : PE X b (rdE D W g)) : PE X (.Subscript a b pos) (rdE D W fun τ μ => (f τ μ).bind fun x μ1 => (g τ μ1).bind fun y μ2 => itemT x y μ2) := by
  rintro pins s σ H Q I ⟨φ, α, τ, μ, sr, mr, p⟩
  refine Subscript_ (thn (sub ha I sr mr p) ?_)
  rintro u s1 ⟨v, H1, t, μ1, α1, I1, r1, st1, sr1, mr1, d1, p1⟩
  refine thn (sub hb I1 sr1 mr1 p1) ?_
  rintro u' s2 ⟨v', H2, t', μ2, α2, I2, r2, st2, sr2, mr2, d2, p2⟩
  have d1 := d1.step st2
  unfold itemT at p2
  split at p2
  · cases d2
    split at p2
    · split at p2
      · rename_i w hw
        obtain ⟨ad, xs, rfl, _, _, r, l⟩ := d1
        obtain ⟨z, hz, dz⟩ := ixAt_get l hw
        exact ix_list a b pins s2 σ H2 _ _ _ _ Q I2 r1 r2 ⟨ad, xs, _, z, rfl, rfl, .inl r, hz, p2.here mr2 dz⟩ (plainIx_of hb' _ _)
      · exact p2.elim
    · split at p2
      · rename_i w hw
        obtain ⟨ad, xs, rfl, _, _, r, l⟩ := d1
        obtain ⟨z, hz, dz⟩ := ixAt_get l hw
        exact ix_tup a b pins s2 σ H2 _ _ _ _ Q I2 r1 r2 ⟨ad, xs, _, z, rfl, rfl, .inl r, hz, p2.here mr2 dz⟩ (plainIx_of hb' _ _)
      · exact p2.elim
    · split at p2
      · rename_i hj
        split at p2
        · rename_i w hw
          obtain ⟨ad, hi', rfl⟩ := d1
          obtain ⟨xs, e2, l⟩ := mr2.ob _ ad _ hi' hj
          obtain ⟨z, hz, dz⟩ := ixAt_get l hw
          exact ix_list a b pins s2 σ H2 _ _ _ _ Q I2 r1 r2 ⟨ad, xs, _, z, rfl, rfl, .inl (.inl e2), hz, p2.here mr2 dz⟩ (plainIx_of hb' _ _)
        · exact p2.elim
      · exact p2.elim
    · split at p2
      · rename_i hl
        split at p2
        · rename_i c hc
          have d1 : v = .str _ := d1
          subst d1
          exact ix_str a b pins s2 σ H2 _ _ _ _ Q I2 r1 r2 ⟨_, _, c, rfl, rfl, room_line hl, hc, p2.here mr2 rfl⟩ (plainIx_of hb' _ _)
        · exact p2.elim
      · exact p2.elim
    · exact p2.elim
  · exact p2.elim

/-! ### argument lists, displays -/
theorem noStar_of {e : Expr} {es : List Expr} {env : Env} (h : noStar e = true) : starEach (e :: es) env = (false, eval e env) :: starEach es env := by
  cases e <;> first | (simp [noStar] at h; done) | rfl
theorem noStars {es : List Expr} {env : Env} {pos : Pos} (h : es.all noStar = true) : (backTo pos (starEach es env)).any (·.1) = false := by
  induction es with
  | nil => rfl
  | cons e es ih =>
    simp only [List.all_cons, Bool.and_eq_true] at h
    rw [noStar_of h.1]
    have := ih h.2
    first
      | (simp [backTo] at this ⊢; exact this)
      | (simpa [backTo] using this)
theorem sa_nil : PA X [] (rdA D W fun _ μ => .ok [] μ) := by
  rintro pos pins s σ H Q I ⟨φ, α, τ, μ, sr, mr, p⟩
  exact pa_nil pos pins s σ H Q I (p α H (Stp.refl _ _) mr [] rfl)
theorem sa_cons {e : Expr} {es : List Expr} {fl : Sl → Mem → RE (List T)} (hs : noStar e = true) (ha : PE X e (rdE D W f)) (hr : PA X es (rdA D W fl)) : PA X (e :: es) (rdA D W fun τ μ => (f τ μ).bind fun t μ1 => (fl τ μ1).bind fun ts μ2 => .ok (t :: ts) μ2) := by
  intro pos pins s σ H Q I hq
  refine pa_cons ha hr (noStar_of hs) pos pins s σ H Q I ?_
  obtain ⟨φ, α, τ, μ, sr, mr, p⟩ := hq
  refine ⟨φ, α, τ, μ, sr, mr, p.bind.mono fun t μ1 α1 H1 st m q v d => ?_⟩
  refine ⟨φ, α1, τ, μ1, sr.step st, m, q.bind.mono fun ts μ2 α2 H2 st2 m2 q2 vs dl => ?_⟩
  exact q2 α2 H2 (Stp.refl _ _) m2 _ ⟨v, vs, rfl, d.step st2, dl⟩
theorem sa_all {F : Expr → Sl → Mem → RE T} : ∀ {es : List Expr}, es.all noStar = true → (∀ e ∈ es, PE X e (rdE D W (F e))) → PA X es (rdA D W (evL F es))
  | [], _, _ => sa_nil
  | e :: es, h, hh => by
    simp only [List.all_cons, Bool.and_eq_true] at h
    exact sa_cons h.1 (hh e List.mem_cons_self) (sa_all h.2 fun e' he => hh e' (List.mem_cons_of_mem _ he))
end
end NH
end
section
set_option linter.all false
set_option maxRecDepth 100000
set_option maxHeartbeats 4000000
namespace NH
open PySem PySem.Spec PyProof.Rows L2
section
open PySem.W
theorem exc_class {prog : Program} {w : World} {A : Around} {E : Value → Shared → Prop} {s : Shared} {K : Frag} {x D : Addr} {ox : Obj} {Q : Option Value → Shared → Prop} (X : K.In s.heap) (I : InstAt s.heap x ox D none)
  (hga : findIn K (.ref D) "__getattribute__" = some (some (.builtin "BaseException.__getattribute__"))) (hk : findIn K (.ref D) "__getattr__" = some none)
  (hf : findObj K D none "__class__" = some (.bind (.builtin "getset_descriptor.__get__") (.builtin "object.__class__"))) (hm : mroIn K D (.type "object") = some true) (hb : mroIn K D (.type "BaseException") = some true)
  (h : Q (some (.ref D)) { s with toks := s.toks + 1 }) : wpAny (model prog w) A (getAttr? (.ref x) "__class__") Q E s := by
  obtain ⟨hh, g, d, t, os⟩ := s
  have L0 := I.type (M := model prog w)
  have L1 := looks_findIn (M := model prog w) X hga
  have L2 := looks_findIn (M := model prog w) X hk
  have L3 := looks_find (M := model prog w) X I hf
  have L4 := looks_mroIn (M := model prog w) X hb
  have f3 := PySem.F.attr_ValueError.ga.bind (.ref x)
  unfold getAttr? getAttrBy? getAttrBy
  refine wpAny_bind (wpAny_mkText (wpAny_bind (wpAny_attempt (wpAny_holding (wpAny_bind (L0.at (wpAny_bind (L1.at ?_))))))))
  show wpAny _ _ (getAttrByItsOwn (.ref x) _ (.ref D) (.builtin "BaseException.__getattribute__") false false) _ _ _
  unfold getAttrByItsOwn hookBefore
  refine wpAny_bind ?_
  show wpAny _ _ (typeLookup (.ref D) "__getattr__") _ _ _
  refine L2.at ?_
  refine wpAny_bind (wpAny_attempt (wpAny_holding ?_))
  unfold callGetattribute boundAndCalled
  show wpAny _ _ (bindSpecial (.builtin "BaseException.__getattribute__") (.ref x) >>= _) _ _ _
  rw [f3]
  refine wpAny_bind (wpAny_pure ?_)
  show wpAny _ _ (call (.builtin "BaseException.__getattribute__") [.ref x, .str "__class__" _]) _ _ _
  refine wpAny_call (codeAny_call_builtin PySem.F.attr_ValueError.ga.plain PySem.F.entry_bexc_ga ?_)
  have hkd : builtinKind "BaseException.__getattribute__" = some .slot := by decide +kernel
  have hsp : splitId "BaseException.__getattribute__" = some ("BaseException", "__getattribute__") := by decide +kernel
  have ha := PySem.F.args_bexc_ga (.ref x) (.str "__class__" t)
  have LI : Looks (model prog w) hh (isInstance (.ref x) (.type "BaseException")) true := L0.andThen L4
  simp only [checkBuiltinCall, hkd, hsp]
  refine wpAny_bind (LI.at ?_)
  simp only [Bool.not_true, Bool.false_eq_true, if_false]
  refine wpAny_of_eq (a := ()) ha ?_
  unfold Builtin.«object.__getattribute__»
  refine wpAny_bind (m := slotArgs _ _ _) (wpAny_pure ?_)
  dsimp only
  refine wpAny_bind ?_
  show wpAny _ _ (Builtin.ObjectAttr.attrName (.str "__class__" t)) _ _ _
  first
    | exact wpAny_pure (wpAny_bind (L0.at (wpAny_bind (L3.at ?_))))
    | (refine wpAny_pure (wpAny_bind (L0.at (wpAny_bind (L3.at ?_)))))
    | (unfold Builtin.ObjectAttr.attrName; refine wpAny_pure (wpAny_bind (L0.at (wpAny_bind (L3.at ?_)))))
  dsimp only
  unfold Builtin.ObjectAttr.bindTo
  show wpAny _ _ (holding [Value.builtin "object.__class__"] (call (.builtin "getset_descriptor.__get__") [.builtin "object.__class__", .ref x, .ref D]) >>= ret) _ _ _
  refine wpAny_bind (wpAny_holding (wpAny_call (class_get (s := ⟨hh, g, d, t + 1, os⟩) X I hm ?_)))
  refine wpAny_pure ?_
  exact handed_on rfl (wpAny_pure h)
theorem kitx_exc {K : Frag} {x C : Addr} (hC : XCls K C) : KitX K (.ref x) (.ref C) (XcAt x C) where
  ty := fun M h _ p => by
    obtain ⟨oe, vs, h1, h2, h3, h4⟩ := p
    exact h2 ▸ (Looks.ld h1).andThen .now
  it := fun M h X _ => by
    have hcD := hC.cl
    unfold clsIn at hcD
    split at hcD
    · rename_i c' d' cd' sl' ho
      intro A' Q' E' s' k q
      unfold isType loadHead
      exact wpAny_bind (wpAny_loadPart (k _ _ (X _ _ ho)) (wpAny_pure q))
    · cases hcD
  ne := fun h tp dd its n sl X htp => by
    refine Bool.eq_false_iff.mpr fun q => ?_
    have e : C = tp := Value.ref.inj (beq_iff_eq.mp q)
    subst e
    have hcD := hC.cl
    unfold clsIn at hcD
    split at hcD
    · rename_i c' d' cd' sl' ho
      have z := (X _ _ ho).symm.trans htp
      cases z
    · cases hcD
  ca := fun X p k => by
    obtain ⟨oe, vs, h1, h2, h3, h4⟩ := p
    refine exc_class (ox := oe) X ⟨h1, h2, ?_, ?_⟩ hC.ga hC.hk hC.fo hC.ob hC.bx k
    · unfold notCls; rw [h3]
    · rw [h4]; trivial
end

section
variable {X : Cx} {D : DP} {W : XW} {Γ : Cn} {k : Nat} {pins : List (Addr × Obj)} {s : Shared} {σ : St} {H : Hp} {φ α : List Addr} {τ : Sl} {μ : Mem} {f g h : Sl → Mem → RE T} {a b c : Expr} {pos : Pos} {fl : Sl → Mem → RE (List T)} {es : List Expr}

/-! ### displays -/
theorem evL_len {F : Expr → Sl → Mem → RE T} : ∀ {es : List Expr} {τ : Sl} {μ μ' : Mem} {ts : List T}, evL F es τ μ = .ok ts μ' → ts.length = es.length
  | [], _, _, _, _, h => by simp [evL] at h; simp [← h.1]
  | e :: es, τ, μ, μ', ts, h => by
    simp only [evL] at h
    cases h1 : F e τ μ with
    | ok t μ1 =>
      rw [h1] at h
      simp only [RE.bind] at h
      cases h2 : evL F es τ μ1 with
      | ok us μ2 =>
        rw [h2] at h
        simp only [RE.bind] at h
        cases h
        simp [evL_len h2]
      | ex c μ2 => rw [h2] at h; simp [RE.bind] at h
      | st => rw [h2] at h; simp [RE.bind] at h
    | ex c μ1 => rw [h1] at h; simp [RE.bind] at h
    | st => rw [h1] at h; simp [RE.bind] at h
theorem se_lst {F : Expr → Sl → Mem → RE T} (hl : es.length ≤ room) (ha : PA X es (rdA D W (evL F es))) : PE X (.List es pos) (rdE D W fun τ μ => (evL F es τ μ).bind fun ts μ1 => .ok (.lst ts) μ1) := by
  refine PE.mono (pe_lst ha) ?_
  rintro σ H Q ⟨φ, α, τ, μ, sr, mr, p⟩
  refine ⟨φ, α, τ, μ, sr, mr, ?_⟩
  dsimp only at p
  cases hr : evL F es τ μ with
  | ok ts μ1 =>
    rw [hr] at p
    intro α' H' st m vs dl
    have el := evL_len hr
    refine ⟨by rw [← dl.length, el]; exact room_line hl, fun q hq => ?_⟩
    exact p α' _ (st.trans (Stp.new (same_upd hq))) (m.new (same_upd hq)) _ ⟨q, vs, rfl, fresh_phi m hq, fresh_out m hq, .inl upd_same, dl.step (Stp.new (same_upd hq))⟩
  | ex c μ1 => rw [hr] at p; exact p
  | st => rw [hr] at p; exact p
theorem se_tup {F : Expr → Sl → Mem → RE T} {kk : Nat} (hl : es.length ≤ room) (ha : PA X es (rdA D W (evL F es))) : PE X (.Tuple es kk pos) (rdE D W fun τ μ => (evL F es τ μ).bind fun ts μ1 => .ok (.tup ts) μ1) := by
  refine PE.mono (pe_tup ha) ?_
  rintro σ H Q ⟨φ, α, τ, μ, sr, mr, p⟩
  refine ⟨φ, α, τ, μ, sr, mr, ?_⟩
  dsimp only at p
  cases hr : evL F es τ μ with
  | ok ts μ1 =>
    rw [hr] at p
    intro α' H' st m vs dl
    have el := evL_len hr
    refine ⟨by rw [← dl.length, el]; exact room_line hl, fun q hq => ?_⟩
    exact p α' _ (st.trans (Stp.new (same_upd hq))) (m.new (same_upd hq)) _ ⟨q, vs, rfl, fresh_phi m hq, fresh_out m hq, .inl upd_same, dl.step (Stp.new (same_upd hq))⟩
  | ex c μ1 => rw [hr] at p; exact p
  | st => rw [hr] at p; exact p

/-! ### slices -/
def rdO (D : DP) (W : XW) (f : Sl → Mem → RE (Option Int)) : TO := fun σ H Q => ∃ φ α τ μ, SRel D φ α H τ σ ∧ MRel D φ α H μ ∧ Post D W φ α H σ (fun o _ _ H' => Q o H') (f τ μ)
theorem so_none : PO X none (rdO D W fun _ μ => .ok none μ) := by
  rintro pins s σ H Q I ⟨φ, α, τ, μ, sr, mr, p⟩
  exact po_none pins s σ H Q I (p α H (Stp.refl _ _) mr)
theorem so_some (h : PE X a (rdE D W f)) : PO X (some a) (rdO D W fun τ μ => (f τ μ).bind fun t μ2 => match t with | .int i => .ok (some i) μ2 | _ => .st) := by
  rintro pins s σ H Q I ⟨φ, α, τ, μ, sr, mr, p⟩
  refine po_some h pins s σ H Q I ⟨φ, α, τ, μ, sr, mr, p.bind.mono fun t μ' α' H' st m q v d => ?_⟩
  split at q
  · cases d
    exact ⟨_, rfl, q α' H' (Stp.refl _ _) m⟩
  · exact q.elim
theorem cutL_den {ts : List T} {xs : List V} (l : DenL D φ α H ts xs) (lo hi : Option Int) : DenL D φ α H (cutL ts lo hi) (cutV xs lo hi) := by
  have e : ts.length = xs.length := l.length
  have e1 : ∀ n d o, sIxN n d o = HT.sIx n d o := fun n d o => by cases o <;> rfl
  unfold cutL cutV
  rw [e1, e1, e]
  exact (l.drop _).take _
/-- the whole of a tuple is the tuple itself -/
theorem getItem_tuple_all {prog : Program} {w : World} {A : Around} {E : Value → Shared → Prop} {s : Shared} {t sl : Addr} {items : Array Value} {vl vu : Value} {lo hi : Option Int} {Q : Value → Shared → Prop} (ht : IsTup s.heap t items) (hs : s.heap.IsSliceOf sl vl vu .none) (pl : IsPart vl lo) (pu : IsPart vu hi)
    (hw : HT.sIx items.size 0 lo = 0 ∧ HT.sIx items.size items.size hi = items.size) (h : Q (.ref t) s) : wpAny (model prog w) A (getItem (.ref t) (.ref sl)) Q E s := by
  obtain ⟨os, hos, hcs, hds⟩ := id hs
  have hTs : s.TypeIs (.ref sl) "slice" := ⟨os, hos, hcs⟩
  unfold getItem
  try with_reducible refine wpAny_holding ?_
  first | refine wpAny_bind (wpAny_pure ?_) | skip
  refine wpAny_bind (wpAny_sequenceKey ht.typeIs (by decide) ?_)
  refine wpAny_bind (wpAny_callSpecial?_slot (name := Str.ofString "__getitem__") ht.typeIs slot_tuple_getitem (wpAny_call_entry slot_tuple_getitem ht.typeIs entry_tuple_getitem ?_ (args_tuple_getitem _ _)))
  show wpAny _ _ (Builtin.Tuple.tupleItemsOf (.ref t) >>= _) _ _ s
  refine wpAny_bind (tupleItemsOf_ ht ?_)
  refine wpAny_bind (wpAny_typeOf hTs ?_)
  rw [if_pos (by decide)]
  refine wpAny_bind (HT.sliceApplied_gen hs pl pu ?_)
  show wpAny _ _ (if (((HT.sIx items.size 0 lo : Nat) : Int) == 0 && (1 : Int) == 1 && (HT.sIx items.size items.size hi - HT.sIx items.size 0 lo) == items.size) = true then _ else _) _ _ s
  rw [if_pos (by rw [hw.1, hw.2]; simp)]
  refine wpAny_bind ?_
  unfold Builtin.Tuple.tupleIsExact
  refine wpAny_bind (wpAny_typeOf ht.typeIs (wpAny_pure ?_))
  rw [if_pos (by decide)]
  first
    | exact wpAny_bind (wpAny_rule (wpAny_pure ⟨_, rfl, wpAny_pure h⟩))
    | exact wpAny_bind (wpAny_rule (wpAny_bind (wpAny_pure (wpAny_pure ⟨_, rfl, wpAny_pure h⟩))))
theorem sl_tupR : SlR X (fun x lo hi H Q => ∃ a xs, x = .ref a ∧ SqT X.K H a xs ∧ (HT.sIx xs.length 0 lo = 0 ∧ HT.sIx xs.length xs.length hi = xs.length) ∧ Q (.ref a) H) := by
  intro pins s σ H x v vl vu lo hi sl Q I rx hs pl pu h
  obtain ⟨a, xs, rfl, hx, hw, q⟩ := h
  cases rx
  obtain ⟨its, r, ht, hz⟩ := I.tuple hx
  have hlen : its.toArray.size = xs.length := by rw [List.size_toArray]; exact r.length.symm
  exact ⟨"tuple", _, PyProof.Rows.slot_tuple_getitem.lookup, ht.typeIs, getItem_tuple_all ht hs pl pu (by rw [hlen]; exact hw) ⟨.ref a, H, I, rfl, q⟩⟩
theorem se_slice {lo hi : Option Expr} {fo go : Sl → Mem → RE (Option Int)} {p2 : Pos} (ha : PE X a (rdE D W f)) (hl : PO X lo (rdO D W fo)) (hu : PO X hi (rdO D W go)) : PE X (.Subscript a (.Slice lo hi none p2) pos) (rdE D W fun τ μ => (f τ μ).bind fun x μ1 => (fo τ μ1).bind fun l μ2 => (go τ μ2).bind fun h μ3 => (match x with
        | .lst xs => .ok (.lst (cutL xs l h)) μ3
        | .tup xs => .ok (.tup (cutL xs l h)) μ3
        | _ => .st)) := by
  refine PE.mono (pe_slice (sl_list.or (sl_tup.or sl_tupR)) ha hl hu) ?_
  rintro σ H Q ⟨φ, α, τ, μ, sr, mr, p⟩
  refine ⟨φ, α, τ, μ, sr, mr, p.bind.mono fun t μ1 α1 H1 st m q v d => ?_⟩
  refine ⟨φ, α1, τ, μ1, sr.step st, m, q.bind.mono fun l μ2 α2 H2 st2 m2 q2 => ?_⟩
  refine ⟨φ, α2, τ, μ2, (sr.step st).step st2, m2, q2.bind.mono fun u μ3 α3 H3 st3 m3 q3 => ?_⟩
  split at q3
  · obtain ⟨ad, xs, rfl, _, _, r, dl⟩ := (d.step st2).step st3
    refine .inl ⟨ad, xs, rfl, .inl r, fun z hz => ?_⟩
    exact q3.fresh m3 (same_upd hz) ⟨z, _, rfl, fresh_phi m3 hz, fresh_out m3 hz, .inl upd_same, cutL_den (dl.step (Stp.new (same_upd hz))) _ _⟩
  · obtain ⟨ad, xs, rfl, n1, n2, r, dl⟩ := (d.step st2).step st3
    by_cases hw : HT.sIx xs.length 0 l = 0 ∧ HT.sIx xs.length xs.length u = xs.length
    · refine .inr (.inr ⟨ad, xs, rfl, .inl r, hw, ?_⟩)
      have e : cutV xs l u = xs := by unfold cutV; rw [hw.1, hw.2]; simp
      have dd := cutL_den dl l u
      rw [e] at dd
      exact q3.here m3 ⟨ad, xs, rfl, n1, n2, r, dd⟩
    · refine .inr (.inl ⟨ad, xs, rfl, .inl r, hw, fun z hz => ?_⟩)
      exact q3.fresh m3 (same_upd hz) ⟨z, _, rfl, fresh_phi m3 hz, fresh_out m3 hz, .inl upd_same, cutL_den (dl.step (Stp.new (same_upd hz))) _ _⟩
  · exact q3.elim

/-! ### calls of the text's own -/
theorem run_own {x : Str} {g : List T → Mem → RE T} {fa : Addr} {fd : FuncData} {ps : List Str} {kk : Nat} {us : List Value} {vs : List V} {ts : List T} {Q : VK} (C : Ck D W Γ X k) (F : FnOk X.prog X.w X.K X.mg X.base (CX1 X.prog X.w) kk fa fd ps (spN D ps.length g))
    (hr : Room kk X.A) (hb : Binds X.K fd ps []) (har : ∀ ts μ, ts.length ≠ ps.length → g ts μ = .st) (I : Inv X pins σ H s) (r : Vals vs us) (mr : MRel D φ α H μ) (d : DenL D φ α H ts vs) (p : Post D W φ α H σ (RV D φ Q) (g ts μ)) :
    wpAny (model X.prog X.w) X.A (call (.ref fa) us) (EP X pins σ Q) X.xe s := by
  have hl : ts.length = ps.length := by
    by_cases h : ts.length = ps.length
    · exact h
    · rw [har ts μ h] at p; exact p.elim
  have sp : spN D ps.length g vs H Q (fun c d H' => W c d σ H') := by
    refine ⟨by rw [← d.length]; exact hl, φ, α, ts, μ, d, mr, ?_⟩
    cases hg : g ts μ with
    | ok t μ' => rw [hg] at p; exact p
    | ex c μ' => rw [hg] at p; exact p
    | st => rw [hg] at p; exact p
  have hl2 : us.length = ps.length := by rw [← r.length, ← d.length]; exact hl
  refine wpAny_call (codeAny_mono (F.run X.A X.stack s H ⟨us, []⟩ us vs Q (fun c d H' => W c d σ H') hr I.env0 (by simpa using hb s us I.kIn (by simpa using hl2)) r sp) fun r s' hq => ?_)
  cases r with
  | error e => exact C.xe e s' (xp_call (E := fun c d H' => W c d σ H') I hq fun cls H' w => w)
  | ok fl =>
    cases fl with
    | ret u => exact I.after hq
    | next => exact False.elim hq
    | brk => exact False.elim hq
    | cont => exact False.elim hq
theorem se_call (C : Ck D W Γ X k) {F : Expr → Sl → Mem → RE T} {x : Str} {g : List T → Mem → RE T} {p0 : Pos} (hx : x ∈ Γ.G) (hg : Γ.gl x = .fn g) (hc : Γ.calm = true) (hs : es.all noStar = true) (ha : PA X es (rdA D W (evL F es))) : PE X (.Call (.Name x p0) es [] pos) (rdE D W fun τ μ => (evL F es τ μ).bind g) := by
  have q := C.glo x hx
  rw [hg] at q
  obtain ⟨fa, fd, ps, kk, hm, hk, hb, hkk, Fn, har⟩ := q
  have hr := (C.rom hc).mono hkk
  rintro pins s σ H Q I ⟨φ, α, τ, μ, sr, mr, p⟩
  refine wpAny_Call_Name_kw (ld_glob I (C.glb x hx) hm ?_ (C.dbG x hx))
  cases es with
  | nil => exact PySem.W.callWith_K0 I.kIn hk (run_own (x := x) (ts := []) C Fn hr hb har I .nil mr rfl p)
  | cons e es =>
    simp only [List.all_cons, Bool.and_eq_true] at hs
    refine PySem.W.callWith_K (h₀ := X.base) I.ok.mod.kin hk (thn (subA ha I sr mr p) ?_) (noStar_of hs.1) (noStars hs.2)
    rintro us s1 ⟨vs, H1, ts, μ1, α1, I1, r1, st1, sr1, mr1, d1, p1⟩
    exact ⟨I1.kIn, run_own (x := x) C Fn hr hb har I1 r1 mr1 d1 p1⟩
/-- a new thing of a class whose things never change -/
theorem run_mk {c : Str} {g : List T → Mem → RE T} {C0 fI : Addr} {fd : FuncData} {ps : List Str} {kk : Nat} {us : List Value} {vs : List V} {ts : List T} {Q : VK} (C : Ck D W Γ X k) (ad : D.adr c = some C0) (M : Mk X.K C0 fI) (F : FnOk X.prog X.w X.K X.mg X.base (CX1 X.prog X.w) kk fI fd ps (spN D ps.length g))
    (hr : Room (kk + 1) X.A) (hb : Binds X.K fd ps []) (har : ∀ ts μ, ts.length ≠ ps.length → g ts μ = .st) (I : Inv X pins σ H s) (r : Vals vs us) (mr : MRel D φ α H μ) (d : DenL D φ α H ts vs) (p : Post D W φ α H σ (RV D φ Q) (frozenMk c g ts μ)) :
    wpAny (model X.prog X.w) X.A (call (.ref C0) us) (EP X pins σ Q) X.xe s := by
  unfold frozenMk at p
  split at p
  case isFalse => exact p.elim
  rename_i hp
  have hl : (T.mut 0 :: ts).length = ps.length := by
    by_cases h : (T.mut 0 :: ts).length = ps.length
    · exact h
    · rw [har _ _ h] at p; exact p.elim
  have hq : ∀ x dx, H x = none → H dx = none → dx ≠ x → spN D ps.length g (.ref x :: (vs ++ [])) (upd (upd H dx (.own x)) x (.ins C0 dx [])) (fun v H2 => v = .non ∧ Q (.ref x) H2) (fun c d H' => W c d σ H') := by
    intro x dx hx hdx hne
    have sm : Same H (upd (upd H dx (.own x)) x (.ins C0 dx [])) := fun b o e => by rw [upd_ne (ne_of_none e hx), upd_ne (ne_of_none e hdx)]; exact e
    have st0 : Stp [] H [x] (upd (upd H dx (.own x)) x (.ins C0 dx [])) := ⟨⟨[x], rfl, fun b hb' => by rw [List.mem_singleton.mp hb']; exact hx⟩, fun b o _ e => sm b o e, fun b e => by
      cases q : H b with
      | none => rfl
      | some o => rw [sm b o q] at e; cases e⟩
    have nx : x ∉ φ ++ α := fun z => (List.mem_append.mp z).elim (fresh_phi mr hx) (fresh_out mr hx)
    have ph : ∀ b ∈ φ ++ α, ∃ o, H b = some o := fun b hb' => (List.mem_append.mp hb').elim (mr.phi b) fun z => by
      obtain ⟨i, hi⟩ := List.mem_iff_getElem?.mp z
      have hl' : i < μ.length := by rw [← mr.len]; exact (List.getElem?_eq_some_iff.mp hi).1
      exact (mr.ob i b μ[i] hi (by simp [hl'])).some
    refine ⟨by simp only [List.length_cons, List.append_nil] at hl ⊢; rw [← d.length]; exact hl, φ ++ α, [x], .mut 0 :: ts, [.obj c []], ⟨.ref x, vs ++ [], rfl, ⟨x, rfl, rfl⟩, by rw [List.append_nil]; exact (DenL.hide hp d).step st0⟩, ⟨rfl, by simp, fun b hb' => by rw [List.mem_singleton.mp hb']; exact nx, fun b hb' => let ⟨o, e⟩ := ph b hb'; ⟨o, sm b o e⟩, fun i a o e1 e2 => ?_⟩, ?_⟩
    · cases i with
      | zero => simp at e1 e2; subst e1 e2; exact ⟨C0, dx, [], ad, upd_same, rfl⟩
      | succ i => simp at e1
    have back : ∀ {α2 : List Addr} {H3 : Hp}, Stp [x] (upd (upd H dx (.own x)) x (.ins C0 dx [])) α2 H3 → Same H H3 := fun st b o e => st.keep b o (fun z => by rw [List.mem_singleton.mp z, hx] at e; cases e) (sm b o e)
    cases hg : g (.mut 0 :: ts) [.obj c []] with
    | ok t μ2 =>
      rw [hg] at p
      intro α2 H3 st m v dv
      cases t with
      | non =>
        refine ⟨dv, ?_⟩
        dsimp only at p
        split at p
        · rename_i c' fs h0
          split at p
          · rename_i hc
            obtain ⟨rfl, hpf⟩ := hc
            obtain ⟨β, rfl, _⟩ := st.ext
            obtain ⟨C1, dx1, gs, ad1, e1, lf⟩ := m.ob 0 x _ rfl h0
            have sm3 := back st
            exact p.fresh mr sm3 ⟨x, C1, dx1, gs, rfl, fresh_phi mr hx, fresh_out mr hx, ad1, e1, DenF.back hpf lf⟩
          · exact p.elim
        · exact p.elim
      | _ => exact p.elim
    | ex e μ2 =>
      rw [hg] at p
      intro α2 H3 C1 st m had
      have sm3 := back st
      exact p α H3 C1 (Stp.new sm3) (mr.new sm3) had
    | st => rw [hg] at p; exact p
  have hq1 := hq (s.heap.objs.size + 1) s.heap.objs.size (I.hok.fresh (Nat.le_succ _)) (I.hok.fresh (Nat.le_refl _)) (Nat.ne_of_lt (Nat.lt_succ_self _))
  have I2 := Inv.made (C := C0) I
  have r2 : Vals (V.ref (s.heap.objs.size + 1) :: (vs ++ [])) (Value.ref (s.heap.objs.size + 1) :: us) := .cons rfl (by rw [List.append_nil]; exact r)
  have hlu : (Value.ref (s.heap.objs.size + 1) :: us ++ []).length = ps.length := by
    rw [List.append_nil, List.length_cons, ← r.length, ← d.length]
    exact hl
  refine wpAny_call (make_map (f := fI) I.kIn M.makes M.init (beq_iff_eq.mp M.fn) (codeAny_mono (F.run _ X.stack _ _ ⟨Value.ref (s.heap.objs.size + 1) :: us, []⟩ (Value.ref (s.heap.objs.size + 1) :: us) _ _ (fun c d H' => W c d σ H') (hr.make C0 us [])
    (I2.env0.make C0 us []) (by simpa using hb _ (Value.ref (s.heap.objs.size + 1) :: us) I2.kIn hlu) r2 hq1) fun r s' hq' => ?_))
  cases r with
  | error e => exact C.xe e s' (xp_call (E := fun c d H' => W c d σ H') I2 hq' fun cls H' w => w)
  | ok fl =>
    cases fl with
    | ret u =>
      obtain ⟨v, H', I3, rv, ev, q3⟩ := I2.after hq'
      subst ev
      exact ⟨rv, ⟨V.ref (s.heap.objs.size + 1), H', I3, rfl, q3⟩⟩
    | next => exact False.elim hq'
    | brk => exact False.elim hq'
    | cont => exact False.elim hq'
theorem se_make (C : Ck D W Γ X k) {F : Expr → Sl → Mem → RE T} {x c : Str} {g : List T → Mem → RE T} {p0 : Pos} (hx : x ∈ Γ.G) (hg : Γ.gl x = .mk c g) (hc : Γ.calm = true) (hs : es.all noStar = true) (ha : PA X es (rdA D W (evL F es))) : PE X (.Call (.Name x p0) es [] pos) (rdE D W fun τ μ => (evL F es τ μ).bind (frozenMk c g)) := by
  have q := C.glo x hx
  rw [hg] at q
  obtain ⟨C0, fI, fd, ps, kk, ad, hm, M, hb, hkk, Fn, har⟩ := q
  have hr := (C.rom hc).mono hkk
  rintro pins s σ H Q I ⟨φ, α, τ, μ, sr, mr, p⟩
  refine wpAny_Call_Name_kw (ld_glob I (C.glb x hx) hm ?_ (C.dbG x hx))
  cases es with
  | nil => exact PySem.W.callWith_K0 I.kIn M.kp (run_mk (ts := []) C ad M Fn hr hb har I .nil mr rfl p)
  | cons e es =>
    simp only [List.all_cons, Bool.and_eq_true] at hs
    refine PySem.W.callWith_K (h₀ := X.base) I.ok.mod.kin M.kp (thn (subA ha I sr mr p) ?_) (noStar_of hs.1) (noStars hs.2)
    rintro us s1 ⟨vs, H1, ts, μ1, α1, I1, r1, st1, sr1, mr1, d1, p1⟩
    exact ⟨I1.kIn, run_mk C ad M Fn hr hb har I1 r1 mr1 d1 p1⟩
end
end NH
end
section
set_option linter.all false
set_option maxRecDepth 100000
set_option maxHeartbeats 4000000
namespace NH
open PySem PySem.Spec PyProof.Rows L2
section
variable {X : Cx} {D : DP} {W : XW} {Γ : Cn} {k : Nat} {pins : List (Addr × Obj)} {s : Shared} {σ : St} {H : Hp} {φ α : List Addr} {τ : Sl} {μ : Mem} {f g h : Sl → Mem → RE T} {a b c : Expr} {pos : Pos} {es : List Expr}

/-! ### isinstance -/
/-- the thing is known to the deciders as of the type t -/
theorem kit_of {B : Prop} (C : Ck D W Γ X k) {t : T} {v : V} {u : Value} {n : Str} (I : Inv X pins σ H s) (d : Den D φ α H t v) (r : RelV v u) (ht : tyN Γ.xcs t μ = some n)
    (hh : ∀ tv P, TyNm D n tv → PySem.W.KitX X.K u tv P → P s.heap → u ≠ .builtin "__main__.__loader__#opaque" → B) : B := by
  cases t with
  | non => cases d; cases r; simp [tyN] at ht; subst ht; exact hh _ _ (.inl ⟨rfl, rfl⟩) PySem.W.kitx_none True.intro (fun z => nomatch z)
  | bl b => cases d; cases r; simp [tyN] at ht; subst ht; exact hh _ _ (.inr (.inl ⟨rfl, rfl⟩)) PySem.W.kitx_bool True.intro (fun z => nomatch z)
  | int i => cases d; obtain ⟨t, rfl⟩ := r; simp [tyN] at ht; subst ht; exact hh _ _ (.inr (.inr (.inl ⟨rfl, rfl⟩))) PySem.W.kitx_int True.intro (fun z => nomatch z)
  | str i => cases d; obtain ⟨t, rfl⟩ := r; simp [tyN] at ht; subst ht; exact hh _ _ (.inr (.inr (.inr (.inl ⟨rfl, rfl⟩)))) PySem.W.kitx_str True.intro (fun z => nomatch z)
  | tup ts =>
    obtain ⟨ad, xs, rfl, _, _, q, _⟩ := d; cases r; simp [tyN] at ht; subst ht
    obtain ⟨its, _, ⟨o, h1, h2, _⟩, _⟩ := I.tuple (.inl q)
    exact hh _ _ (.inr (.inr (.inr (.inr (.inl ⟨rfl, rfl⟩))))) PySem.W.kitx_tuple ⟨o, h1, h2⟩ (fun z => nomatch z)
  | lst ts =>
    obtain ⟨ad, xs, rfl, _, _, q, _⟩ := d; cases r; simp [tyN] at ht; subst ht
    obtain ⟨its, _, p, _⟩ := I.list (.inl q)
    obtain ⟨o, h1, h2, _⟩ := p.isList
    exact hh _ _ (.inr (.inr (.inr (.inr (.inr (.inl ⟨rfl, rfl⟩)))))) PySem.W.kitx_list ⟨o, h1, h2⟩ (fun z => nomatch z)
  | exc c =>
    obtain ⟨ad, C0, rfl, _, _, e1, e2⟩ := d; cases r
    simp only [tyN] at ht
    split at ht
    · rename_i hc
      cases ht
      have hx := C.xcx n C0 hc e1
      obtain ⟨p, _⟩ := (show ObjOk X.prog X.w H s.heap ad (.ext (XcAt ad C0)) from I.hok ad _ e2)
      exact hh _ _ (.inr (.inr (.inr (.inr (.inr (.inr ⟨C0, e1, rfl⟩)))))) (kitx_exc hx) p (fun z => nomatch z)
    · cases ht
  | obj c fs => simp [tyN] at ht
  | «mut» i => simp [tyN] at ht

/-- a class's name -/
theorem pe_cls (C : Ck D W Γ X k) {c : Str} (hc : c ∈ Γ.G) (hl : Γ.cls.contains c = true) : ∃ u v, ClVal X c u ∧ ClsV v u ∧ ∀ p0, PE X (.Name c p0) (tC v) := by
  obtain ⟨u, v, cv, r⟩ := C.clv c hl
  refine ⟨u, v, cv, r, fun p0 => ?_⟩
  rcases cv with h | ⟨h, hb, hn⟩
  · exact pe_glob (C.glb c hc) h r.rel (C.dbG c hc)
  · exact pe_bltn (C.glb c hc) h hb r.rel hn (C.dbG c hc)
theorem isAny_one {t c : Str} {b : Bool} (h : isAny Γ t [c] = some b) : Γ.isin t c = some b := by
  unfold isAny at h
  split at h
  · rename_i q; cases h; exact q
  · rename_i q; simp [isAny] at h; subst h; exact q
  · cases h
/-- several classes' names -/
theorem pa_clss (C : Ck D W Γ X k) : ∀ {es : List Expr} {cs : List Str}, clsList Γ es = some cs → ∃ us vs, (∀ us', Vals vs us' → us' = us) ∧ vs.length = es.length ∧ es.all noStar = true ∧ PA X es (fun _ H Q => Q vs H) ∧ ∀ t b, isAny Γ t cs = some b → ∀ tv, TyNm D t tv → PySem.W.kitAny X.K tv us = some b
  | [], cs, h => by
    simp [clsList] at h; subst h
    exact ⟨[], [], fun us' r => by cases r; rfl, rfl, rfl, fun pos pins s σ H Q I q => pa_nil pos pins s σ H Q I q, fun t b hb tv _ => hb⟩
  | e :: es, cs, h => by
    unfold clsList at h
    split at h
    · rename_i c p0
      split at h
      · rename_i hc
        simp only [Bool.and_eq_true, List.contains_iff_mem] at hc
        cases hr : clsList Γ es with
        | none => rw [hr] at h; cases h
        | some cs' =>
          rw [hr] at h
          cases h
          obtain ⟨us, vs, rv, hl, hs, hp, hk⟩ := pa_clss C hr
          obtain ⟨u, v, cv, r, pe⟩ := pe_cls C hc.1.2 (by simpa using hc.2)
          refine ⟨u :: us, v :: vs, fun us' q => by cases q with | cons q1 q2 => rw [r.only q1, rv _ q2], by simp [hl], by simp [noStar, hs], fun pos pins s σ H Q I q => pa_cons (pe p0) hp (noStar_of rfl) pos pins s σ H Q I q, fun t b hb tv ht => ?_⟩
          unfold isAny at hb
          unfold PySem.W.kitAny
          split at hb
          · rename_i q
            rw [C.isi t c true q tv u ht cv]
            exact hb
          · rename_i q
            rw [C.isi t c false q tv u ht cv]
            exact hk t b hb tv ht
          · cases hb
      · cases h
    · cases h
theorem se_isi (C : Ck D W Γ X k) {cs : List Str} {p0 : Pos} (hx : ("isinstance" : Str) ∈ Γ.G) (hg : Γ.gl "isinstance" = .none) (hs : noStar a = true) (hcs : clsNames Γ c = some cs) (ha : PE X a (rdE D W f)) : PE X (.Call (.Name "isinstance" p0) [a, c] [] pos) (rdE D W fun τ μ => (f τ μ).bind fun x μ1 => (match tyN Γ.xcs x μ1 with
              | some t => (match isAny Γ t cs with | some b => .ok (.bl b) μ1 | none => .st)
              | none => .st)) := by
  have hm := C.glo _ hx
  rw [hg] at hm
  rintro pins s σ H Q I ⟨φ, α, τ, μ, sr, mr, p⟩
  refine wpAny_Call_Name_kw (ld_blt I (C.glb _ hx) hm boot_isinstance ?_ (by decide) (C.dbG _ hx))
  unfold clsNames at hcs
  split at hcs
  · rename_i cn pc
    split at hcs
    · rename_i hc
      cases hcs
      simp only [Bool.and_eq_true, List.contains_iff_mem] at hc
      obtain ⟨uc, vc, cv, rc, pe⟩ := pe_cls C hc.1.2 (by simpa using hc.2)
      refine PyProof.Rows.callWith_builtin1 (thn (pa_cons ha (pa_cons (pe pc) pa_nil (noStar_of rfl)) (noStar_of hs) pos pins s σ H (fun vs H1 => ∃ v t μ1 α1, vs = [v, vc] ∧ Stp α H α1 H1 ∧ MRel D φ α1 H1 μ1 ∧ Den D φ α1 H1 t v ∧ Post D W φ α1 H1 σ (RV D φ Q) (match tyN Γ.xcs t μ1 with | some t => (match isAny Γ t [cn] with | some b => .ok (.bl b) μ1 | none => .st) | none => .st)) I ⟨φ, α, τ, μ, sr, mr, p.bind.mono fun t μ' α' H' st m q v d => ⟨v, t, μ', α', rfl, st, m, d, q⟩⟩) ?_) (noStar_of hs) (noStars (by rfl))
      rintro us s1 ⟨vs, H1, I1, rv, v, t, μ1, α1, rfl, st, m, d, q⟩
      obtain ⟨u, uc', rfl, r1, r2⟩ := vals2 rv
      split at q
      · rename_i tn htn
        split at q
        · rename_i b hb
          refine kit_of C I1 d r1 htn fun tv P ht kx hP hne => ?_
          have e : uc' = uc := rc.only r2
          subst e
          exact PySem.W.kia_one kx I1.kIn hP (C.isi tn cn b (isAny_one hb) tv uc' ht cv) hne fun tk => ⟨.bl b, H1, I1.tok tk, rfl, q.here m rfl⟩
        · exact q.elim
      · exact q.elim
    · cases hcs
  · rename_i ees kk pc
    split at hcs
    case isFalse => cases hcs
    rename_i hlen
    obtain ⟨us0, vs0, hu, hl, hst, hp, hk⟩ := pa_clss C hcs
    refine PyProof.Rows.callWith_builtin1 (thn (pa_cons ha (pa_cons (pe_tup hp) pa_nil (noStar_of rfl)) (noStar_of hs) pos pins s σ H (fun vs H2 => ∃ v tp H1 t μ1 α1, vs = [v, .ref tp] ∧ H1 tp = none ∧ H2 = upd H1 tp (.tup vs0) ∧ Stp α H α1 H1 ∧ MRel D φ α1 H1 μ1 ∧ Den D φ α1 H1 t v ∧ Post D W φ α1 H1 σ (RV D φ Q) (match tyN Γ.xcs t μ1 with | some t => (match isAny Γ t cs with | some b => .ok (.bl b) μ1 | none => .st) | none => .st)) I ⟨φ, α, τ, μ, sr, mr, p.bind.mono fun t μ' α' H' st m q v d => ⟨by rw [hl]; exact room_line (by simpa using hlen), fun tp htp => ⟨v, tp, H', t, μ', α', rfl, htp, rfl, st, m, d, q⟩⟩⟩) ?_) (noStar_of hs) (noStars (by rfl))
    rintro us s1 ⟨vs, H2, I1, rv, v, tp, H1, t, μ1, α1, rfl, htp, rfl, st, m, d, q⟩
    obtain ⟨u, ut, rfl, r1, r2⟩ := vals2 rv
    have r2 : ut = Value.ref tp := r2
    subst r2
    have sm : Same H1 (upd H1 tp (.tup vs0)) := same_upd htp
    split at q
    · rename_i tn htn
      split at q
      · rename_i b hb
        refine kit_of C I1 (d.step (Stp.new sm)) r1 htn fun tv P ht kx hP hne => ?_
        obtain ⟨_, its, rvs, ⟨o, ho, hcl, n, hd⟩⟩ := (show ObjOk X.prog X.w _ s1.heap tp (.tup vs0) from I1.hok tp _ upd_same)
        obtain rfl := hu its rvs
        obtain ⟨oc, odd, odt, osl⟩ := o
        simp only at hcl hd
        subst hcl hd
        exact PySem.W.kia_tup kx I1.kIn hP ho (hk tn b hb tv ht) hne fun tk => ⟨.bl b, _, I1.tok tk, rfl, q.fresh m sm rfl⟩
      · exact q.elim
    · exact q.elim
  · cases hcs
end
end NH
end
section
set_option linter.all false
set_option maxRecDepth 100000
set_option maxHeartbeats 4000000
namespace NH
open PySem PySem.Spec PyProof.Rows L2
section
variable {X : Cx} {D : DP} {W : XW} {Γ : Cn} {k : Nat} {pins : List (Addr × Obj)} {s : Shared} {σ : St} {H : Hp} {φ α : List Addr} {τ : Sl} {μ : Mem} {f g h : Sl → Mem → RE T} {a b c : Expr} {pos : Pos} {es : List Expr}

/-- a built-in of one argument, by what it does to a tree -/
def B1 (X : Cx) (D : DP) (W : XW) (fv : Value) (op : T → Mem → RE T) : Prop :=
  ∀ (pins : List (Addr × Obj)) (s : Shared) (σ : St) (H : Hp) (φ α : List Addr) (μ : Mem) (t : T) (v : V) (u : Value) (Q : VK), Inv X pins σ H s → MRel D φ α H μ → Den D φ α H t v → RelV v u → Post D W φ α H σ (RV D φ Q) (op t μ) →
    wpAny (model X.prog X.w) X.A (call fv [u]) (EP X pins σ Q) X.xe s
theorem se_b1 (C : Ck D W Γ X k) {x : Str} {id : String} {op : T → Mem → RE T} {p0 : Pos} (hx : x ∈ Γ.G) (hg : Γ.gl x = .none) (hv : bootBuiltins x = some (.builtin id)) (hn : x ≠ "__name__") (hs : noStar a = true) (hb : B1 X D W (.builtin id) op) (ha : PE X a (rdE D W f)) :
    PE X (.Call (.Name x p0) [a] [] pos) (rdE D W fun τ μ => (f τ μ).bind op) := by
  have hm := C.glo _ hx
  rw [hg] at hm
  rintro pins s σ H Q I ⟨φ, α, τ, μ, sr, mr, p⟩
  refine wpAny_Call_Name_kw (ld_blt I (C.glb _ hx) hm hv ?_ hn (C.dbG _ hx))
  refine PyProof.Rows.callWith_builtin1 (thn (pa_cons ha pa_nil (noStar_of hs) pos pins s σ H (fun vs H1 => ∃ v t μ1 α1, vs = [v] ∧ Stp α H α1 H1 ∧ MRel D φ α1 H1 μ1 ∧ Den D φ α1 H1 t v ∧ Post D W φ α1 H1 σ (RV D φ Q) (op t μ1)) I ⟨φ, α, τ, μ, sr, mr, p.bind.mono fun t μ' α' H' st m q v d => ⟨v, t, μ', α', rfl, st, m, d, q⟩⟩) ?_) (noStar_of hs) (noStars (by rfl))
  rintro us s1 ⟨vs, H1, I1, rv, v, t, μ1, α1, rfl, st, m, d, q⟩
  obtain ⟨u, rfl, r1⟩ := vals1 rv
  exact hb pins s1 σ H1 φ α1 μ1 t v u Q I1 m d r1 q
theorem se_bT (C : Ck D W Γ X k) {x : Str} {id : String} {op : T → Mem → RE T} {p0 : Pos} (hx : x ∈ Γ.G) (hg : Γ.gl x = .none) (hv : bootBuiltins x = some (.type id)) (hn : x ≠ "__name__") (hs : noStar a = true) (hb : B1 X D W (.type id) op) (ha : PE X a (rdE D W f)) :
    PE X (.Call (.Name x p0) [a] [] pos) (rdE D W fun τ μ => (f τ μ).bind op) := by
  have hm := C.glo _ hx
  rw [hg] at hm
  rintro pins s σ H Q I ⟨φ, α, τ, μ, sr, mr, p⟩
  refine wpAny_Call_Name_kw (ld_blt I (C.glb _ hx) hm hv ?_ hn (C.dbG _ hx))
  refine PyProof.Rows.callWith_type1 (thn (pa_cons ha pa_nil (noStar_of hs) pos pins s σ H (fun vs H1 => ∃ v t μ1 α1, vs = [v] ∧ Stp α H α1 H1 ∧ MRel D φ α1 H1 μ1 ∧ Den D φ α1 H1 t v ∧ Post D W φ α1 H1 σ (RV D φ Q) (op t μ1)) I ⟨φ, α, τ, μ, sr, mr, p.bind.mono fun t μ' α' H' st m q v d => ⟨v, t, μ', α', rfl, st, m, d, q⟩⟩) ?_) (noStar_of hs) (noStars (by rfl))
  rintro us s1 ⟨vs, H1, I1, rv, v, t, μ1, α1, rfl, st, m, d, q⟩
  obtain ⟨u, rfl, r1⟩ := vals1 rv
  exact hb pins s1 σ H1 φ α1 μ1 t v u Q I1 m d r1 q
theorem b_len : B1 X D W (.builtin "len") lenT := by
  intro pins s σ H φ α μ t v u Q I mr d r p
  unfold lenT at p
  split at p
  · obtain ⟨ad, xs, rfl, _, _, q, l⟩ := d
    exact call_len_seq pins s σ H _ _ Q I (.cons r .nil) ⟨ad, xs, rfl, .inl (.inl q), by rw [← l.length]; exact p.here mr rfl⟩
  · obtain ⟨ad, xs, rfl, _, _, q, l⟩ := d
    exact call_len_seq pins s σ H _ _ Q I (.cons r .nil) ⟨ad, xs, rfl, .inr (.inl q), by rw [← l.length]; exact p.here mr rfl⟩
  · cases d
    split at p
    · rename_i hl
      exact call_len_str pins s σ H _ _ Q I (.cons r .nil) ⟨_, rfl, room_line hl, p.here mr rfl⟩
    · exact p.elim
  · split at p
    · rename_i hj
      obtain ⟨ad, hi, rfl⟩ := d
      obtain ⟨xs, q, l⟩ := mr.ob _ ad _ hi hj
      exact call_len_seq pins s σ H _ _ Q I (.cons r .nil) ⟨ad, xs, rfl, .inl (.inl (.inl q)), by rw [← l.length]; exact p.here mr rfl⟩
    · exact p.elim
  · exact p.elim
theorem b_int : B1 X D W (.type "int") intT := by
  intro pins s σ H φ α μ t v u Q I mr d r p
  unfold intT at p
  split at p
  · cases d; exact call_int1 pins s σ H _ _ Q I (.cons r .nil) (.inl ⟨_, rfl, p.here mr rfl⟩)
  · cases d; exact call_int1 pins s σ H _ _ Q I (.cons r .nil) (.inr ⟨_, rfl, p.here mr rfl⟩)
  · exact p.elim
theorem b_tuple : B1 X D W (.type "tuple") tupleT := by
  intro pins s σ H φ α μ t v u Q I mr d r p
  unfold tupleT at p
  split at p
  · obtain ⟨ad, xs, rfl, _, _, q, l⟩ := d
    exact call_tuple_of pins s σ H _ _ Q I (.cons r .nil) ⟨ad, xs, rfl, .inl ⟨.inl q, fun z hz => p.fresh mr (same_upd hz) ⟨z, xs, rfl, fresh_phi mr hz, fresh_out mr hz, .inl upd_same, l.step (Stp.new (same_upd hz))⟩⟩⟩
  · split at p
    · rename_i hj
      obtain ⟨ad, hi, rfl⟩ := d
      obtain ⟨xs, q, l⟩ := mr.ob _ ad _ hi hj
      exact call_tuple_of pins s σ H _ _ Q I (.cons r .nil) ⟨ad, xs, rfl, .inl ⟨.inl (.inl q), fun z hz => p.fresh mr (same_upd hz) ⟨z, xs, rfl, fresh_phi mr hz, fresh_out mr hz, .inl upd_same, l.step (Stp.new (same_upd hz))⟩⟩⟩
    · exact p.elim
  · exact p.elim
theorem b_list : B1 X D W (.type "list") listT := by
  intro pins s σ H φ α μ t v u Q I mr d r p
  unfold listT at p
  split at p
  · obtain ⟨ad, xs, rfl, _, _, q, l⟩ := d
    exact call_list_of pins s σ H _ _ Q I (.cons r .nil) ⟨ad, xs, rfl, .inl (.inl q), fun z hz => p.fresh mr (same_upd hz) ⟨z, xs, rfl, fresh_phi mr hz, fresh_out mr hz, .inl upd_same, l.step (Stp.new (same_upd hz))⟩⟩
  · obtain ⟨ad, xs, rfl, _, _, q, l⟩ := d
    exact call_list_of pins s σ H _ _ Q I (.cons r .nil) ⟨ad, xs, rfl, .inr (.inl q), fun z hz => p.fresh mr (same_upd hz) ⟨z, xs, rfl, fresh_phi mr hz, fresh_out mr hz, .inl upd_same, l.step (Stp.new (same_upd hz))⟩⟩
  · split at p
    · rename_i hj
      obtain ⟨ad, hi, rfl⟩ := d
      obtain ⟨xs, q, l⟩ := mr.ob _ ad _ hi hj
      exact call_list_of pins s σ H _ _ Q I (.cons r .nil) ⟨ad, xs, rfl, .inl (.inl (.inl q)), fun z hz => p.fresh mr (same_upd hz) ⟨z, xs, rfl, fresh_phi mr hz, fresh_out mr hz, .inl upd_same, l.step (Stp.new (same_upd hz))⟩⟩
    · exact p.elim
  · exact p.elim
/-- a new thing upon the store -/
theorem stp_lay {p : Addr} {o : HO} (hp : H p = none) : Stp α H (α ++ [p]) (upd H p o) := ⟨⟨[p], rfl, by simpa using hp⟩, fun b u _ e => same_upd hp b u e, fun b e => by
  by_cases z : b = p
  · rw [z, upd_same] at e; cases e
  · rw [upd_ne z] at e; exact e⟩
theorem MRel.lay {p : Addr} {ts : List T} {vs : List V} (m : MRel D φ α H μ) (hp : H p = none) (l : DenL D φ α H ts vs) : MRel D φ (α ++ [p]) (upd H p (.lst vs)) (μ ++ [.lst ts]) := by
  have st : Stp α H (α ++ [p]) (upd H p (.lst vs)) := stp_lay hp
  have hl := m.len
  refine ⟨by simp [hl], ?_, fun b hb => ?_, fun b hb => ?_, fun i a o e1 e2 => ?_⟩
  · rw [List.nodup_append]
    refine ⟨m.nd, by simp, fun a ha b hb => ?_⟩
    rw [List.mem_singleton.mp hb]
    intro z
    exact fresh_out m hp (z ▸ ha)
  · rcases List.mem_append.mp hb with h | h
    · exact m.dis b h
    · rw [List.mem_singleton.mp h]; exact fresh_phi m hp
  · obtain ⟨u, e⟩ := m.phi b hb
    exact ⟨u, same_upd hp b u e⟩
  · by_cases hi : i < α.length
    · rw [List.getElem?_append_left hi] at e1
      rw [List.getElem?_append_left (by omega)] at e2
      have d := m.ob i a o e1 e2
      obtain ⟨u, q⟩ := d.some
      exact d.step st ((same_upd hp _ _ q).trans q.symm)
    · rw [List.getElem?_append_right (by omega)] at e1 e2
      have hi' : i - α.length = 0 := by
        by_cases z : i - α.length = 0
        · exact z
        · rw [List.getElem?_eq_none (by simp; omega)] at e1; cases e1
      have hi2 : i - μ.length = 0 := by omega
      rw [hi'] at e1
      rw [hi2] at e2
      have e1 : some p = some a := e1
      have e2 : some (MO.lst ts) = some o := e2
      cases e1; cases e2
      exact ⟨vs, upd_same, l.step st⟩
/-- .. met where a list was laid -/
theorem Post.lay {Q : VK} {p : Addr} {ts : List T} {vs : List V} (q : Post D W φ α H σ (RV D φ Q) (.ok (.mut μ.length) (μ ++ [.lst ts]))) (m : MRel D φ α H μ) (hp : H p = none) (l : DenL D φ α H ts vs) : Q (.ref p) (upd H p (.lst vs)) :=
  q (α ++ [p]) _ (stp_lay hp) (m.lay hp l) _ ⟨p, by rw [← m.len, List.getElem?_append_right (Nat.le_refl _)]; simp, rfl⟩
theorem b_lay : B1 X D W (.type "list") layT := by
  intro pins s σ H φ α μ t v u Q I mr d r p
  unfold layT at p
  split at p
  · obtain ⟨ad, xs, rfl, _, _, q, l⟩ := d
    exact call_list_of pins s σ H _ _ Q I (.cons r .nil) ⟨ad, xs, rfl, .inl (.inl q), fun z hz => p.lay mr hz l⟩
  · obtain ⟨ad, xs, rfl, _, _, q, l⟩ := d
    exact call_list_of pins s σ H _ _ Q I (.cons r .nil) ⟨ad, xs, rfl, .inr (.inl q), fun z hz => p.lay mr hz l⟩
  · split at p
    · rename_i hj
      obtain ⟨ad, hi, rfl⟩ := d
      obtain ⟨xs, q, l⟩ := mr.ob _ ad _ hi hj
      exact call_list_of pins s σ H _ _ Q I (.cons r .nil) ⟨ad, xs, rfl, .inl (.inl (.inl q)), fun z hz => p.lay mr hz l⟩
    · exact p.elim
  · exact p.elim
theorem se_lay {F : Expr → Sl → Mem → RE T} (hl : es.length ≤ room) (ha : PA X es (rdA D W (evL F es))) : PE X (.List es pos) (rdE D W fun τ μ => (evL F es τ μ).bind fun ts μ1 => .ok (.mut μ1.length) (μ1 ++ [.lst ts])) := by
  refine PE.mono (pe_lst ha) ?_
  rintro σ H Q ⟨φ, α, τ, μ, sr, mr, p⟩
  refine ⟨φ, α, τ, μ, sr, mr, ?_⟩
  dsimp only at p
  cases hr : evL F es τ μ with
  | ok ts μ1 =>
    rw [hr] at p
    intro α' H' st m vs dl
    have el := evL_len hr
    refine ⟨by rw [← dl.length, el]; exact room_line hl, fun q hq => ?_⟩
    exact p (α' ++ [q]) _ (st.trans (stp_lay hq)) (m.lay hq dl) _ ⟨q, by rw [← m.len, List.getElem?_append_right (Nat.le_refl _)]; simp, rfl⟩
  | ex c μ1 => rw [hr] at p; exact p
  | st => rw [hr] at p; exact p
theorem bools_at : ∀ {ts : List T} {bs : List Bool} {vs : List V} {us : List Value}, bools ts = some bs → DenL D φ α H ts vs → Vals vs us → us = bs.map Value.bool
  | [], bs, vs, us, h, l, r => by
    simp [bools] at h; subst h
    have l : vs = [] := l
    subst l; cases r; rfl
  | t :: ts, bs, vs, us, h, l, r => by
    obtain ⟨v, w, rfl, d, l⟩ := l
    cases t with
    | bl b =>
      simp only [bools] at h
      cases q : bools ts with
      | none => rw [q] at h; cases h
      | some cs =>
        rw [q] at h; cases h
        cases r with
        | cons r1 r2 =>
          cases d; cases r1
          rw [bools_at q l r2]; rfl
    | _ => simp [bools] at h
theorem b_all (hh : X.calm = true) : B1 X D W (.builtin "all") allT := by
  intro pins s σ H φ α μ t v u Q I mr d r p
  unfold allT at p
  split at p
  case h_2 => exact p.elim
  split at p
  case h_2 => exact p.elim
  rename_i xs bs hb
  obtain ⟨ad, vs, rfl, _, _, q, l⟩ := d
  cases r
  obtain ⟨its, rv, pl, hz⟩ := I.list (.inl q)
  have eb := bools_at hb l rv
  have hl := pl.isList
  have hlt : ad < s.heap.objs.size := by obtain ⟨_, e, _⟩ := hl; exact Heap.lt_size e
  refine call_all_walk (wpAny_pyIter_list hl ?_)
  refine ⟨s.heap.objs.size, [s.heap.objs.size, ad], [s.heap.objs.size], its.toArray.size, _, _, fun i => (bs[i]?).getD true, rfl, Walks.list (A := X.A.in1) (I.ok.hd hh) _ ad (Nat.ne_of_lt hlt) its.toArray,
    ⟨⟨_, Heap.get?_push_size _ rfl, rfl, rfl⟩, hl.push _⟩, fun i v s' Q' E' hP hQ => ?_, fun h' tk hk => ?_⟩
  · have hP' : its[i]? = some v := by simpa using hP
    rw [eb, List.getElem?_map] at hP'
    cases e : bs[i]? with
    | none => rw [e] at hP'; cases hP'
    | some b =>
      rw [e] at hP'
      simp at hP'
      subst hP'
      simp only [e, Option.getD_some] at hQ
      exact wpAny_truthy_bool hQ
  · have e : ((List.range its.toArray.size).all fun i => (bs[i]?).getD true) = bs.all id := by
      have hn : its.toArray.size = bs.length := by simp [eb]
      rw [hn]
      rw [Bool.eq_iff_iff]
      simp only [List.all_eq_true, List.mem_range, id_eq]
      constructor
      · intro h b hb'
        obtain ⟨i, hi, rfl⟩ := List.mem_iff_getElem.mp hb'
        have := h i hi
        simpa [hi] using this
      · intro h i hi
        have := h bs[i] (List.getElem_mem hi)
        simpa [hi] using this
    rw [e]
    have kp : ∀ b x, s.heap.get? b = some x → h'.get? b = some x := fun b x e => hk b x (fun hm => by rw [List.mem_singleton.mp hm] at e; exact Nat.lt_irrefl _ (Heap.lt_size e)) (Heap.get?_push_of_some _ e)
    exact ⟨.bl (bs.all id), H, I.kept (t' := tk) kp, rfl, p.here mr rfl⟩
/-- one of the store's things turns -/
theorem Stp.turn {x : Addr} {o : HO} (hx : x ∈ α) (hh : ∃ o', H x = some o') : Stp α H α (upd H x o) := by
  refine ⟨⟨[], by simp, by simp⟩, fun b u n e => ?_, fun b e => ?_⟩
  · rw [upd_ne (fun (z : b = x) => n (by rw [z]; exact hx))]; exact e
  · by_cases z : b = x
    · rw [z, upd_same] at e; cases e
    · rw [upd_ne z] at e; exact e
theorem MRel.turn {i : Nat} {x : Addr} {o : HO} {mo : MO} (m : MRel D φ α H μ) (hx : α[i]? = some x) (hi : i < μ.length) (st : Stp α H α (upd H x o)) (d : DenO D φ α (upd H x o) mo x) : MRel D φ α (upd H x o) (μ.set i mo) := by
  refine ⟨by simp [m.len], m.nd, m.dis, fun b hb => ?_, fun j y o' e1 e2 => ?_⟩
  · obtain ⟨u, hu⟩ := m.phi b hb
    exact ⟨u, st.keep b u (fun z => m.dis b z hb) hu⟩
  · by_cases q : i = j
    · subst q
      rw [hx] at e1; cases e1
      rw [List.getElem?_set_self hi] at e2; cases e2
      exact d
    · rw [List.getElem?_set_ne q] at e2
      have ne : y ≠ x := fun z => by
        subst z
        obtain ⟨h1, e1'⟩ := List.getElem?_eq_some_iff.mp e1
        obtain ⟨h2, e2'⟩ := List.getElem?_eq_some_iff.mp hx
        exact q ((List.getElem_inj m.nd).mp (e2'.trans e1'.symm))
      exact DenO.step st (upd_ne ne) (m.ob j y o' e1 e2)
theorem DenL.set : ∀ {ts : List T} {vs : List V} {i : Nat} {t : T} {v : V}, DenL D φ α H ts vs → Den D φ α H t v → DenL D φ α H (ts.set i t) (vs.set i v)
  | [], vs, i, t, v, l, d => by have l : vs = [] := l; subst l; exact rfl
  | x :: ts, _, 0, t, v, l, d => by
    obtain ⟨w, r, rfl, dw, l⟩ := l
    exact ⟨v, r, rfl, d, l⟩
  | x :: ts, _, i + 1, t, v, l, d => by
    obtain ⟨w, r, rfl, dw, l⟩ := l
    exact ⟨w, r.set i v, rfl, dw, DenL.set l d⟩
theorem se_app {o : Str} {po pa pc : Pos} {go : Sl → Mem → RE T} (hs : noStar a = true) (hline : (pa.endLine == pc.line) = true) (ho : PE X (.Name o po) (rdE D W go)) (ha : PE X a (rdE D W f)) :
    PE X (.Call (.Attribute (.Name o po) "append" pa) [a] [] pc) (rdE D W fun τ μ => (go τ μ).bind fun ot μ1 => (match isLst ot μ1 with | some i => (f τ μ1).bind fun t μ2 => appT i t μ2 | none => .st)) := by
  have hb : starEach [a] X.env = [(false, eval a X.env)] := noStar_of hs
  refine PE.mono (pe_bm PySem.F.plainAttrs_list PySem.F.slot_list_append PySem.F.type_list_append mt_append ho (pa_cons ha pa_nil (noStar_of hs)) rfl (by rw [hb]; rfl) hline (noStar_of hs) rfl) ?_
  rintro σ H Q ⟨φ, α, τ, μ, sr, mr, p⟩
  refine ⟨φ, α, τ, μ, sr, mr, p.bind.mono fun ot μ1 α1 H1 st1 m1 q ov dv => ?_⟩
  cases hp : isLst ot μ1 with
  | none => rw [hp] at q; exact q.elim
  | some i =>
    rw [hp] at q
    unfold isLst at hp
    split at hp
    case h_2 => cases hp
    split at hp
    case h_2 => cases hp
    rename_i j _ ts0 hμ0
    cases hp
    obtain ⟨x, hx, rfl⟩ := dv
    obtain ⟨xs0, hH0, l0⟩ := m1.ob _ x _ hx hμ0
    refine ⟨.inl ⟨rfl, _, .inl (.inl hH0)⟩, φ, α1, τ, μ1, sr.step st1, m1, q.bind.mono fun t μ2 α2 H2 st2 m2 q2 v d => ?_⟩
    unfold appT at q2
    split at q2
    case h_2 => exact q2.elim
    split at q2
    case isFalse => exact q2.elim
    rename_i ts hμ hl
    obtain ⟨β, e2, _⟩ := st2.ext
    have hx2 : α2[i]? = some x := by
      rw [e2, List.getElem?_append_left (List.getElem?_eq_some_iff.mp hx).1]; exact hx
    obtain ⟨xs, hH, l⟩ := m2.ob i x _ hx2 hμ
    have st3 : Stp α2 H2 α2 (upd H2 x (.lst (xs ++ [v]))) := Stp.turn (List.mem_of_getElem? hx2) ⟨_, hH⟩
    have hi : i < μ2.length := (List.getElem?_eq_some_iff.mp hμ).1
    refine ⟨x, xs, v, rfl, rfl, hH, ?_, ?_⟩
    · rw [← l.length]; exact Nat.lt_of_lt_of_le hl (room_line (Nat.le_refl _))
    · exact q2 α2 _ st3 (m2.turn hx2 hi st3 ⟨_, upd_same, (l.step st3).append ⟨v, [], rfl, d.step st3, rfl⟩⟩) .non rfl
end
end NH
end
section
set_option linter.all false
set_option maxRecDepth 100000
set_option maxHeartbeats 4000000
namespace NH
open PySem PySem.Spec PyProof.Rows L2
open PySem.Builtin PySem.Builtin.Str PySem.Builtin.Int
/-! ### what a list's reverse iterator holds, collected and joined -/
theorem lri_nolen : typeLookup (.type "list_reverseiterator") "__len__" = pure none := by
  rw [typeLookup_type, builtinLookup_eq_fast]; kernel_rfl
theorem lri_hint : typeLookup (.type "list_reverseiterator") "__length_hint__" = pure (some (.builtin "list_reverseiterator.__length_hint__")) := by
  rw [typeLookup_type, builtinLookup_eq_fast]; kernel_rfl
section
variable {prog : Program} {w : World} {A : Around} {E : Value → Shared → Prop} {s : Shared} {I l : Addr} {items : Array Value}
def revAt (items : Array Value) : Nat → Value → Prop := fun i v => items[items.size - 1 - i]? = some v
theorem collect_rev {Q : List Value → Shared → Prop} (hh : A.handled = none) (hit : s.heap.IsRevIter I l ((items.size : Int) - 1)) (hl : s.heap.IsList l items) (hne : l ≠ I) (hn : items.size ≤ sizeLine)
    (hQ : ∀ s' acc, (∀ b o, b ≠ I → s.heap.get? b = some o → s'.heap.get? b = some o) → s'.gens = s.gens → s'.drawn = s.drawn → s'.os = s.os → ItemsOf (revAt items) acc items.size → Q acc.toList s') : wpAny (model prog w) A (collect (.ref I)) Q E s := by
  have W := (Walks.listRev (prog := prog) (w := w) (A := A.in1) hh I l hne items).toS
  have st0 : (0 ≤ items.size ∧ s.heap.IsRevIter I l ((items.size : Int) - 1 - ((0 : Nat) : Int)) ∧ s.heap.IsList l items) := ⟨Nat.zero_le _, by simpa using hit, hl⟩
  have iS : I < s.heap.objs.size := by obtain ⟨o, ho, _⟩ := hit; exact Heap.lt_size ho
  have lS : l < s.heap.objs.size := by obtain ⟨o, ho, _⟩ := hl; exact Heap.lt_size ho
  have hSI : s.heap.objs.size ≠ I := fun e => Nat.lt_irrefl _ (show s.heap.objs.size < s.heap.objs.size from e ▸ iS)
  have hSl : s.heap.objs.size ≠ l := fun e => Nat.lt_irrefl _ (show s.heap.objs.size < s.heap.objs.size from e ▸ lS)
  have hSf : s.heap.objs.size ∉ [I, l] := by simp [hSI, hSl]
  unfold collect
  refine wpAny_bind (wpAny_runValue (codeAny_builtin F.entry_proto_collect ?_))
  rw [Around.under_plainId F.plain_proto_collect _]
  show wpAny _ A.in1 (newList [] >>= fun l => again (.builtin "list.__iadd__" ⟨[l, .ref I], []⟩)) _ _ s; refine wpAny_bind (wpAny_newObj_type (wpAny_pure ⟨plainId_quiet F.plain_list_iadd _, codeAny_builtin F.entry_list_iadd ?_⟩)); rw [Around.under_plainId F.plain_list_iadd _]
  have st1 := W.frame 0 s (s.heap.push { cls := .type "list", data := .seq ([] : List Value).toArray }) s.toks st0 (Nat.le_refl _) fun b _ o e => Heap.get?_push_of_some _ e; have hS1 : (s.heap.push { cls := .type "list", data := .seq ([] : List Value).toArray }).get? s.heap.objs.size = some { cls := .type "list", data := .seq ([] : List Value).toArray } := Heap.get?_push_size _ rfl
  have h1 : Builtin.List.listSameRef (.ref s.heap.objs.size) (.ref I) = false := by simp [Builtin.List.listSameRef, hSI]
  have hT : ∀ i (s : Shared), (i ≤ items.size ∧ s.heap.IsRevIter I l ((items.size : Int) - 1 - (i : Int)) ∧ s.heap.IsList l items) → s.TypeIs (.ref I) "list_reverseiterator" := fun i s st => st.2.1.typeIs
  show wpAny _ A.in1 (Builtin.List.listExtendWith (.ref s.heap.objs.size) (.ref I) (.ref s.heap.objs.size)) _ _ _; unfold Builtin.List.listExtendWith; refine wpAny_bind (wpAny_typeOf (hT 0 _ st1) ?_); rw [if_neg (by rw [h1]; decide)]; refine wpAny_bind (W.self 0 _ _ _ st1 (wpAny_bind (wpAny_holding ?_)))
  unfold Builtin.List.listLengthHint; refine wpAny_bind (wpAny_specialOf (hT 0 _ st1) lri_nolen ?_)
  show wpAny _ A.in1 (specialOf (Value.ref I) (Str.ofString "__length_hint__") >>= _) _ _ _; refine wpAny_bind (wpAny_specialOf (hT 0 _ st1) lri_hint ?_)
  (generalize hid : ("list_reverseiterator.__length_hint__" : String) = id0; (fail_if_success (clear hid id0)); wp_delta; rw [show splitId id0 = some ("list_reverseiterator", "__length_hint__") from by subst hid; decide +kernel]; subst hid)
  refine wpAny_bind (wpAny_isInstance (b := true) (hT 0 _ st1) (by rw [isSubtype_type]; kernel_rfl) ?_)
  refine wpAny_pure ?_; rw [if_neg (by decide)]
  refine wpAny_pure ⟨plainId_quiet F.plain_extend_loop _, codeAny_extend_loopS W hn _ hSf _ items.size 0 _ _ _ rfl (Nat.zero_le _) st1 hS1 (ItemsOf.nil _) fun s' acc' c' hm hS' hacc => ?_⟩; show wpAny _ A (load s.heap.objs.size >>= _) _ _ s'; refine wpAny_bind (wpAny_load hS' (wpAny_pure ?_))
  have hm := Moved.drop_new (o := { cls := .type "list", data := .seq ([] : List Value).toArray }) (tk := s.toks) hm (Nat.le_refl _)
  exact hQ s' acc' (fun b o hb e => hm.heap b o (fun h => hb (List.mem_singleton.mp h)) e) hm.gens hm.drawn hm.os hacc
theorem gives_of (sep : Str) (ls : List (Str × Tok)) (h : tooLong ((ls.map (·.1)).toArray.foldl (· + ·.length + sep.length) 0) = false) : Gives (joinTail sep (strValues ls)) (joinMade sep ls) := by
  have g0 := gives_joinTail sep ls h
  cases ls with
  | nil => exact g0
  | cons p r => cases r with
    | nil => exact g0
    | cons q r' => exact g0
theorem join_rev {sep : Str} {t : Tok} {Q : Value → Shared → Prop} {ys : List (Str × Tok)} (hh : A.handled = none) (hit : s.heap.IsRevIter I l ((ys.length : Int) - 1)) (hl : s.heap.IsList l (strValues ys).toArray) (hne : l ≠ I) (hn : ys.length ≤ sizeLine) (hok : JoinOk sep ((ys.map (·.1)).reverse) = true)
    (hQ : ∀ (s' : Shared) t' k, (∀ b o, b ≠ I → s.heap.get? b = some o → s'.heap.get? b = some o) → s'.gens = s.gens → s'.drawn = s.drawn → s'.os = s.os → Q (.str (Txt.join sep ((ys.map (·.1)).reverse)) t') { s' with toks := k }) :
    wpAny (model prog w) A (call (.builtin "str.join") [.str sep t, .ref I]) Q E s := by
  have hlen : (strValues ys).toArray.size = ys.length := by simp [strValues]
  refine wpAny_call (codeAny_call_builtin F.slot_str_join.plain F.entry_str_join (F.slot_str_join.check _ _ _ _ _ _ _ _ (typeIs_str _ _ _) (F.args_str_join_2 _ _) ?_))
  rw [join_tree_other]
  refine wpAny_bind (wpAny_typeOf hit.typeIs ?_)
  show wpAny _ A.in1 ((pyIter (.ref I)).tryCatch _ >>= fun it => collect it >>= fun items => joinTail sep items) _ _ s
  refine wpAny_bind (wpAny_tryCatch (wpAny_pyIter_revIter hit ?_))
  refine wpAny_bind (collect_rev (A := A.in1) hh (by rw [hlen]; exact hit) hl hne (by rw [hlen]; exact hn) fun s' acc k1 k2 k3 k4 hacc => ?_)
  have e : acc.toList = strValues ys.reverse := by
    obtain ⟨h1, h2⟩ := hacc
    rw [hlen] at h1
    refine List.ext_getElem? fun j => ?_
    by_cases hj : j < ys.length
    · have hj' : j < acc.size := by omega
      have q := h2 j acc[j] (Array.getElem?_eq_getElem hj')
      unfold revAt at q
      rw [hlen] at q
      rw [Array.getElem?_toList, Array.getElem?_eq_getElem hj', ← q]
      simp only [strValues, List.getElem?_toArray, List.getElem?_map]
      rw [List.getElem?_reverse hj]
    · rw [List.getElem?_eq_none (by simp; omega), List.getElem?_eq_none (by simp [strValues]; omega)]
  rw [e]
  have er : (ys.reverse.map (·.1)) = (ys.map (·.1)).reverse := by rw [List.map_reverse]
  rw [← er] at hok hQ
  have hok' := hok
  unfold JoinOk at hok'
  rw [Bool.not_eq_true'] at hok'
  have g := gives_of sep ys.reverse hok'
  exact g prog w A (wants Q E) s' (post_join ys.reverse ⟨joinFit_length hok', fun t' k => hQ s' t' k k1 k2 k3 k4⟩)
end
section
variable {X : Cx} {D : DP} {W : XW} {Γ : Cn} {k : Nat} {pins : List (Addr × Obj)} {s : Shared} {σ : St} {H : Hp} {φ α : List Addr} {τ : Sl} {μ : Mem} {f g h : Sl → Mem → RE T} {a b c : Expr} {pos : Pos} {es : List Expr}
theorem strsOf_at : ∀ {ts : List T} {ys : List Str} {vs : List V} {us : List Value}, strsOf ts = some ys → DenL D φ α H ts vs → Vals vs us → ∃ ls : List (Str × Tok), strValues ls = us ∧ ls.map (·.1) = ys
  | [], ys, vs, us, h, l, r => by
    simp [strsOf] at h; subst h
    have l : vs = [] := l
    subst l; cases r; exact ⟨[], rfl, rfl⟩
  | t :: ts, ys, vs, us, h, l, r => by
    obtain ⟨v, w, rfl, d, l⟩ := l
    cases t with
    | str x =>
      simp only [strsOf] at h
      cases q : strsOf ts with
      | none => rw [q] at h; cases h
      | some zs =>
        rw [q] at h; cases h
        cases r with
        | cons r1 r2 =>
          have d : v = .str x := d
          subst d
          obtain ⟨t0, rfl⟩ := r1
          obtain ⟨ls, rfl, e⟩ := strsOf_at q l r2
          exact ⟨(x, t0) :: ls, rfl, by simp [e]⟩
    | _ => simp [strsOf] at h
theorem se_joinR (C : Ck D W Γ X k) (hc : Γ.calm = true) {sep : Str} {k0 : Nat} {x : Str} {p0 pa pr px pq pc : Pos} (hx : ("reversed" : Str) ∈ Γ.G) (hg : Γ.gl "reversed" = .none) (hline : (pa.endLine == pc.line) = true) (ha : PE X (.Name x px) (rdE D W f)) :
    PE X (.Call (.Attribute (.Constant (.str sep) k0 p0) "join" pa) [.Call (.Name "reversed" pr) [.Name x px] [] pq] [] pc) (rdE D W fun τ μ => (f τ μ).bind fun t μ1 => joinT sep t μ1) := by
  have hm := C.glo _ hx
  rw [hg] at hm
  rintro pins s σ H Q I ⟨φ, α, τ, μ, sr, mr, p⟩
  refine wpAny_Call_method_late rfl rfl hline rfl (thn (pe_str (X := X) pins s σ H (fun v H1 => v = .str sep ∧ H1 = H) I ⟨rfl, rfl⟩) ?_)
  rintro v s1 ⟨x1, H1, I1, r1, rfl, rfl⟩
  obtain ⟨t0, rfl⟩ := r1
  refine ⟨"str", "str.join", PySem.F.plainAttrs_str, PySem.F.slot_str_join, PySem.F.type_str_join, typeIs_str _ _ _, (fun a e => by cases e), ?_⟩
  refine Calls.callWith_builtin rfl (Calls.evalArgs_plain (Calls.spliced_cons ?_))
  refine wpAny_Call_Name_kw (ld_blt I1 (C.glb _ hx) hm (show bootBuiltins "reversed" = some (.type "reversed") by decide +kernel) ?_ (by decide) (C.dbG _ hx))
  refine PyProof.Rows.callWith_type1 (thn (pa_cons ha pa_nil rfl pq pins s1 σ H1 (fun vs H2 => ∃ v t μ1 α1, vs = [v] ∧ Stp α H1 α1 H2 ∧ MRel D φ α1 H2 μ1 ∧ Den D φ α1 H2 t v ∧ Post D W φ α1 H2 σ (RV D φ Q) (joinT sep t μ1)) I1 ⟨φ, α, τ, μ, sr, mr, p.bind.mono fun t μ' α' H' st m q v d => ⟨v, t, μ', α', rfl, st, m, d, q⟩⟩) ?_) rfl rfl
  rintro us s2 ⟨vs, H2, I2, rv, v, t, μ1, α1, rfl, st, m, d, q⟩
  obtain ⟨u, rfl, r2⟩ := vals1 rv
  unfold joinT at q
  split at q
  case h_2 => exact q.elim
  rename_i ys hys
  split at q
  case isFalse => exact q.elim
  rename_i hok
  have key : ∃ ad ls, u = .ref ad ∧ s2.heap.IsList ad (strValues ls).toArray ∧ ls.map (·.1) = ys := by
    unfold seqStrs at hys
    split at hys
    · obtain ⟨ad, xs, rfl, _, _, rd, l⟩ := d
      cases r2
      obtain ⟨its, rv2, pl, hz⟩ := I2.list (.inl rd)
      obtain ⟨ls, e1, e2⟩ := strsOf_at hys l rv2
      exact ⟨ad, ls, rfl, by rw [e1]; exact pl.isList, e2⟩
    · split at hys
      · rename_i hj
        obtain ⟨ad, hi, rfl⟩ := d
        cases r2
        obtain ⟨xs, e, l⟩ := m.ob _ ad _ hi hj
        obtain ⟨its, rv2, pl, hz⟩ := I2.list (.inl (.inl e))
        obtain ⟨ls, e1, e2⟩ := strsOf_at hys l rv2
        exact ⟨ad, ls, rfl, by rw [e1]; exact pl.isList, e2⟩
      · cases hys
    · cases hys
  obtain ⟨ad, ls, rfl, hl, e2⟩ := key
  have hlt : ad < s2.heap.objs.size := by obtain ⟨o, ho, _⟩ := hl; exact Heap.lt_size ho
  have hne : ad ≠ s2.heap.objs.size := Nat.ne_of_lt hlt
  have hlen : ls.length = ys.length := by rw [← e2, List.length_map]
  refine call_reversed_list hl (Calls.spliced_nil ?_)
  have hsz : (strValues ls).toArray.size = ls.length := by simp [strValues]
  have F := I2.fpOk (H' := H2) (Nat.le_refl _) (I2.hok.fresh (Nat.le_refl _))
  have I3 : Inv X pins σ H2 { s2 with heap := s2.heap.push (revObj ad (((strValues ls).toArray.size : Int) - 1)) } := I2.kept (t' := s2.toks) fun b o e => Heap.get?_push_of_some _ e
  refine join_rev (I := s2.heap.objs.size) (l := ad) (ys := ls) (I3.ok.hd (C.clm hc)) ⟨_, Heap.get?_push_size _ rfl, rfl, by rw [← hsz]; rfl⟩ (hl.push _) hne (by rw [hlen]; exact room_line hok.2) (by rw [e2]; exact hok.1) fun s' t' kk k1 k2 k3 k4 => ?_
  obtain ⟨f0, f1, f2, f3, f4, f5⟩ := F
  have es : { s' with toks := kk } = { { s2 with heap := s2.heap.push (revObj ad (((strValues ls).toArray.size : Int) - 1)) } with heap := s'.heap, toks := kk } := by
    obtain ⟨a1, a2, a3, a4, a5⟩ := s'
    have k2 : a2 = s2.gens := k2
    have k3 : a3 = s2.drawn := k3
    have k4 : a5 = s2.os := k4
    subst k2 k3 k4
    rfl
  rw [es, e2]
  exact ⟨.str _, H2, I3.turned (fun b o hb e => k1 b o hb e) f0 f1 f3 f4 f5, ⟨t', rfl⟩, q.here m rfl⟩
/-- x.index(y) -/
theorem mt_index : MtR X "str.index" (fun x vs H Q => ∃ i j n r, x = .str i ∧ vs = [.str j] ∧ Builtin.Str.occurrences i j 0 i.length 1 = n :: r ∧ Q (.int (n : Nat)) H) := by
  intro pins s σ H x vs v us Q I rx rv h
  obtain ⟨i, j, n, r, rfl, rfl, ho, q⟩ := h
  obtain ⟨t0, rfl⟩ := rx
  obtain ⟨u, rfl, t1, rfl⟩ := rv.one
  exact SC.index ho ⟨.int n, H, I.tok _, ⟨_, rfl⟩, q⟩
theorem se_index {o : Str} {po pa pc : Pos} {go : Sl → Mem → RE T} (hs : noStar a = true) (hline : (pa.endLine == pc.line) = true) (ho : PE X (.Name o po) (rdE D W go)) (ha : PE X a (rdE D W f)) :
    PE X (.Call (.Attribute (.Name o po) "index" pa) [a] [] pc) (rdE D W fun τ μ => (go τ μ).bind fun ot μ1 => (match ot with | .str x => (f τ μ1).bind fun t μ2 => indexT x t μ2 | _ => .st)) := by
  have hb : starEach [a] X.env = [(false, eval a X.env)] := noStar_of hs
  refine PE.mono (pe_bm PySem.F.plainAttrs_str PySem.F.slot_str_index PySem.F.type_str_index mt_index ho (pa_cons ha pa_nil (noStar_of hs)) rfl (by rw [hb]; rfl) hline (noStar_of hs) rfl) ?_
  rintro σ H Q ⟨φ, α, τ, μ, sr, mr, p⟩
  refine ⟨φ, α, τ, μ, sr, mr, p.bind.mono fun ot μ1 α1 H1 st1 m1 q ov dv => ?_⟩
  split at q
  case h_2 => exact q.elim
  have dv : ov = .str _ := dv
  subst dv
  refine ⟨rfl, φ, α1, τ, μ1, sr.step st1, m1, q.bind.mono fun t μ2 α2 H2 st2 m2 q2 v d => ?_⟩
  unfold indexT at q2
  split at q2
  case h_2 => exact q2.elim
  split at q2
  case h_2 => exact q2.elim
  rename_i hocc
  have d : v = .str _ := d
  subst d
  exact ⟨_, _, _, _, rfl, rfl, hocc, q2.here m2 rfl⟩
end
end NH
end
section
set_option linter.all false
set_option maxRecDepth 100000
set_option maxHeartbeats 4000000
namespace NH
open PySem PySem.Spec PyProof.Rows L2

/-- what an iterator yields: vs, as long as the heap is Ok -/
structure ItV (J : It) (Ok : Hp → Prop) (vs : List V) : Prop where
  go : ∀ (i : Nat) H, Ok H → i < vs.length → J.go i H
  yld : ∀ (i : Nat) H v H', Ok H → i < vs.length → J.yld i H v H' → H' = H ∧ vs[i]? = some v
  stop : ∀ H, Ok H → J.stop vs.length H
def rdI (D : DP) (W : XW) (f : Sl → Mem → RE (List T)) : TI := fun σ H R => ∃ φ α τ μ, SRel D φ α H τ σ ∧ MRel D φ α H μ ∧
  Post D W φ α H σ (fun xs _ α' H' => ∀ J vs Ok, ItV J Ok vs → DenL D φ α' H' xs vs → (∀ α'' H'', Stp α' H' α'' H'' → Ok H'') → R J H') (f τ μ)

section
variable {X : Cx} {D : DP} {W : XW} {Γ : Cn} {k : Nat} {pins : List (Addr × Obj)} {s : Shared} {σ : St} {H : Hp} {φ α : List Addr} {τ : Sl} {μ : Mem} {f g h : Sl → Mem → RE T} {a b c tg : Expr} {pos : Pos} {es : List Expr}
theorem itv_list {K : PySem.W.Frag} {ad : Addr} {vs : List V} : ItV (Itl K ad) (fun H => Rd H ad (.lst vs)) vs :=
  ⟨fun i H ok hi => ⟨vs, vs[i], .inl ok, by simp [hi]⟩, fun i H v H' ok hi y => ⟨y.1, y.2 vs (.inl ok)⟩, fun H ok => ⟨vs, .inl ok, Nat.le_refl _⟩⟩
theorem itv_tup {K : PySem.W.Frag} {ad : Addr} {vs : List V} : ItV (Itt K ad) (fun H => Rd H ad (.tup vs)) vs :=
  ⟨fun i H ok hi => ⟨vs, vs[i], .inl ok, by simp [hi]⟩, fun i H v H' ok hi y => ⟨y.1, y.2 vs (.inl ok)⟩, fun H ok => ⟨vs, .inl ok, Nat.le_refl _⟩⟩
theorem itv_range {n : Nat} : ItV (Itr 0 n) (fun _ => True) ((List.range n).map fun (i : Nat) => V.int i) :=
  ⟨fun i H _ hi => by (show i < n); simpa using hi, fun i H v H' _ hi y => ⟨y.1, by
    have hi' : i < n := by simpa using hi
    obtain ⟨_, rfl⟩ := y
    simp [hi']⟩, fun H _ => by show n ≤ _; simp⟩
theorem rangeT_den {n : Nat} : DenL D φ α H ((List.range n).map fun (i : Nat) => T.int i) ((List.range n).map fun (i : Nat) => V.int i) := by
  induction (List.range n) with
  | nil => rfl
  | cons x r ih => exact ⟨V.int x, _, rfl, rfl, ih⟩
/-! ### a text's signs -/
def ItC (z : Str) : It := ⟨fun i _ => i < z.cps.toList.length, fun i H x H' => H' = H ∧ ∃ c, z.cps.toList[i]? = some c ∧ x = .str ⟨#[c]⟩, fun i _ => z.cps.toList.length ≤ i⟩
theorem itv_str {z : Str} : ItV (ItC z) (fun _ => True) (z.cps.toList.map fun c => V.str ⟨#[c]⟩) :=
  ⟨fun i H _ hi => by (show i < _); simpa using hi, fun i H v H' _ hi y => ⟨y.1, by
    obtain ⟨c, hc, rfl⟩ := y.2
    rw [List.getElem?_map, hc]; rfl⟩, fun H _ => by show _ ≤ _; simp⟩
theorem signs_den {z : Str} : DenL D φ α H (z.cps.toList.map fun c => T.str ⟨#[c]⟩) (z.cps.toList.map fun c => V.str ⟨#[c]⟩) := by
  induction z.cps.toList with
  | nil => rfl
  | cons c r ih => exact ⟨V.str ⟨#[c]⟩, _, rfl, rfl, ih⟩
theorem turn_str {P : Program} {w : World} {K : PySem.W.Frag} {tg : Expr} {kd : String} (hk : kd = "str_ascii_iterator" ∨ kd = "str_iterator") (it : Addr) (z : Str) (t0 : Tok) : Turn P w K tg (ItC z) [it] it (fun i h => h.IsStrIter it kd z t0 i) where
  mem := by simp
  obj := fun i h st b hb => by
    have e : b = it := by simpa using hb
    subst e
    obtain ⟨o, e, c, d⟩ := st
    exact ⟨o, e, fun v z => by rw [d] at z; cases z⟩
  keep := fun i h h' st k => let ⟨o, ho, r⟩ := st; ⟨o, k it (by simp) o ho, r⟩
  item := by
    intro X hP hw hK hc i pins s σ H E I hf st hg
    subst hP hw hK
    obtain ⟨f0, f1, f2, f3, f4, f5⟩ := hf it (by simp)
    have hi : i < z.cps.size := by simpa [ItC] using hg
    have hcx : z.cps[i]? = some z.cps[i] := Array.getElem?_eq_getElem hi
    have hcl : z.cps.toList[i]? = some z.cps[i] := by rw [Array.getElem?_toList]; exact hcx
    rcases hk with rfl | rfl
    · refine wpAny_pyNext_ascii_item st hcx fun h' st' sb => ?_
      have I1 : Inv X pins σ H { s with heap := h', toks := s.toks + 1 } := I.turned (fun b o hb e => (sb.2 b hb).trans e) f0 f1 f3 f4 f5
      obtain ⟨o, e, c, d⟩ := id st'
      exact ⟨.str ⟨#[z.cps[i]]⟩ s.toks, rfl, go_of (s := { s with heap := h', toks := s.toks + 1 }) e c d (by decide) ⟨.str ⟨#[z.cps[i]]⟩, H, I1, ⟨_, rfl⟩, ⟨rfl, z.cps[i], hcl, rfl⟩, st', fun b hb => (hf b hb).1⟩⟩
    · refine wpAny_pyNext_wide_item st hcx fun h' st' sb => ?_
      have I1 : Inv X pins σ H { s with heap := h', toks := s.toks + 1 } := I.turned (fun b o hb e => (sb.2 b hb).trans e) f0 f1 f3 f4 f5
      obtain ⟨o, e, c, d⟩ := id st'
      exact ⟨.str ⟨#[z.cps[i]]⟩ s.toks, rfl, go_of (s := { s with heap := h', toks := s.toks + 1 }) e c d (by decide) ⟨.str ⟨#[z.cps[i]]⟩, H, I1, ⟨_, rfl⟩, ⟨rfl, z.cps[i], hcl, rfl⟩, st', fun b hb => (hf b hb).1⟩⟩
  done := by
    intro X hP hw hK hc i pins s σ H E I hf st hg
    subst hP hw hK
    obtain ⟨f0, f1, f2, f3, f4, f5⟩ := hf it (by simp)
    have hx : z.cps[i]? = none := Array.getElem?_eq_none (by have : z.cps.toList.length ≤ i := hg; simpa using this)
    rcases hk with rfl | rfl
    · exact wpAny_pyNext_ascii_end (I.ok.hd hc) st hx fun h' eb => ⟨rfl, I.turned (t' := s.toks) (fun b o hb e => eb b o hb e) f0 f1 f3 f4 f5⟩
    · exact wpAny_pyNext_wide_end (I.ok.hd hc) st hx fun h' eb => ⟨rfl, I.turned (t' := s.toks) (fun b o hb e => eb b o hb e) f0 f1 f3 f4 f5⟩
  self := fun _ _ _ _ _ st h => by
    rcases hk with rfl | rfl
    · exact wpAny_pyIter_striter_ascii st h
    · exact wpAny_pyIter_striter_wide st h
theorem si_expr (ha : PE X a (rdE D W f)) : PI X tg a (rdI D W fun τ μ => (f τ μ).bind fun t μ1 => match items t with | some xs => .ok xs μ1 | none => .st) := by
  rintro pins s σ H R I ⟨φ, α, τ, μ, sr, mr, p⟩
  refine thn (sub ha I sr mr p) ?_
  rintro u s1 ⟨v, H1, t, μ1, α1, I1, r1, st1, sr1, mr1, d1, p1⟩
  cases t with
  | lst ts =>
    obtain ⟨ad, vs, rfl, n1, n2, q, l⟩ := d1
    cases r1
    obtain ⟨its, rv, pl, hz⟩ := I1.list (.inl q)
    refine wpAny_pyIter_list pl.isList ?_
    refine ⟨s1.heap.objs.size, [s1.heap.objs.size], _, _, H1, rfl, I1.kept (t' := s1.toks) fun b o e => Heap.get?_push_of_some _ e, turn_list ad _, ⟨_, Heap.get?_push_size _ rfl, rfl, rfl⟩, fun b hb => ?_, ?_⟩
    · have e : b = s1.heap.objs.size := by simpa using hb
      subst e
      exact I1.fpOk (Nat.le_refl _) (I1.hok.fresh (Nat.le_refl _))
    · exact p1 α1 H1 (Stp.refl _ _) mr1 _ vs _ itv_list l fun α'' H'' st => Rd.step st n2 q
  | tup ts =>
    obtain ⟨ad, vs, rfl, n1, n2, q, l⟩ := d1
    cases r1
    obtain ⟨its, rv, pl, hz⟩ := I1.tuple (.inl q)
    refine wpAny_pyIter_tuple (show s1.heap.IsTuple ad its.toArray from pl) ?_
    refine ⟨s1.heap.objs.size, [s1.heap.objs.size], _, _, H1, rfl, I1.kept (t' := s1.toks) fun b o e => Heap.get?_push_of_some _ e, turn_tuple ad _, ⟨_, Heap.get?_push_size _ rfl, rfl, rfl⟩, fun b hb => ?_, ?_⟩
    · have e : b = s1.heap.objs.size := by simpa using hb
      subst e
      exact I1.fpOk (Nat.le_refl _) (I1.hok.fresh (Nat.le_refl _))
    · exact p1 α1 H1 (Stp.refl _ _) mr1 _ vs _ itv_tup l fun α'' H'' st => Rd.step st n2 q
  | str z =>
    have d1 : v = .str z := d1
    subst d1
    obtain ⟨t0, rfl⟩ := r1
    have fin : ∀ {kd : String}, (kd = "str_ascii_iterator" ∨ kd = "str_iterator") → PIE X pins σ tg R (.ref s1.heap.objs.size) { s1 with heap := s1.heap.push { cls := .type kd, data := .fields #[.str z t0, .int 0 0] } } := fun {kd} hk => by
      refine ⟨s1.heap.objs.size, [s1.heap.objs.size], _, _, H1, rfl, I1.kept (t' := s1.toks) fun b o e => Heap.get?_push_of_some _ e, turn_str hk _ z t0, ⟨_, Heap.get?_push_size _ rfl, rfl, rfl⟩, fun b hb => ?_, ?_⟩
      · have e : b = s1.heap.objs.size := by simpa using hb
        subst e
        exact I1.fpOk (Nat.le_refl _) (I1.hok.fresh (Nat.le_refl _))
      · exact p1 α1 H1 (Stp.refl _ _) mr1 _ _ _ itv_str signs_den fun _ _ _ => True.intro
    cases ha : z.cps.all (· < 128) with
    | true => exact wpAny_pyIter_ascii ha (fin (.inl rfl))
    | false => exact wpAny_pyIter_wide ha (fin (.inr rfl))
  | _ => exact p1.elim
theorem vals3 : ∀ {x y z : V} {us : List Value}, Vals [x, y, z] us → ∃ u v w, us = [u, v, w] ∧ RelV x u ∧ RelV y v ∧ RelV z w
  | _, _, _, _, .cons r (.cons q (.cons p .nil)) => ⟨_, _, _, rfl, r, q, p⟩
theorem si_range (C : Ck D W Γ X k) {p0 : Pos} (hx : ("range" : Str) ∈ Γ.G) (hg : Γ.gl "range" = .none) (hs : noStar a = true) (ha : PE X a (rdE D W f)) :
    PI X tg (.Call (.Name "range" p0) [a] [] pos) (rdI D W fun τ μ => (f τ μ).bind fun t μ1 => match t with | .int n => if n < 4611686018427387904 ∧ -4611686018427387904 ≤ n then .ok (rangeT n) μ1 else .st | _ => .st) := by
  have hm := C.glo _ hx
  rw [hg] at hm
  rintro pins s σ H R I ⟨φ, α, τ, μ, sr, mr, p⟩
  refine pi_range1 (C.glb _ hx) hm (pa_cons ha pa_nil (noStar_of hs)) (noStar_of hs) pins s σ H R I ⟨φ, α, τ, μ, sr, mr, p.bind.mono fun t μ' α' H' st m q v d => ?_⟩
  split at q
  · rename_i n
    cases d
    split at q
    · rename_i hn
      exact ⟨n, rfl, by simpa using hn.2, by simpa using hn.1, q α' H' (Stp.refl _ _) m _ _ _ itv_range rangeT_den fun _ _ _ => True.intro⟩
    · exact q.elim
  · exact q.elim

/-! ### range of three -/
def ItS (lo c : Int) (n : Nat) : It := ⟨fun i _ => i < n, fun i H x H' => H' = H ∧ x = .int (lo + i * c), fun i _ => n ≤ i⟩
theorem turn_rangeS {P : Program} {w : World} {K : PySem.W.Frag} {tg : Expr} (it : Addr) (lo c : Int) (n : Nat) : Turn P w K tg (ItS lo c n) [it] it (fun i h => IsRangeIter h it (lo + (i : Nat) * c) ((n : Int) - (i : Nat)) c) where
  mem := by simp
  obj := fun i h st b hb => by
    have e : b = it := by simpa using hb
    subst e
    exact ⟨_, st, fun v z => by cases (show Data.fields _ = Data.cell v from z)⟩
  keep := fun i h h' st k => k it (by simp) _ st
  item := by
    intro X hP hw hK hc i pins s σ H E I hf st hg
    subst hP hw hK
    obtain ⟨f0, f1, f2, f3, f4, f5⟩ := hf it (by simp)
    have W := Walks.range (prog := X.prog) (w := X.w) (I.ok.hd hc) it lo c n
    refine W.item i s _ _ hg st fun v h' tk hv st' kk => ?_
    obtain ⟨t, rfl⟩ := hv
    have I1 : Inv X pins σ H { s with heap := h', toks := tk } := I.turned (fun b o hb e => kk b o (by simpa using hb) e) f0 f1 f3 f4 f5
    exact ⟨_, rfl, go_of (s := { s with heap := h', toks := tk }) (n := "range_iterator") st' rfl rfl (by decide) ⟨.int (lo + i * c), H, I1, ⟨t, rfl⟩, ⟨rfl, rfl⟩, st', fun b hb => (hf b hb).1⟩⟩
  done := by
    intro X hP hw hK hc i pins s σ H E I hf st hg
    subst hP hw hK
    obtain ⟨f0, f1, f2, f3, f4, f5⟩ := hf it (by simp)
    exact wpAny_pyNext_range_end (I.ok.hd hc) st (by have : n ≤ i := hg; omega) fun h' eb => ⟨rfl, I.turned (t' := s.toks) (fun b o hb e => eb b o hb e) f0 f1 f3 f4 f5⟩
  self := fun _ _ _ _ _ st h => wpAny_pyIter_rangeiter st h
theorem size_is {a b c : Int} (hc : 0 < c) : Builtin.Range.rangeSize a b c = if a < b then (b - a - 1) / c + 1 else 0 := by
  unfold Builtin.Range.rangeSize
  rw [if_pos hc]
theorem small_is {a b c : Int} (ha : -4611686018427387904 ≤ a ∧ a < 4611686018427387904) (hb : -4611686018427387904 ≤ b ∧ b < 4611686018427387904) (hc : 0 < c ∧ c < 1073741824) : Builtin.Range.small a b c = true := by
  unfold Builtin.Range.small
  rw [size_is hc.1]
  have key : 0 ≤ (if a < b then (b - a - 1) / c + 1 else 0) ∧ (if a < b then (b - a - 1) / c + 1 else 0) < 9223372036854775808 := by
    split
    · have h1 : 0 ≤ (b - a - 1) / c := Int.ediv_nonneg (by omega) (by omega)
      have h2 : (b - a - 1) / c ≤ b - a - 1 := Int.ediv_le_self _ (by omega)
      omega
    · omega
  simp only [Builtin.Range.rangeFitsLong, Bool.and_eq_true, Bool.or_eq_true, decide_eq_true_eq, beq_iff_eq, gt_iff_lt, hc.1, if_true]
  refine ⟨⟨⟨⟨?_, ?_⟩, ?_⟩, ?_⟩, .inr ?_⟩ <;> omega
theorem range_itS {pins : List (Addr × Obj)} {σ : St} {H : Hp} {s : Shared} {R : It → Hp → Prop} {E : Value → Shared → Prop} {lo hi c : Int} {t u v : Tok} {tk : Nat} (I : Inv X pins σ H s) (h1 : -4611686018427387904 ≤ lo ∧ lo < 4611686018427387904) (h2 : -4611686018427387904 ≤ hi ∧ hi < 4611686018427387904) (h3 : 0 < c ∧ c < 1073741824)
    (q : R (ItS lo c (if lo < hi then (hi - lo - 1) / c + 1 else 0 : Int).toNat) H) : wpAny (model X.prog X.w) X.A (pyIter (.ref s.heap.objs.size)) (PIE X pins σ tg R) E { s with heap := s.heap.push { cls := .type "range", data := .fields #[.int lo t, .int hi u, .int c v] }, toks := tk } := by
  refine wpAny_pyIter_range (IsRange.new ..) (small_is h1 h2 h3) ?_
  have I1 : Inv X pins σ H { s with heap := s.heap.push { cls := .type "range", data := .fields #[.int lo t, .int hi u, .int c v] }, toks := tk } := I.kept fun b o e => Heap.get?_push_of_some _ e
  refine ⟨(s.heap.push { cls := .type "range", data := .fields #[.int lo t, .int hi u, .int c v] }).objs.size, [(s.heap.push { cls := .type "range", data := .fields #[.int lo t, .int hi u, .int c v] }).objs.size], _, _, H, rfl,
    I1.kept (t' := tk) fun b o e => Heap.get?_push_of_some _ e, turn_rangeS _ lo c (if lo < hi then (hi - lo - 1) / c + 1 else 0 : Int).toNat, ?_, fun b hb => ?_, q⟩
  · have e1 : lo + ((0 : Nat) : Int) * c = lo := by simp
    have e2 : (((if lo < hi then (hi - lo - 1) / c + 1 else 0 : Int).toNat : Nat) : Int) - ((0 : Nat) : Int) = Builtin.Range.rangeSize lo hi c := by
      rw [size_is h3.1]
      have : 0 ≤ (if lo < hi then (hi - lo - 1) / c + 1 else 0) := by
        split
        · have h1 : 0 ≤ (hi - lo - 1) / c := Int.ediv_nonneg (by omega) (by omega)
          omega
        · omega
      omega
    show IsRangeIter _ _ (lo + ((0 : Nat) : Int) * c) ((((if lo < hi then (hi - lo - 1) / c + 1 else 0 : Int).toNat : Nat) : Int) - ((0 : Nat) : Int)) c
    rw [e1, e2]
    exact Heap.get?_push_size _ rfl
  · have e : b = (s.heap.push { cls := .type "range", data := .fields #[.int lo t, .int hi u, .int c v] }).objs.size := by simpa using hb
    subst e
    exact I1.fpOk (Nat.le_refl _) (I1.hok.fresh (Nat.le_refl _))
theorem itv_rangeS {lo c : Int} {n : Nat} : ItV (ItS lo c n) (fun _ => True) ((List.range n).map fun (i : Nat) => V.int (lo + i * c)) :=
  ⟨fun i H _ hi => by (show i < n); simpa using hi, fun i H v H' _ hi y => ⟨y.1, by
    have hi' : i < n := by simpa using hi
    obtain ⟨_, rfl⟩ := y
    simp [hi']⟩, fun H _ => by show n ≤ _; simp⟩
theorem rangeS_den {lo c : Int} {n : Nat} : DenL D φ α H ((List.range n).map fun (i : Nat) => T.int (lo + i * c)) ((List.range n).map fun (i : Nat) => V.int (lo + i * c)) := by
  induction (List.range n) with
  | nil => rfl
  | cons x r ih => exact ⟨V.int (lo + x * c), _, rfl, rfl, ih⟩
theorem si_range3 (C : Ck D W Γ X k) {p0 : Pos} (hx : ("range" : Str) ∈ Γ.G) (hg : Γ.gl "range" = .none) (ha' : noStar a = true) (hb' : noStar b = true) (hc' : noStar c = true) (ha : PE X a (rdE D W f)) (hb : PE X b (rdE D W g)) (hc : PE X c (rdE D W h)) :
    PI X tg (.Call (.Name "range" p0) [a, b, c] [] pos) (rdI D W fun τ μ => (f τ μ).bind fun x μ1 => (g τ μ1).bind fun y μ2 => (h τ μ2).bind fun z μ3 => rangeAll x y z μ3) := by
  have hm := C.glo _ hx
  rw [hg] at hm
  rintro pins s σ H R I ⟨φ, α, τ, μ, sr, mr, p⟩
  have s3 : starEach [a, b, c] X.env = [(false, eval a X.env), (false, eval b X.env), (false, eval c X.env)] := by
    rw [noStar_of ha', noStar_of hb', noStar_of hc']; rfl
  refine Call_ (ld_blt I (C.glb _ hx) hm boot_range (PyProof.Rows.callWith_type1 (thn (pa_cons ha (pa_cons hb (pa_cons hc pa_nil (noStar_of hc')) (noStar_of hb')) (noStar_of ha') pos pins s σ H (fun vs H1 => ∃ i j l : Int, vs = [.int i, .int j, .int l] ∧ (-4611686018427387904 ≤ i ∧ i < 4611686018427387904) ∧ (-4611686018427387904 ≤ j ∧ j < 4611686018427387904) ∧ (0 < l ∧ l < 1073741824) ∧ R (ItS i l (if i < j then (j - i - 1) / l + 1 else 0 : Int).toNat) H1) I ?_) ?_) (noStar_of ha') (noStars (by simp [hb', hc']))))
  · refine ⟨φ, α, τ, μ, sr, mr, p.bind.mono fun x μ1 α1 H1 st1 m1 q1 v1 d1 => ⟨φ, α1, τ, μ1, sr.step st1, m1, q1.bind.mono fun y μ2 α2 H2 st2 m2 q2 v2 d2 => ⟨φ, α2, τ, μ2, (sr.step st1).step st2, m2, q2.bind.mono fun z μ3 α3 H3 st3 m3 q3 v3 d3 => ?_⟩⟩⟩
    unfold rangeAll at q3
    split at q3
    · split at q3
      · rename_i hh
        have d1 : v1 = .int _ := d1
        have d2 : v2 = .int _ := d2
        have d3 : v3 = .int _ := d3
        subst d1 d2 d3
        exact ⟨_, _, _, rfl, hh.1, hh.2.1, hh.2.2, q3 α3 H3 (Stp.refl _ _) m3 _ _ _ itv_rangeS rangeS_den fun _ _ _ => True.intro⟩
      · exact q3.elim
    · exact q3.elim
  · rintro us s1 ⟨vs, H1, I1, rv, i, j, l, rfl, h1, h2, h3, q⟩
    obtain ⟨u1, u2, u3, rfl, r1, r2, r3⟩ := vals3 rv
    obtain ⟨t1, rfl⟩ := r1
    obtain ⟨t2, rfl⟩ := r2
    obtain ⟨t3, rfl⟩ := r3
    exact call_range_3 (by omega) (range_itS I1 h1 h2 h3 q) (.inl (PyProof.noPylong_small (by omega)))

/-! ### targets -/
/-- these names may be stored to -/
def Sto (X : Cx) (S : List Str) : Prop := ∀ x ∈ S, Loc X.env.scope x ∧ (X.fn x = true ∨ X.env.scope.names.lookup x = some .local)
theorem asgT_ok {S N : List Str} (hN : X.N = N) (nd : N.Nodup) (hS : Sto X S) {x : Str} {p0 : Pos} {t : T} {τ τ' : Sl} (hx : x ∈ S) (h : asgT N (.Name x p0) t τ = some τ') :
    ∃ i, PG X (.Name x p0) (gName i) ∧ ∀ {σ : St} {v : V} {φ α H}, SRel D φ α H τ σ → Den D φ α H t v → SRel D φ α H τ' (σ.set i (some v)) := by
  simp only [asgT] at h
  cases q : idx N x with
  | none => rw [q] at h; cases h
  | some i =>
    rw [q] at h
    cases h
    exact ⟨i, pg_name (hN ▸ nd) (by rw [hN]; exact idx_get q) (hS x hx).1 (hS x hx).2, fun sr d => sr.set d⟩
theorem asgs_ok {S N : List Str} (hN : X.N = N) (nd : N.Nodup) (hS : Sto X S) : ∀ {es : List Expr} {ts : List T} {τ τ' : Sl}, (∀ e ∈ es, ∀ x p, e = .Name x p → x ∈ S) → asgs N es ts τ = some τ' →
    ∃ t, PGs X es t ∧ (assignEach es X.env).length = ts.length ∧ (assignEach es X.env).findIdx? (·.1) = none ∧ ∀ {σ : St} {vs : List V} {φ α H} {Q : St → Hp → Prop}, SRel D φ α H τ σ → DenL D φ α H ts vs → (∀ σ', SRel D φ α H τ' σ' → Q σ' H) → t vs σ H Q
  | [], [], τ, τ', _, h => by
    simp [asgs] at h; subst h
    exact ⟨gNil, pgs_nil, rfl, rfl, fun sr l q => ⟨l, q _ sr⟩⟩
  | [], _ :: _, _, _, _, h => by simp [asgs] at h
  | _ :: _, [], _, _, _, h => by simp [asgs] at h
  | e :: es, t :: ts, τ, τ', hn, h => by
    simp only [asgs] at h
    cases q : asgT N e t τ with
    | none => rw [q] at h; cases h
    | some τ1 =>
      rw [q] at h
      have h : asgs N es ts τ1 = some τ' := h
      cases e with
      | Name x p0 =>
        obtain ⟨i, pg, hi⟩ := asgT_ok (D := D) hN nd hS (hn _ List.mem_cons_self x p0 rfl) q
        obtain ⟨u, pgs, hl, hf, hu⟩ := asgs_ok hN nd hS (fun e he => hn e (List.mem_cons_of_mem _ he)) h
        refine ⟨gCons (gName i) u, pgs_cons pg pgs rfl, by simpa [assignEach] using hl, ?_, fun {σ vs φ α H Q} sr l k => ?_⟩
        · have e1 : assignEach (.Name x p0 :: es) X.env = (false, assign (.Name x p0) X.env) :: assignEach es X.env := rfl
          rw [e1, List.findIdx?_cons]
          simp [hf]
        · obtain ⟨v, r, rfl, d, l⟩ := l
          exact ⟨v, r, rfl, hu (hi sr d) l k⟩
      | _ => simp [asgT] at q
theorem asg_ok {S N : List Str} (hN : X.N = N) (nd : N.Nodup) (hS : Sto X S) (hc : X.calm = true) {e : Expr} {t : T} {τ τ' : Sl} (hn : ∀ x ∈ tgNames e, x ∈ S) (h : asg N e t τ = some τ') {v : V} {u : Value} (I : Inv X pins σ H s) (sr : SRel D φ α H τ σ) (d : Den D φ α H t v) (r : RelV v u) :
    wpAny (model X.prog X.w) X.A (assign e X.env u) (fun _ s' => ∃ σ', Inv X pins σ' H s' ∧ SRel D φ α H τ' σ') X.xe s := by
  have nm : ∀ {x p0}, e = .Name x p0 → asgT N e t τ = some τ' → wpAny (model X.prog X.w) X.A (assign e X.env u) (fun _ s' => ∃ σ', Inv X pins σ' H s' ∧ SRel D φ α H τ' σ') X.xe s := fun {x p0} he h => by
    subst he
    obtain ⟨i, pg, hi⟩ := asgT_ok (D := D) hN nd hS (hn x (by simp [tgNames])) h
    refine thn (pg pins s σ H v u (fun σ' H' => H' = H ∧ σ' = σ.set i (some v)) I r ⟨rfl, rfl⟩) ?_
    rintro _ s1 ⟨σ', H', I1, rfl, rfl⟩
    exact ⟨_, I1, hi sr d⟩
  unfold asg at h
  split at h
  · rename_i es kk p0 ts
    obtain ⟨g, pgs, hl, hf, hu⟩ := asgs_ok (D := D) hN nd hS (fun e he x p hx => hn x (by subst hx; exact List.mem_filterMap.mpr ⟨_, he, rfl⟩)) h
    obtain ⟨ad, xs, rfl, _, _, q, l⟩ := d
    refine thn (pg_tup (k := kk) (pos := p0) hc pgs hl hf pins s σ H (.ref ad) u (fun σ' H' => H' = H ∧ SRel D φ α H τ' σ') I r ⟨ad, xs, rfl, .inl q, l.length.symm, hu sr l fun σ' sr' => ⟨rfl, sr'⟩⟩) ?_
    rintro _ s1 ⟨σ', H', I1, rfl, sr'⟩
    exact ⟨σ', I1, sr'⟩
  · cases e with
    | Name x p0 => exact nm rfl h
    | _ => simp [asgT] at h
end
end NH
end
section
set_option linter.all false
set_option maxRecDepth 100000
set_option maxHeartbeats 4000000
namespace NH
open PySem PySem.Spec PyProof.Rows L2

theorem clos_go (env : Env) : ∀ (names : List (Str × NameKind)) (cs : List (Str × Addr)), (∀ p ∈ names, p.2 = .free → ∃ c, env.cells.lookup p.1 = some c) →
    ∃ cl, (forIn names cs (fun (x : Str × NameKind) r => if (x.2 == .free) = true then do let a ← cellOf env x.1; pure (ForInStep.yield ((x.1, a) :: r)) else pure (ForInStep.yield r)) : Sem (List (Str × Addr))) = pure cl ∧
      (∀ x c, cl.lookup x = some c → cs.lookup x = some c ∨ (env.cells.lookup x = some c ∧ ∃ p ∈ names, p.1 = x ∧ p.2 = .free)) ∧ (∀ x c, cs.lookup x = some c → ∃ c', cl.lookup x = some c') ∧ ∀ p ∈ names, p.2 = .free → ∃ c, cl.lookup p.1 = some c := by
  intro names
  induction names with
  | nil => intro cs _; exact ⟨cs, rfl, fun x c h => .inl h, fun x c h => ⟨c, h⟩, fun p hp => absurd hp (by simp)⟩
  | cons p names ih =>
    intro cs h
    rw [List.forIn_cons]
    by_cases hp : p.2 = .free
    · obtain ⟨c, hc⟩ := h p List.mem_cons_self hp
      have e : cellOf env p.1 = pure c := by unfold cellOf; rw [hc]
      rw [if_pos (by simp [hp]), e]
      obtain ⟨cl, e1, e2, e3, e4⟩ := ih ((p.1, c) :: cs) fun q hq => h q (List.mem_cons_of_mem _ hq)
      refine ⟨cl, e1, fun x c' hx => ?_, fun x c' hx => ?_, fun q hq hf => ?_⟩
      · rcases e2 x c' hx with z | ⟨z, q, hq, z1, z2⟩
        · rw [List.lookup_cons] at z
          cases hb : x == p.1 with
          | true =>
            simp [hb] at z
            subst z
            have hb' : x = p.1 := by simpa using hb
            exact .inr ⟨by rw [hb']; exact hc, p, List.mem_cons_self, hb'.symm, hp⟩
          | false => simp [hb] at z; exact .inl z
        · exact .inr ⟨z, q, List.mem_cons_of_mem _ hq, z1, z2⟩
      · cases hb : x == p.1 with
        | true => exact e3 x c (by simp [List.lookup_cons, hb])
        | false => exact e3 x c' (by simp [List.lookup_cons, hb, hx])
      · rcases List.mem_cons.mp hq with rfl | hq
        · exact e3 _ c (by simp [List.lookup_cons])
        · exact e4 q hq hf
    · rw [if_neg (by simp [hp])]
      obtain ⟨cl, e1, e2, e3, e4⟩ := ih cs fun q hq => h q (List.mem_cons_of_mem _ hq)
      refine ⟨cl, e1, fun x c' hx => ?_, e3, fun q hq hf => ?_⟩
      · rcases e2 x c' hx with z | ⟨z, q, hq, z1, z2⟩
        · exact .inl z
        · exact .inr ⟨z, q, List.mem_cons_of_mem _ hq, z1, z2⟩
      · rcases List.mem_cons.mp hq with rfl | hq
        · exact absurd hf hp
        · exact e4 q hq hf
theorem mem_frees {sc : Scope} {x : Str} : x ∈ frees sc ↔ ∃ p ∈ sc.names, p.1 = x ∧ p.2 = .free := by
  unfold frees
  simp only [List.mem_map, List.mem_filter, beq_iff_eq]
  constructor
  · rintro ⟨p, ⟨h1, h2⟩, h3⟩; exact ⟨p, h1, h3, h2⟩
  · rintro ⟨p, h1, h3, h2⟩; exact ⟨p, ⟨h1, h2⟩, h3⟩
theorem closure_of {sc : Scope} {env : Env} (h : ∀ x ∈ frees sc, ∃ c, env.cells.lookup x = some c) :
    ∃ cl, closureFor sc env = pure cl ∧ (∀ x c, cl.lookup x = some c → env.cells.lookup x = some c ∧ x ∈ frees sc) ∧ ∀ x ∈ frees sc, ∃ c, cl.lookup x = some c := by
  obtain ⟨cl, e1, e2, e3, e4⟩ := clos_go env sc.names [] fun p hp hf => h p.1 (mem_frees.mpr ⟨p, hp, rfl, hf⟩)
  refine ⟨cl, ?_, fun x c hx => ?_, fun x hx => ?_⟩
  · rw [← e1]
    unfold closureFor
    simp
  · rcases e2 x c hx with z | ⟨z, p, hp, z1, z2⟩
    · simp at z
    · exact ⟨z, mem_frees.mpr ⟨p, hp, z1, z2⟩⟩
  · obtain ⟨p, hp, rfl, hf⟩ := mem_frees.mp hx
    exact e4 p hp hf

section
variable {prog : Program} {w : World} {A : Around} {R : Result → Shared → Prop} {s : Shared}
theorem turn_eq (elt target iter : Expr) (scope : Scope) (pos : Pos) (it acc : Value) (env : Env) :
    compTurn (.ListComp elt [⟨target, iter, [], 0⟩] scope pos) 0 it acc env = (standAt iter.pos >>= fun _ => pyNext it >>= fun r => match r with
      | none => pure (.done .next)
      | some v => letOwnedTupleGo target it v >>= fun _ => assign target env v >>= fun _ =>
        (eval elt env >>= fun x => call (.builtin "list.append") [acc, x] >>= fun _ => pure ()) >>= fun _ =>
          again (.compLoop (.ListComp elt [⟨target, iter, [], 0⟩] scope pos) 0 it acc env)) := by rfl
/-- a comprehension's turns, no exception leaving -/
theorem comp_loop {elt target iter : Expr} {scope : Scope} {pos : Pos} {it acc : Value} {env : Env} (I : Nat → Shared → Prop)
    (turn : ∀ n s, I n s → wpAny (model prog w) A (pyNext it) (fun r s₁ => match r with
      | none => R (.ok .next) s₁
      | some v => wpAny (model prog w) A (letOwnedTupleGo target it v) (fun _ s₂ => wpAny (model prog w) A (assign target env v) (fun _ s₃ => wpAny (model prog w) A (eval elt env) (fun x s₄ =>
          wpAny (model prog w) A (call (.builtin "list.append") [acc, x]) (fun _ s₅ => ∃ m, m < n ∧ I m s₅) (fun _ _ => False) s₄) (fun _ _ => False) s₃) (fun _ _ => False) s₂) (fun _ _ => False) s₁) (fun _ _ => False) s)
    (n : Nat) (h : I n s) : codeAny (model prog w) A (.compLoop (.ListComp elt [⟨target, iter, [], 0⟩] scope pos) 0 it acc env) R s := by
  refine codeAny_loop rfl I (fun n s hI => ?_) n h
  show wpAny _ _ ((compTurn (.ListComp elt [⟨target, iter, [], 0⟩] scope pos) 0 it acc env).onRaise (fun x => do noteFrame x env; theTreesLotGoes x)) _ _ s
  refine wpAny_noted ?_
  rw [turn_eq]
  have nx : ∀ {α : Type} {t : Sem α} {Q : α → Shared → Prop} {s : Shared} {N : Value → Shared → Prop}, wpAny (model prog w) A t Q (fun _ _ => False) s → wpAny (model prog w) A t Q N s := fun h => wpAny_mono h (fun _ _ q => q) fun _ _ z => z.elim
  refine wpAny_bind (wpAny_standAt (wpAny_bind (nx (thn (turn n s hI) fun r s₁ h₁ => ?_))))
  cases r with
  | none => exact wpAny_pure h₁
  | some v =>
    refine wpAny_bind (nx (thn h₁ fun _ s₂ h₂ => ?_))
    refine wpAny_bind (nx (thn h₂ fun _ s₃ h₃ => ?_))
    exact wpAny_bind (wpAny_bind (nx (thn h₃ fun x s₄ h₄ => wpAny_bind (nx (thn h₄ fun _ s₅ h₅ => wpAny_pure (wpAny_pure ⟨rfl, h₅⟩))))))
end

section
variable {D : DP} {φ φ' α : List Addr} {H H' : Hp}
-- another look at the same things
mutual
theorem Den.look (h : ∀ a o, a ∉ φ → a ∉ α → H a = some o → a ∉ φ' ∧ H' a = some o) : ∀ {t : T} {v : V}, Den D φ α H t v → Den D φ' α H' t v
  | .non, _, d => d
  | .bl _, _, d => d
  | .int _, _, d => d
  | .str _, _, d => d
  | .mut i, _, d => d
  | .tup ts, _, d => by
    obtain ⟨a, xs, rfl, n1, n2, r, l⟩ := d
    rcases r with r | ⟨o, r⟩
    · exact ⟨a, xs, rfl, (h a _ n1 n2 r).1, n2, .inl (h a _ n1 n2 r).2, DenL.look h l⟩
    · exact ⟨a, xs, rfl, (h a _ n1 n2 r).1, n2, .inr ⟨o, (h a _ n1 n2 r).2⟩, DenL.look h l⟩
  | .lst ts, _, d => by
    obtain ⟨a, xs, rfl, n1, n2, r, l⟩ := d
    rcases r with r | ⟨o, r⟩
    · exact ⟨a, xs, rfl, (h a _ n1 n2 r).1, n2, .inl (h a _ n1 n2 r).2, DenL.look h l⟩
    · exact ⟨a, xs, rfl, (h a _ n1 n2 r).1, n2, .inr ⟨o, (h a _ n1 n2 r).2⟩, DenL.look h l⟩
  | .obj c fs, _, d => by
    obtain ⟨a, C, dx, gs, rfl, n1, n2, ad, e, l⟩ := d
    exact ⟨a, C, dx, gs, rfl, (h a _ n1 n2 e).1, n2, ad, (h a _ n1 n2 e).2, DenF.look' h l⟩
  | .exc c, _, d => by
    obtain ⟨a, C, rfl, n1, n2, ad, e⟩ := d
    exact ⟨a, C, rfl, (h a _ n1 n2 e).1, n2, ad, (h a _ n1 n2 e).2⟩
theorem DenL.look (h : ∀ a o, a ∉ φ → a ∉ α → H a = some o → a ∉ φ' ∧ H' a = some o) : ∀ {ts : List T} {vs : List V}, DenL D φ α H ts vs → DenL D φ' α H' ts vs
  | [], _, l => l
  | t :: ts, _, l => by
    obtain ⟨v, r, rfl, a, b⟩ := l
    exact ⟨v, r, rfl, Den.look h a, DenL.look h b⟩
theorem DenF.look' (h : ∀ a o, a ∉ φ → a ∉ α → H a = some o → a ∉ φ' ∧ H' a = some o) : ∀ {fs : List (Str × T)} {gs : List (Str × V)}, DenF D φ α H fs gs → DenF D φ' α H' fs gs
  | [], _, l => l
  | p :: fs, _, l => by
    obtain ⟨v, r, rfl, a, b⟩ := l
    exact ⟨v, r, rfl, Den.look h a, DenF.look' h b⟩
end
theorem MRel.look {μ : Mem} (h : ∀ a o, a ∉ φ → a ∉ α → H a = some o → a ∉ φ' ∧ H' a = some o) (hα : ∀ a ∈ α, H' a = H a ∧ a ∉ φ') (hφ : ∀ b ∈ φ', ∃ o, H' b = some o) (m : MRel D φ α H μ) : MRel D φ' α H' μ := by
  refine ⟨m.len, m.nd, fun b hb => (hα b hb).2, hφ, fun i a o e1 e2 => ?_⟩
  have d := m.ob i a o e1 e2
  have ha := (hα a (List.mem_of_getElem? e1)).1
  cases o with
  | lst ts =>
    obtain ⟨xs, q, l⟩ := d
    exact ⟨xs, ha.trans q, l.look h⟩
  | obj c fs =>
    obtain ⟨C, dx, gs, ad, q, l⟩ := d
    exact ⟨C, dx, gs, ad, ha.trans q, l.look' h⟩
/-- b is another's from now on: it was not there -/
theorem look_more {b : Addr} (hb : H b = none) : ∀ a o, a ∉ φ → a ∉ α → H a = some o → a ∉ φ ++ [b] ∧ H a = some o := by
  intro a o n1 n2 e
  refine ⟨fun z => ?_, e⟩
  rcases List.mem_append.mp z with z | z
  · exact n1 z
  · rw [List.mem_singleton.mp z, hb] at e
    cases e
theorem look_less {b : Addr} : ∀ a o, a ∉ φ ++ [b] → a ∉ α → H a = some o → a ∉ φ ∧ H a = some o := fun a o n1 n2 e => ⟨fun z => n1 (List.mem_append_left _ z), e⟩
/-- another's thing is changed -/
theorem look_upd {b : Addr} {u : HO} (hb : b ∈ φ) : ∀ a o, a ∉ φ → a ∉ α → H a = some o → a ∉ φ ∧ upd H b u a = some o := fun a o n1 n2 e => ⟨n1, by rw [upd_ne (fun z : a = b => n1 (by rw [z]; exact hb))]; exact e⟩
end
end NH
end
section
set_option linter.all false
set_option maxRecDepth 100000
set_option maxHeartbeats 4000000
namespace NH
open PySem PySem.Spec PyProof.Rows L2

abbrev noW : XW := fun _ _ _ _ => False
/-- the context of a comprehension's block -/
def cxC (X : Cx) (N : List Str) (sc : Scope) (cl : List (Str × Addr)) (C0 : Addr) (s3 : Shared) (H3 : Hp) (fp : List Addr) : Cx :=
  { X with N := N, s₀ := s3, H₀ := H3, env := compEnvC sc cl C0 X.env, outer := X.stack, ex := fp, fn := fun _ => false, pn := [], xe := fun _ _ => False }

theorem compM_cons {asgn : T → Sl → Option Sl} {f : Sl → Mem → RE T} {τ : Sl} {x : T} {r ys : List T} {μ μ' : Mem} (h : compM asgn f τ (x :: r) μ = .ok ys μ') :
    ∃ τ' y μ1 zs, asgn x τ = some τ' ∧ f τ' μ = .ok y μ1 ∧ compM asgn f τ r μ1 = .ok zs μ' ∧ ys = y :: zs := by
  simp only [compM] at h
  cases h1 : asgn x τ with
  | none => rw [h1] at h; cases h
  | some τ' =>
    rw [h1] at h
    simp only at h
    cases h2 : f τ' μ with
    | ok y μ1 =>
      rw [h2] at h
      simp only [RE.bind] at h
      cases h3 : compM asgn f τ r μ1 with
      | ok zs μ2 => rw [h3] at h; simp only at h; cases h; exact ⟨τ', y, μ1, zs, rfl, h2, h3, rfl⟩
      | ex c μ2 => rw [h3] at h; simp only at h; cases h
      | st => rw [h3] at h; simp only at h; cases h
    | ex c μ1 => rw [h2] at h; simp only [RE.bind] at h; cases h
    | st => rw [h2] at h; simp only [RE.bind] at h; cases h

structure CompOk (N cel : List Str) (tg : Expr) (sc : Scope) : Prop where
  kind : sc.kind = .function
  noc : ∀ p ∈ sc.names, p.2 ≠ .cell
  lcl : ∀ p ∈ sc.names, p.2 = .local → sc.names.lookup p.1 = some .local
  own : ∀ x ∈ tgNames tg, sc.names.lookup x = some .local ∧ (x == ("__debug__" : Str)) = false ∧ (x == ("__classdict__" : Str)) = false
  fre : ∀ x ∈ frees sc, (∃ i, idx N x = some i) ∧ sc.names.lookup x = some .free ∧ x ∈ cel ∧ (x == ("__debug__" : Str)) = false ∧ (x == ("__classdict__" : Str)) = false
  nd : (tgNames tg ++ frees sc).Nodup
  glb : ∀ x ∈ globs sc, sc.names.lookup x = some .globalImplicit
theorem compOk_of {N cel : List Str} {tg : Expr} {sc : Scope} (h : compOk N cel tg sc = true) : CompOk N cel tg sc := by
  unfold compOk at h
  simp only [Bool.and_eq_true, List.all_eq_true, beq_iff_eq, bne_iff_ne, Bool.or_eq_true, decide_eq_true_eq, List.contains_iff_mem, Option.isSome_iff_exists, ne_eq] at h
  obtain ⟨⟨⟨⟨⟨⟨h1, h2⟩, h3⟩, h4⟩, h5⟩, h6⟩, h7⟩ := h
  refine ⟨h1, h2, fun p hp hl => ?_, fun x hx => ?_, fun x hx => ?_, h6, h7⟩
  · rcases h3 p hp with z | z
    · exact absurd hl z
    · exact z
  · obtain ⟨⟨a, b⟩, c⟩ := h4 x hx
    exact ⟨a, by simpa using b, by simpa using c⟩
  · obtain ⟨⟨⟨⟨a, b⟩, c⟩, d⟩, e⟩ := h5 x hx
    exact ⟨a, b, c, by simpa using d, by simpa using e⟩

theorem lookup_relabel {env : Env} {x : Str} : ∀ {names : List (Str × NameKind)} {kd : NameKind}, names.lookup x = some kd →
    (names.map fun (n, k) => if (k == NameKind.free && env.scope.kind == .function && env.kindOf n == some .cell) then (n, NameKind.cell) else (n, k)).lookup x = some (if (kd == NameKind.free && env.scope.kind == .function && env.kindOf x == some .cell) then .cell else kd)
  | [], _, h => by simp at h
  | (n, k) :: r, kd, h => by
    have ih := @lookup_relabel env x r kd
    rw [List.map_cons]
    rw [List.lookup_cons] at h
    cases hx : x == n with
    | true =>
      have hx' : x = n := by simpa using hx
      subst hx'
      simp at h
      subst h
      dsimp only
      split <;> simp_all [List.lookup_cons]
    | false =>
      simp only [hx] at h
      dsimp only
      split
      · rw [List.lookup_cons]; simp only [hx]; exact ih h
      · rw [List.lookup_cons]; simp only [hx]; exact ih h
end NH
end
section
set_option linter.all false
set_option maxRecDepth 100000
set_option maxHeartbeats 4000000
namespace NH
open PySem PySem.Spec PyProof.Rows L2

section
variable {X : Cx} {D : DP} {W : XW} {Γ : Cn} {k : Nat} {pins : List (Addr × Obj)} {s2 : Shared} {σ : St} {H2 : Hp} {φ α : List Addr} {τ : Sl} {μ : Mem} {tg : Expr} {sc : Scope} {cl : List (Str × Addr)} {fp : List Addr}

/-- the names of a block that are visible -/
def selV (N : List Str) (σ : St) (fs : List Str) : St := fs.map fun x => (idx N x).bind fun i => (σ[i]?).join
theorem selV_den {N : List Str} {fs : List Str} {H : Hp} (sr : SRel D φ α H τ σ) : ∀ (j : Nat) (t : T), (selT N τ fs)[j]? = some (some t) → ∃ v, (selV N σ fs)[j]? = some (some v) ∧ Den D φ α H t v := by
  intro j t e
  unfold selT at e
  unfold selV
  rw [List.getElem?_map] at e ⊢
  cases q : fs[j]? with
  | none => rw [q] at e; cases e
  | some x =>
    rw [q] at e
    simp only [Option.map_some, Option.some.injEq] at e ⊢
    cases r : idx N x with
    | none => rw [r] at e; cases e
    | some i =>
      rw [r] at e
      simp only [Option.bind_some] at e ⊢
      cases u : τ[i]? with
      | none => rw [u] at e; cases e
      | some o =>
        rw [u] at e
        simp only [Option.join_some] at e
        subst e
        obtain ⟨v, hv, d⟩ := sr.val i t u
        exact ⟨v, by rw [hv]; rfl, d⟩

/-- the block begins: the list at the heap's end, its names' dict behind it -/
theorem comp_start (C : Ck D W Γ X k) (ok : CompOk Γ.N Γ.cel tg sc) (I2 : Inv X pins σ H2 s2) (hf : ∀ b ∈ fp, FpOk X pins H2 b) (hfo : ∀ b ∈ fp, ∃ o, s2.heap.get? b = some o) (hcl : ∀ x c, cl.lookup x = some c → X.env.cells.lookup x = some c ∧ x ∈ frees sc) (hcl2 : ∀ x ∈ frees sc, ∃ c, cl.lookup x = some c)
    {h1 : Heap} (hns : h1.Ns (s2.heap.objs.size + 1) (fun _ => none)) (hsb : Heap.SameBut (s2.heap.objs.size + 1) ((s2.heap.push { cls := .type "list", data := .seq ([] : List Value).toArray }).push { cls := .type "dict", data := .dict #[] }) h1) {tk : Nat} :
    Inv X pins σ (upd H2 s2.heap.objs.size (.lst [])) { s2 with heap := s2.heap.push { cls := .type "list", data := .seq ([] : List Value).toArray } } ∧
    Inv (cxC X (tgNames tg ++ frees sc) sc cl (s2.heap.objs.size + 1) { s2 with heap := s2.heap.push { cls := .type "list", data := .seq ([] : List Value).toArray } } (upd H2 s2.heap.objs.size (.lst [])) fp) []
      ((tgNames tg).map (fun _ => none) ++ selV Γ.N σ (frees sc)) (upd H2 s2.heap.objs.size (.lst [])) { s2 with heap := h1, toks := tk } := by
  have I3 : Inv X pins σ (upd H2 s2.heap.objs.size (.lst [])) { s2 with heap := s2.heap.push { cls := .type "list", data := .seq ([] : List Value).toArray } } := I2.lnew (its := []) (t' := s2.toks) .nil (by simp)
  refine ⟨I3, ?_⟩
  generalize hA : s2.heap.push { cls := .type "list", data := .seq ([] : List Value).toArray } = HA at hsb I3 ⊢
  have szA : HA.objs.size = s2.heap.objs.size + 1 := by rw [← hA, Heap.size_push]
  have old : ∀ b o, HA.get? b = some o → h1.get? b = some o := fun b o e => hsb.extBut b o (by rw [← szA]; exact Nat.ne_of_lt (Heap.lt_size e)) (Heap.get?_push_of_some _ e)
  have fresh : (upd H2 s2.heap.objs.size (.lst [])) (s2.heap.objs.size + 1) = none := by rw [← szA]; exact I3.hok.fresh (Nat.le_refl _)
  have kindC : ∀ x ∈ frees sc, (cxC X (tgNames tg ++ frees sc) sc cl (s2.heap.objs.size + 1) { s2 with heap := HA } (upd H2 s2.heap.objs.size (.lst [])) fp).env.kindOf x = some .cell ∨ (cxC X (tgNames tg ++ frees sc) sc cl (s2.heap.objs.size + 1) { s2 with heap := HA } (upd H2 s2.heap.objs.size (.lst [])) fp).env.kindOf x = some .free := fun x hx => by
    have := lookup_relabel (env := X.env) (ok.fre x hx).2.1
    show (relabel sc X.env).names.lookup x = some .cell ∨ (relabel sc X.env).names.lookup x = some .free
    unfold relabel
    dsimp only
    rw [this]
    split
    · exact .inl rfl
    · exact .inr rfl
  refine ⟨⟨I2.ok.mod, ok.kind, I2.ok.glob, I2.ok.blt, ?_, ?_, ?_, fun x c h => absurd h (by simp [cxC]), I2.ok.hd, I2.ok.frames, .inl rfl, ?_, ?_, ?_, ?_, ?_, ?_, ?_⟩, rfl, I2.bare, Un.kept old, ⟨_, hns, ?_⟩, ?_, fresh, ?_, fun p hp => absurd hp (by simp [cxC]), I3.hok.kept old, ?_⟩
  · show HA.objs.size ≤ s2.heap.objs.size + 1
    omega
  · intro x y c h1 h2
    exact I2.ok.inj x y c (hcl x c h1).1 (hcl y c h2).1
  · intro x hx
    have hx' : (relabel sc X.env).names.lookup x = some .cell ∨ (relabel sc X.env).names.lookup x = some .free := hx
    by_cases hm : x ∈ frees sc
    · exact hcl2 x hm
    · exfalso
      cases q : sc.names.lookup x with
      | none =>
        have : (relabel sc X.env).names.lookup x = none := by
          unfold relabel
          dsimp only
          rw [List.lookup_eq_none_iff] at q ⊢
          intro p hp
          obtain ⟨p0, hp0, rfl⟩ := List.mem_map.mp hp
          have := q p0 hp0
          try dsimp only
          split <;> exact this
        rw [this] at hx'
        rcases hx' with z | z <;> cases z
      | some kd =>
        have hr := lookup_relabel (env := X.env) q
        have hx2 := hx'
        unfold relabel at hx2
        dsimp only at hx2
        rw [hr] at hx2
        have hmem : (x, kd) ∈ sc.names := PySem.mem_of_lookup q
        by_cases hkf : kd = .free
        · exact hm (mem_frees.mpr ⟨_, hmem, rfl, hkf⟩)
        · have e : (kd == NameKind.free) = false := by simpa using hkf
          rw [e] at hx2
          simp only [Bool.false_and, Bool.false_eq_true, if_false, Option.some.injEq] at hx2
          rcases hx2 with z | z
          · exact ok.noc _ hmem z
          · exact hkf z
  · intro b hb
    obtain ⟨f0, f1, f2, f3, f4, f5⟩ := hf b hb
    obtain ⟨o, ho⟩ := hfo b hb
    refine ⟨?_, fun x c h => f4 x c (hcl x c h).1⟩
    show b ≠ s2.heap.objs.size + 1
    exact Nat.ne_of_lt (Nat.lt_succ_of_lt (Heap.lt_size ho))
  · intro b o e
    exact I3.bs b o e
  · exact Nat.le_trans I3.ok.bsz I3.sz
  · intro b o e hb
    obtain ⟨f0, f1, f2, f3, f4, f5⟩ := hf b hb
    rcases f3 with z | z
    · exact I2.ok.noex b o e z
    · exact absurd (Nat.lt_of_lt_of_le (Heap.lt_size e) (Nat.le_trans I2.ok.bsz z)) (Nat.lt_irrefl _)
  · intro b hb hfs
    obtain ⟨f0, f1, f2, f3, f4, f5⟩ := hf b hb
    rcases List.mem_cons.mp (I2.stkSub b hfs) with z | z
    · exact f1 z
    · exact f2 z
  · exact I3.stack
  · intro b hb
    exact I3.stkFree b hb
  · intro i x v hN hσ hv
    obtain ⟨m, hn, hl⟩ := I2.loc
    by_cases hi : i < (tgNames tg).length
    · exfalso
      rw [List.getElem?_append_left (by simpa using hi), List.getElem?_map] at hσ
      cases q : (tgNames tg)[i]? with
      | none => rw [q] at hσ; cases hσ
      | some y => rw [q] at hσ; cases hσ
    · have hN' : (frees sc)[i - (tgNames tg).length]? = some x := by
        have : (tgNames tg ++ frees sc)[i]? = some x := hN
        rwa [List.getElem?_append_right (by omega)] at this
      rw [List.getElem?_append_right (by simpa using hi)] at hσ
      simp only [List.length_map] at hσ
      unfold selV at hσ
      rw [List.getElem?_map, hN'] at hσ
      simp only [Option.map_some, Option.some.injEq] at hσ
      have hx : x ∈ frees sc := List.mem_of_getElem? hN'
      obtain ⟨⟨j, hj⟩, _, hcelm, _⟩ := ok.fre x hx
      rw [hj] at hσ
      simp only [Option.bind_some] at hσ
      cases u : σ[j]? with
      | none => rw [u] at hσ; cases hσ
      | some o =>
        rw [u] at hσ
        simp only [Option.join_some] at hσ
        subst hσ
        obtain ⟨w, rw', lk⟩ := hl j x v (by rw [C.hN]; exact idx_get hj) u (C.vis x (idx_mem hj))
        refine ⟨w, rw', .inr ⟨kindC x hx, ?_⟩⟩
        have kx := C.cel x hcelm
        rcases lk with ⟨z, _⟩ | ⟨_, c, hc, hcell⟩
        · rw [z] at kx
          rcases kx with kx | kx <;> cases kx
        · obtain ⟨c', hc'⟩ := hcl2 x hx
          have := (hcl x c' hc').1
          rw [hc] at this
          cases this
          refine ⟨c, hc', ?_⟩
          obtain ⟨oc, ho, hd⟩ := hcell
          exact ⟨oc, old c oc (by rw [← hA]; exact Heap.get?_push_of_some _ ho), hd⟩
  · intro x c h
    obtain ⟨v, oc, ho, hd⟩ := I2.cell x c (hcl x c h).1
    exact ⟨v, oc, old c oc (by rw [← hA]; exact Heap.get?_push_of_some _ ho), hd⟩
  · intro x c h
    exact I3.freeC x c (hcl x c h).1
  · show _ = (tgNames tg ++ frees sc).length
    simp [selV]
end
end NH
end
section
set_option linter.all false
set_option maxRecDepth 100000
set_option maxHeartbeats 4000000
namespace NH
open PySem PySem.Spec PyProof.Rows L2

section
variable {X : Cx} {D : DP} {W : XW} {Γ : Cn} {k : Nat} {pins : List (Addr × Obj)} {s : Shared} {σ : St} {H : Hp} {φ α : List Addr} {τ : Sl} {μ : Mem} {tg iter elt : Expr} {sc : Scope} {fp : List Addr} {pos pos' : Pos}

theorem ck_comp (C : Ck D W Γ X k) (ok : CompOk Γ.N Γ.cel tg sc) {cl : List (Str × Addr)} {C0 : Addr} {s3 : Shared} {H3 : Hp} : Ck D noW (inComp Γ tg sc) (cxC X (tgNames tg ++ frees sc) sc cl C0 s3 H3 fp) k := by
  have kindC : ∀ x ∈ frees sc, (relabel sc X.env).names.lookup x = some .cell ∨ (relabel sc X.env).names.lookup x = some .free := fun x hx => by
    have := lookup_relabel (env := X.env) (ok.fre x hx).2.1
    unfold relabel
    dsimp only
    rw [this]
    split
    · exact .inl rfl
    · exact .inr rfl
  have other : ∀ {x kd}, sc.names.lookup x = some kd → kd ≠ .free → (relabel sc X.env).names.lookup x = some kd := fun {x kd} h hk => by
    have := lookup_relabel (env := X.env) h
    unfold relabel
    dsimp only
    rw [this]
    have e : (kd == NameKind.free) = false := by simpa using hk
    simp [e]
  refine ⟨C.hK, rfl, ok.nd, fun x hx => ?_, fun x hx => ?_, fun x hx => ?_, fun x hx => ?_, fun x hx => ?_, C.glU, kindC, C.isi, C.fld, C.xcx, C.clv, C.clm, C.rom, C.unt, fun e s p => ?_, ?_⟩
  · rcases List.mem_append.mp hx with h | h
    · exact .inl (other (ok.own x h).1 (by decide))
    · rcases kindC x h with z | z
      · exact .inr (.inl z)
      · exact .inr (.inr z)
  · rcases List.mem_append.mp hx with h | h
    · exact (ok.own x h).2
    · exact (ok.fre x h).2.2.2
  · exact (C.glU x (by have := (List.mem_filter.mp hx).2; simpa using this)).2
  · exact other (ok.glb x (List.mem_filter.mp hx).1) (by decide)
  · exact (C.glU x (by have := (List.mem_filter.mp hx).2; simpa using this)).1
  · obtain ⟨_, _, _, _, _, _, _, _, _, _, _, _, w⟩ := p
    exact w.elim
  · obtain ⟨e0, out, L, F⟩ := C.frm
    exact ⟨e0, out, L, ⟨F.stk, F.f0, F.fe⟩⟩
theorem sto_comp (ok : CompOk Γ.N Γ.cel tg sc) {cl : List (Str × Addr)} {C0 : Addr} {s3 : Shared} {H3 : Hp} : Sto (cxC X (tgNames tg ++ frees sc) sc cl C0 s3 H3 fp) (tgNames tg) := fun x hx => by
  have e := lookup_relabel (env := X.env) (ok.own x hx).1
  have e' : (relabel sc X.env).names.lookup x = some .local := by
    unfold relabel
    dsimp only
    rw [e]
    rfl
  exact ⟨.inl e', .inr e'⟩

theorem Post.step {β : Type} {R : β → Mem → List Addr → Hp → Prop} {r : RE β} {α' : List Addr} {H' : Hp} (p : Post D W φ α H σ R r) (st : Stp α H α' H') : Post D W φ α' H' σ R r := by
  cases r with
  | ok a μ' => exact fun α2 H2 s2 m2 => p α2 H2 (st.trans s2) m2
  | ex c μ' => exact fun α2 H2 C s2 m2 e => p α2 H2 C (st.trans s2) m2 e
  | st => exact p
theorem idx_lt {M : List Str} {x : Str} : ∀ {L : List Str} {i : Nat}, x ∈ L → idx (L ++ M) x = some i → i < L.length
  | [], _, h, _ => absurd h (by simp)
  | y :: L, i, h, e => by
    rw [List.cons_append] at e
    simp only [idx] at e
    split at e
    · cases e; simp
    · rename_i hn
      have hm : x ∈ L := (List.mem_cons.mp h).resolve_left fun z => hn z.symm
      cases q : idx (L ++ M) x with
      | none => rw [q] at e; cases e
      | some j => rw [q] at e; cases e; simpa using idx_lt hm q
theorem asgT_keep {L M : List Str} {x : Str} {p0 : Pos} {t : T} {τ τ' : Sl} (hx : x ∈ L) (h : asgT (L ++ M) (.Name x p0) t τ = some τ') : ∀ j, L.length ≤ j → τ'[j]? = τ[j]? := by
  simp only [asgT] at h
  cases q : idx (L ++ M) x with
  | none => rw [q] at h; cases h
  | some i =>
    rw [q] at h; cases h
    intro j hj
    have := idx_lt hx q
    rw [List.getElem?_set_ne (by omega)]
theorem asgs_keep {L M : List Str} : ∀ {es : List Expr} {ts : List T} {τ τ' : Sl}, (∀ e ∈ es, ∀ x p, e = .Name x p → x ∈ L) → asgs (L ++ M) es ts τ = some τ' → ∀ j, L.length ≤ j → τ'[j]? = τ[j]?
  | [], [], τ, τ', _, h => by simp [asgs] at h; subst h; exact fun _ _ => rfl
  | [], _ :: _, _, _, _, h => by simp [asgs] at h
  | _ :: _, [], _, _, _, h => by simp [asgs] at h
  | e :: es, t :: ts, τ, τ', hn, h => by
    simp only [asgs] at h
    cases q : asgT (L ++ M) e t τ with
    | none => rw [q] at h; cases h
    | some τ1 =>
      rw [q] at h
      have h : asgs (L ++ M) es ts τ1 = some τ' := h
      intro j hj
      rw [asgs_keep (fun e he => hn e (List.mem_cons_of_mem _ he)) h j hj]
      cases e with
      | Name x p0 => exact asgT_keep (hn _ List.mem_cons_self x p0 rfl) q j hj
      | _ => simp [asgT] at q
theorem asg_keep {M : List Str} {e : Expr} {t : T} {τ τ' : Sl} (h : asg (tgNames e ++ M) e t τ = some τ') : ∀ j, (tgNames e).length ≤ j → τ'[j]? = τ[j]? := by
  unfold asg at h
  split at h
  · exact asgs_keep (fun e he x p hx => by subst hx; exact List.mem_filterMap.mpr ⟨_, he, rfl⟩) h
  · cases e with
    | Name x p0 => exact asgT_keep (by simp [tgNames]) h
    | _ => simp [asgT] at h

/-- a comprehension: kk is what is done with the list, K how it is used -/
theorem comp_core {β : Type} {R : β → Mem → List Addr → Hp → Prop} {fi : Sl → Mem → RE (List T)} {fe : Sl → Mem → RE T} {kk : T → Mem → RE β} {use : Option (Value → Sem Unit)} {Qf : Value → Shared → Prop}
    (C : Ck D W Γ X k) (hc : Γ.calm = true) (ok : CompOk Γ.N Γ.cel tg sc) (hi : PI X tg iter (rdI D W fi)) (hel : ∀ X', Ck D noW (inComp Γ tg sc) X' k → PE X' elt (rdE D noW fe)) (hs : ∀ x, foldedSetIterable iter X.env x = pure x)
    (I : Inv X pins σ H s) (sr : SRel D φ α H τ σ) (mr : MRel D φ α H μ)
    (p : Post D W φ α H σ R ((fi τ μ).bind fun xs μ1 => if xs.length ≤ room then (compM (asg (tgNames tg ++ frees sc) tg) fe ((tgNames tg).map (fun _ => none) ++ selT Γ.N τ (frees sc)) xs μ1).noex.bind fun ys μ2 => kk (.lst ys) μ2 else .st))
    (K : ∀ acc C0 s' H' α' ys μ', Inv X pins σ H' s' → Stp α H α' H' → SRel D φ α' H' τ σ → MRel D φ α' H' μ' → Den D φ α' H' (.lst ys) (.ref acc) → Post D W φ α' H' σ R (kk (.lst ys) μ') → XOk X H' C0 → (∀ q ∈ pins, q.1 ≠ C0) → (∃ m, s'.heap.Ns C0 m) →
      compPost (model X.prog X.w) X.A X.xe use Qf (.ref acc) C0 (.ok .next) s') :
    wpAny (model X.prog X.w) X.A (comprehension (.ListComp elt [⟨tg, iter, [], 0⟩] sc pos) sc X.env pos' (newList []) false (eval iter X.env) use) Qf X.xe s := by
  obtain ⟨cl, hclos, hcl, hcl2⟩ := closure_of (sc := sc) (env := X.env) fun x hx => I.ok.has x (C.cel x (ok.fre x hx).2.2.1)
  refine wpAny_comprehension_free (use := use) rfl hs hclos ok.kind ok.lcl (thn (hi pins s σ H (fun J H2 => ∃ xs μ1 α1 vs Ok, ItV J Ok vs ∧ DenL D φ α1 H2 xs vs ∧ (∀ α'' H'', Stp α1 H2 α'' H'' → Ok H'') ∧ Stp α H α1 H2 ∧ MRel D φ α1 H2 μ1 ∧
    Post D W φ α1 H2 σ R (if xs.length ≤ room then (compM (asg (tgNames tg ++ frees sc) tg) fe ((tgNames tg).map (fun _ => none) ++ selT Γ.N τ (frees sc)) xs μ1).noex.bind fun ys μ2 => kk (.lst ys) μ2 else .st)) I
    ⟨φ, α, τ, μ, sr, mr, p.bind.mono fun xs μ' α' H' st m q J vs Ok iv dl okk => ⟨xs, μ', α', vs, Ok, iv, dl, okk, st, m, q⟩⟩) fun v s1 h1 => thn h1 fun itv s2 h2 => ?_)
  obtain ⟨it, fp, tn, J, H2, rfl, I2, Tn, tn0, f2, xs, μ1, α1, vs, Ok, iv, dl, okk, st1, mr1, p1⟩ := h2
  split at p1
  case isFalse => exact p1.elim
  rename_i hroom
  cases hcm : compM (asg (tgNames tg ++ frees sc) tg) fe ((tgNames tg).map (fun _ => none) ++ selT Γ.N τ (frees sc)) xs μ1 with
  | ex c μ2 => rw [hcm] at p1; exact p1.elim
  | st => rw [hcm] at p1; exact p1.elim
  | ok ys μ2 =>
  rw [hcm] at p1
  have p1 : Post D W φ α1 H2 σ R (kk (.lst ys) μ2) := p1
  have fo : ∀ b ∈ fp, ∃ o, s2.heap.get? b = some o := fun b hb => let ⟨o, e, _⟩ := Tn.obj 0 _ tn0 b hb; ⟨o, e⟩
  refine wpAny_newObj_type (wpAny_newFunctionEnv ok.noc (by intro y hy; simp at hy) (fun h₁ hns₁ hsb₁ => ?_) ok.kind)
  have sz : (s2.heap.push { cls := .type "list", dict := none, data := .seq ([] : List Value).toArray }).objs.size = s2.heap.objs.size + 1 := Heap.size_push ..
  dsimp only at hns₁ hsb₁ ⊢
  rw [sz] at hns₁ hsb₁ ⊢
  have hns : h₁.Ns (s2.heap.objs.size + 1) (fun _ => none) := by simpa using hns₁
  obtain ⟨I3, J0⟩ := comp_start (tk := s2.toks + ([] : List (Str × Value)).length) C ok I2 f2 fo hcl hcl2 hns hsb₁
  have ck := ck_comp (fp := fp) (cl := cl) (C0 := s2.heap.objs.size + 1) (s3 := { s2 with heap := s2.heap.push { cls := .type "list", data := .seq ([] : List Value).toArray } }) (H3 := upd H2 s2.heap.objs.size (.lst [])) C ok
  have sto := sto_comp (X := X) (Γ := Γ) (fp := fp) (cl := cl) (C0 := s2.heap.objs.size + 1) (s3 := { s2 with heap := s2.heap.push { cls := .type "list", data := .seq ([] : List Value).toArray } }) (H3 := upd H2 s2.heap.objs.size (.lst [])) ok
  have hD : H2 s2.heap.objs.size = none := I2.hok.fresh (Nat.le_refl _)
  have cm := C.clm hc
  have hl : xs.length = vs.length := dl.length
  -- what stays true of the iterator's records
  have fpk : ∀ {H' : Hp}, (∀ b ∈ fp, H' b = none) → ∀ b ∈ fp, FpOk (cxC X (tgNames tg ++ frees sc) sc cl (s2.heap.objs.size + 1) { s2 with heap := s2.heap.push { cls := .type "list", data := .seq ([] : List Value).toArray } } (upd H2 s2.heap.objs.size (.lst [])) fp) [] H' b := fun hn b hb => by
    obtain ⟨f0, f1, f2', f3, f4, f5⟩ := f2 b hb
    obtain ⟨o, ho⟩ := fo b hb
    refine ⟨hn b hb, Nat.ne_of_lt (Nat.lt_succ_of_lt (Heap.lt_size ho)), fun z => ?_, .inl hb, fun x c h => f4 x c (hcl x c h).1, fun q hq => absurd hq (by simp [cxC])⟩
    rcases List.mem_cons.mp (I2.stkSub b z) with z | z
    · exact f1 z
    · exact f2' z
  have TnI := Tn.item (cxC X (tgNames tg ++ frees sc) sc cl (s2.heap.objs.size + 1) { s2 with heap := s2.heap.push { cls := .type "list", data := .seq ([] : List Value).toArray } } (upd H2 s2.heap.objs.size (.lst [])) fp) rfl rfl rfl cm
  have TnD := Tn.done (cxC X (tgNames tg ++ frees sc) sc cl (s2.heap.objs.size + 1) { s2 with heap := s2.heap.push { cls := .type "list", data := .seq ([] : List Value).toArray } } (upd H2 s2.heap.objs.size (.lst [])) fp) rfl rfl rfl cm
  have old : ∀ b o, s2.heap.get? b = some o → h₁.get? b = some o := fun b o e => hsb₁.extBut b o (Nat.ne_of_lt (Nat.lt_succ_of_lt (Heap.lt_size e))) (Heap.get?_push_of_some _ (Heap.get?_push_of_some _ e))
  have loop : codeAny (model X.prog X.w) X.A (.compLoop (.ListComp elt [⟨tg, iter, [], 0⟩] sc pos) 0 (.ref it) (.ref s2.heap.objs.size) (compEnvC sc cl (s2.heap.objs.size + 1) X.env)) (compPost (model X.prog X.w) X.A X.xe use Qf (.ref s2.heap.objs.size) (s2.heap.objs.size + 1)) { s2 with heap := h₁, toks := s2.toks + ([] : List (Str × Value)).length } := by
    refine comp_loop (fun n s' => ∃ i σ' H' α' μ' yT yV rest, n = xs.length - i ∧ i ≤ xs.length ∧ Inv (cxC X (tgNames tg ++ frees sc) sc cl (s2.heap.objs.size + 1) { s2 with heap := s2.heap.push { cls := .type "list", data := .seq ([] : List Value).toArray } } (upd H2 s2.heap.objs.size (.lst [])) fp) [] σ' H' s' ∧ tn i s'.heap ∧ (∀ b ∈ fp, H' b = none) ∧
      Stp α1 H2 α' H' ∧ MRel D (φ ++ [s2.heap.objs.size]) α' H' μ' ∧ SRel D (φ ++ [s2.heap.objs.size]) α' H' ((tgNames tg).map (fun _ => none) ++ selT Γ.N τ (frees sc)) σ' ∧ H' s2.heap.objs.size = some (.lst yV) ∧ DenL D (φ ++ [s2.heap.objs.size]) α' H' yT yV ∧ yT.length = i ∧
      compM (asg (tgNames tg ++ frees sc) tg) fe ((tgNames tg).map (fun _ => none) ++ selT Γ.N τ (frees sc)) (xs.drop i) μ' = .ok rest μ2 ∧ ys = yT ++ rest) ?_ xs.length ?_
    · rintro n s' ⟨i, σ', H', α', μ', yT, yV, rest, rfl, hi', Iv, tni, fr, stp, mr', sr', hacc, dly, hyl, hcmi, hys⟩
      by_cases hlt : i < xs.length
      · refine thn (TnI i [] s' σ' H' (fun _ _ => False) Iv (fpk fr) tni (iv.go i H' (okk _ _ stp) (by omega))) ?_
        rintro r s4 ⟨u, rfl, h4⟩
        refine thn h4 ?_
        rintro _ s5 ⟨x, H5, I5, r5, y5, tn5, fr5⟩
        obtain ⟨rfl, hx⟩ := iv.yld i H' x H5 (okk _ _ stp) (by omega) y5
        have hdr : xs.drop i = xs[i] :: xs.drop (i + 1) := List.drop_eq_getElem_cons hlt
        rw [hdr] at hcmi
        obtain ⟨τ', y, μ3, zs, ha, hf, hcm', hrest⟩ := compM_cons hcmi
        obtain ⟨x', hx', dx⟩ := dl.get (i := i) (t := xs[i]) (by simp [hlt])
        rw [hx] at hx'
        cases hx'
        have dx' : Den D (φ ++ [s2.heap.objs.size]) α' H5 xs[i] x := (dx.look (look_more hD)).step stp
        have I5' := I5.pinned (fpk fr5) (Tn.obj _ _ tn5)
        refine thn (asg_ok (S := tgNames tg) rfl ok.nd sto cm (fun x h => h) ha I5' sr' dx' r5) ?_
        rintro _ s6 ⟨σ6, I6, sr6⟩
        refine thn (hel _ ck _ s6 σ6 H5 (fun v H7 => ∃ α7, Stp α' H5 α7 H7 ∧ MRel D (φ ++ [s2.heap.objs.size]) α7 H7 μ3 ∧ Den D (φ ++ [s2.heap.objs.size]) α7 H7 y v) I6 ⟨φ ++ [s2.heap.objs.size], α', τ', μ', sr6, mr', by rw [hf]; exact fun α7 H7 st m v d => ⟨α7, st, m, d⟩⟩) ?_
        rintro x7 s7 ⟨v7, H7, I7, r7, α7, st7, mr7, d7⟩
        have nD : s2.heap.objs.size ∉ α' := fun z => mr'.dis _ z (by simp)
        have acc7 : H7 s2.heap.objs.size = some (.lst yV) := st7.keep _ _ nD hacc
        have hyv : yV.length = i := by rw [← dly.length]; exact hyl
        refine thn (mt_append _ s7 σ6 H7 (.ref s2.heap.objs.size) [v7] (.ref s2.heap.objs.size) [x7] (fun _ H8 => H8 = upd H7 s2.heap.objs.size (.lst (yV ++ [v7]))) I7 rfl (.cons r7 .nil) ⟨_, yV, v7, rfl, rfl, acc7, by rw [hyv]; exact Nat.lt_of_lt_of_le hlt (room_line hroom), rfl⟩) ?_
        rintro x8 s8 ⟨v8, H8, I8, r8, rfl⟩
        have st8 : Stp α1 H2 α7 (upd H7 s2.heap.objs.size (.lst (yV ++ [v7]))) := by
          have t := stp.trans st7
          refine ⟨t.ext, fun b o n e => ?_, fun b e => t.live b ?_⟩
          · rw [upd_ne (ne_of_none e hD)]; exact t.keep b o n e
          · by_cases hb : b = s2.heap.objs.size
            · rw [hb, upd_same] at e; cases e
            · rw [upd_ne hb] at e; exact e
        have inphi : s2.heap.objs.size ∈ φ ++ [s2.heap.objs.size] := by simp
        have pinned : ∀ b ∈ fp, ∃ o, s5.heap.get? b = some o ∧ s8.heap.get? b = some o ∧ upd H7 s2.heap.objs.size (.lst (yV ++ [v7])) b = none := fun b hb => by
          obtain ⟨o, e, _⟩ := Tn.obj _ _ tn5 b hb
          have := I8.pin (b, o) (List.mem_append_right _ (List.mem_append_right _ (mem_pinsAt hb e)))
          exact ⟨o, e, this.1, this.2.1⟩
        refine ⟨xs.length - (i + 1), by omega, i + 1, σ6, _, α7, μ3, yT ++ [y], yV ++ [v7], zs, rfl, hlt, I8.unpinned, Tn.keep _ _ _ tn5 (fun b hb o e => ?_), fun b hb => (pinned b hb).choose_spec.2.2, st8, mr7.look (look_upd inphi) (fun a ha' => ⟨by rw [upd_ne (fun z => mr7.dis a ha' (by rw [z]; simp))], mr7.dis a ha'⟩) (fun b hb => ?_), ⟨?_, fun j t e => ?_⟩, upd_same, ?_, by simp [hyl], hcm', by rw [hys, hrest]; simp⟩
        · obtain ⟨o', e1, e2, _⟩ := pinned b hb
          rw [e] at e1; cases e1; exact e2
        · by_cases hb' : b = s2.heap.objs.size
          · rw [hb', upd_same]; exact ⟨_, rfl⟩
          · rw [upd_ne hb']; exact mr7.phi b hb
        · have := I8.len
          simp [cxC, selT] at this ⊢
          omega
        · have hj : (tgNames tg).length ≤ j := by
            rcases Nat.lt_or_ge j (tgNames tg).length with h | h
            · rw [List.getElem?_append_left (by simpa using h), List.getElem?_map] at e
              cases q : (tgNames tg)[j]? with
              | none => rw [q] at e; cases e
              | some z => rw [q] at e; cases e
            · exact h
          obtain ⟨v, hv, d⟩ := sr6.val j t (by rw [asg_keep ha j hj]; exact e)
          exact ⟨v, hv, (d.step st7).look (look_upd inphi)⟩
        · have one : DenL D (φ ++ [s2.heap.objs.size]) α7 H7 [y] [v7] := ⟨v7, [], rfl, d7, rfl⟩
          exact ((dly.step st7).append one).look (look_upd inphi)
      · have hie : i = xs.length := by omega
        refine thn (TnD i [] s' σ' H' (fun _ _ => False) Iv (fpk fr) tni (by rw [hie, hl]; exact iv.stop H' (okk _ _ stp))) ?_
        rintro r s4 ⟨rfl, I4⟩
        have hdr : xs.drop i = [] := by rw [hie]; simp
        rw [hdr] at hcmi
        simp only [compM] at hcmi
        cases hcmi
        rw [List.append_nil] at hys
        subst hys
        have I5 : Inv X pins σ H' s4 := I3.call' (ch := fp) I4.os I4.base I4.hok I4.bare fun b hb => by
          obtain ⟨f0, f1, f2', f3, f4, f5⟩ := f2 b hb
          exact ⟨f3, f1, f4, f5⟩
        have n3 : ({ s2 with heap := s2.heap.push { cls := .type "list", data := .seq ([] : List Value).toArray } } : Shared).heap.get? (s2.heap.objs.size + 1) = none := Heap.get?_none_of_le (by show (s2.heap.push _).objs.size ≤ _; rw [Heap.size_push]; exact Nat.le_refl _)
        have xo := inv_xok I3 n3
        refine K s2.heap.objs.size (s2.heap.objs.size + 1) s4 H' α' _ μ2 I5 (st1.trans stp) ((sr.step st1).step stp) (mr'.look look_less (fun a ha => ⟨rfl, fun z => mr'.dis a ha (List.mem_append_left _ z)⟩) fun b hb => mr'.phi b (List.mem_append_left _ hb)) ⟨_, yV, rfl, fresh_phi mr1 hD, fun z => mr'.dis _ z (by simp), .inl hacc, dly.look look_less⟩ (p1.step stp) ⟨I4.free, xo.loc, xo.nfs, xo.new, xo.cel, xo.pin⟩ (fun q hq z => ?_) ?_
        · have := (I3.pin q (List.mem_append_right _ hq)).1
          rw [z, n3] at this; cases this
        · obtain ⟨m, hm, _⟩ := I4.loc
          exact ⟨m, hm⟩
    · have sm : Same H2 (upd H2 s2.heap.objs.size (.lst [])) := same_upd hD
      refine ⟨0, _, _, α1, μ1, [], [], ys, rfl, Nat.zero_le _, J0, Tn.keep _ _ _ tn0 fun b hb o e => old b o e, fun b hb => ?_, Stp.new sm, ?_, ⟨?_, fun j t e => ?_⟩, upd_same, rfl, rfl, by simpa using hcm, by simp⟩
      · obtain ⟨o, ho⟩ := fo b hb
        rw [upd_ne (Nat.ne_of_lt (Heap.lt_size ho))]
        exact (f2 b hb).1
      · refine mr1.look (fun a o n1 n2 e => ⟨(look_more hD a o n1 n2 e).1, sm a o e⟩) (fun a ha => ?_) fun b hb => ?_
        · have na : a ≠ s2.heap.objs.size := fun z => fresh_out mr1 hD (z ▸ ha)
          exact ⟨upd_ne na, fun z => (List.mem_append.mp z).elim (mr1.dis a ha) fun z => na (List.mem_singleton.mp z)⟩
        · rcases List.mem_append.mp hb with z | z
          · obtain ⟨o, e⟩ := mr1.phi b z
            exact ⟨o, sm b o e⟩
          · rw [List.mem_singleton.mp z, upd_same]; exact ⟨_, rfl⟩
      · simp [selT, selV]
      · have hj : (tgNames tg).length ≤ j := by
          rcases Nat.lt_or_ge j (tgNames tg).length with h | h
          · rw [List.getElem?_append_left (by simpa using h), List.getElem?_map] at e
            cases q : (tgNames tg)[j]? with
            | none => rw [q] at e; cases e
            | some z => rw [q] at e; cases e
          · exact h
        rw [List.getElem?_append_right (by simpa using hj)] at e
        rw [List.getElem?_append_right (by simpa using hj)]
        simp only [List.length_map] at e ⊢
        obtain ⟨v, hv, d⟩ := selV_den (sr.step st1) _ t e
        exact ⟨v, hv, (d.look (look_more hD)).step (Stp.new sm)⟩
  exact codeAny_compStart_list loop (Tn.self _ 0 _ _ _ (Tn.keep _ _ _ tn0 fun b hb o e => old b o e) loop)
end
end NH
end
section
set_option linter.all false
set_option maxRecDepth 100000
set_option maxHeartbeats 4000000
namespace NH
open PySem PySem.Spec PyProof.Rows L2

section
variable {X : Cx} {D : DP} {W : XW} {Γ : Cn} {k : Nat} {pins : List (Addr × Obj)} {s : Shared} {σ : St} {H : Hp} {φ α : List Addr} {τ : Sl} {μ : Mem} {tg iter elt : Expr} {sc : Scope} {pos : Pos}

/-- the block's own dict goes -/
theorem inv_but {C0 : Addr} {h' : Heap} (I : Inv X pins σ H s) (xo : XOk X H C0) (hp : ∀ q ∈ pins, q.1 ≠ C0) (sb : Heap.SameBut C0 s.heap h') : Inv X pins σ H { s with heap := h' } :=
  inv_step (ch := [C0]) I (fun b hb => by rw [List.mem_singleton.mp hb]; exact ⟨xo, hp⟩) (fun b o _ hc e => sb.extBut b o (fun z => hc (by simp [z])) e) fun b o _ hc e => ⟨o.slots, sb.extBut b o (fun z => hc (by simp [z])) e⟩
theorem se_comp {fi : Sl → Mem → RE (List T)} {fe : Sl → Mem → RE T} (C : Ck D W Γ X k) (hc : Γ.calm = true) (ok : CompOk Γ.N Γ.cel tg sc) (hi : PI X tg iter (rdI D W fi)) (hel : ∀ X', Ck D noW (inComp Γ tg sc) X' k → PE X' elt (rdE D noW fe)) (hs : ∀ x, foldedSetIterable iter X.env x = pure x) :
    PE X (.ListComp elt [⟨tg, iter, [], 0⟩] sc pos) (rdE D W fun τ μ => (fi τ μ).bind fun xs μ1 => if xs.length ≤ room then (compM (asg (tgNames tg ++ frees sc) tg) fe ((tgNames tg).map (fun _ => none) ++ selT Γ.N τ (frees sc)) xs μ1).noex.bind fun ys μ2 => .ok (.lst ys) μ2 else .st) := by
  rintro pins s σ H Q I ⟨φ, α, τ, μ, sr, mr, p⟩
  rw [eval_ListComp]
  refine comp_core (kk := fun t μ => .ok t μ) (use := none) (Qf := EP X pins σ Q) C hc ok hi hel hs I sr mr p ?_
  rintro acc C0 s' H' α' ys μ' I' st sr' m d post xo hp ⟨mm, hm⟩
  exact ⟨mm, hm, fun h' sb => ⟨.ref acc, H', inv_but I' xo hp sb, rfl, post.here m d⟩⟩

theorem look_eq {x : Str} {g : GM} (h : Γ.look x = g) (hg : g ≠ .bad) : x ∈ Γ.G ∧ Γ.gl x = g := by
  unfold Cn.look at h
  split at h
  · rename_i hm
    exact ⟨by simpa using hm, h⟩
  · exact absurd h.symm hg
theorem noSet {iter : Expr} (h : ∀ es kk p, iter ≠ .Set es kk p) : ∀ x, foldedSetIterable iter X.env x = pure x := by
  intro x
  cases iter <;> first | rfl | exact absurd rfl (h _ _ _)
end

section
variable {D : DP}
theorem si_ev {X : Cx} {W : XW} {Γ : Cn} {k n : Nat} (C : Ck D W Γ X k) (ih : ∀ e, PE X e (rdE D W (ev n Γ e))) (tg iter : Expr) : PI X tg iter (rdI D W (evIter Γ (ev n Γ) iter)) := by
  have gen : ∀ a, PI X tg a (rdI D W fun τ μ => (ev n Γ a τ μ).bind fun t μ1 => match items t with | some xs => .ok xs μ1 | none => .st) := fun a => si_expr (ih a)
  have stk : ∀ a, PI X tg a (rdI D W fun _ _ => .st) := fun a pins s σ H R I ⟨_, _, _, _, _, _, p⟩ => p.elim
  unfold evIter
  split
  · rename_i p0 a pos
    split
    · split
      · rename_i hl
        obtain ⟨hx, hg⟩ := look_eq hl (by intro z; cases z)
        cases hs : noStar a with
        | true => exact si_range C hx hg hs (ih a)
        | false =>
          cases a with
          | Starred v p =>
            rintro pins s σ H R I ⟨φ, α, τ, μ, sr, mr, p⟩
            cases n <;> exact p.elim
          | _ => simp [noStar] at hs
      · exact stk _
    · exact stk _
  · rename_i p0 a b c pos
    split
    · rename_i hb
      simp only [Bool.and_eq_true] at hb
      split
      · rename_i hl
        obtain ⟨hx, hg⟩ := look_eq hl (by intro z; cases z)
        exact si_range3 C hx hg hb.1.1.2 hb.1.2 hb.2 (ih a) (ih b) (ih c)
      · exact stk _
    · exact stk _
  · exact gen _
end
end NH
end
section
set_option linter.all false
set_option maxRecDepth 100000
set_option maxHeartbeats 4000000
namespace NH
open PySem PySem.Spec PyProof.Rows L2
section
variable {D : DP}
theorem set_ev {Γ : Cn} : ∀ {n : Nat} {es kk p τ μ}, ev n Γ (.Set es kk p) τ μ = .st
  | 0, _, _, _, _, _ => rfl
  | _ + 1, _, _, _, _, _ => rfl
theorem sevC {X : Cx} {W : XW} {Γ : Cn} {k n : Nat} (C : Ck D W Γ X k) (hn : ∀ m, m ≤ n → ∀ e, PE X e (rdE D W (ev m Γ e))) (a : Expr) (ops : List CmpOp) (cs : List Expr) (p : Pos) :
    PT X (.Compare a ops cs p) (rdT D W fun τ μ => (ev n Γ (.Compare a ops cs p) τ μ).bind truT) := by
  cases n with
  | zero => exact st_st
  | succ n =>
    have ih := hn n (Nat.le_succ _)
    match ops, cs with
    | [op], [b] =>
      cases h : okCmp op b with
      | true =>
        have e : ∀ τ μ, ev (n + 1) Γ (.Compare a [op] [b] p) τ μ = (ev n Γ a τ μ).bind fun x μ1 => (ev n Γ b τ μ1).bind fun y μ2 => cmpT op x y μ2 := fun τ μ => by
          show (if (!okCmp op b) = true then _ else _) = _
          rw [h]; rfl
        simp only [e]
        exact stest_cmp1 C h (ih a) (ih b)
      | false =>
        have e : ∀ τ μ, ev (n + 1) Γ (.Compare a [op] [b] p) τ μ = .st := fun τ μ => by
          show (if (!okCmp op b) = true then _ else _) = _
          rw [h]; rfl
        simp only [e]
        exact st_st
    | [op, op'], [b, c] =>
      cases h : bySize op && bySize op' with
      | true =>
        have e : ∀ τ μ, ev (n + 1) Γ (.Compare a [op, op'] [b, c] p) τ μ = (ev n Γ a τ μ).bind fun x μ1 => (ev n Γ b τ μ1).bind fun y μ2 => (cmpT op x y μ2).bind fun k μ3 => (match k with
            | .bl true => (ev n Γ c τ μ3).bind fun z μ4 => cmpT op' y z μ4
            | .bl false => .ok (.bl false) μ3
            | _ => .st) := fun τ μ => by
          show (if (!(bySize op && bySize op')) = true then _ else _) = _
          rw [h]; rfl
        simp only [e]
        simp only [Bool.and_eq_true] at h
        exact stest_chain C h.1 h.2 (ih a) (ih b) (ih c)
      | false =>
        have e : ∀ τ μ, ev (n + 1) Γ (.Compare a [op, op'] [b, c] p) τ μ = .st := fun τ μ => by
          show (if (!(bySize op && bySize op')) = true then _ else _) = _
          rw [h]; rfl
        simp only [e]
        exact st_st
    | [], cs => exact st_st
    | [op], [] => exact st_st
    | [op], b :: c :: r => exact st_st
    | [op, op'], [] => exact st_st
    | [op, op'], [b] => exact st_st
    | [op, op'], b :: c :: d :: r => exact st_st
    | op :: op' :: op2 :: r, cs => exact st_st
/-- tests -/
theorem sevT {X : Cx} {W : XW} {Γ : Cn} {k n : Nat} (C : Ck D W Γ X k) (hn : ∀ m, m ≤ n → ∀ e, PE X e (rdE D W (ev m Γ e))) : ∀ m, (∀ e, PT X e (rdT D W (evT (ev n Γ) m e))) ∧ ∀ op es p, PW X (.BoolOp op es p) (rdT D W (evT (ev n Γ) m (.BoolOp op es p)))
  | 0 => ⟨fun e => st_st, fun _ _ _ _ _ _ _ _ _ _ ⟨_, _, _, _, _, _, p⟩ => p.elim⟩
  | m + 1 => by
    obtain ⟨r1, r2⟩ := sevT C hn m
    have ih := hn n (Nat.le_refl _)
    have bo : ∀ op es p, PW X (.BoolOp op es p) (rdT D W (evT (ev n Γ) (m + 1) (.BoolOp op es p))) := fun op es p => by
      cases op with
      | And =>
        match es with
        | [] => exact fun _ _ _ _ _ _ _ ⟨_, _, _, _, _, _, p⟩ => p.elim
        | [a] => exact pw_and1 (r1 a)
        | a :: b :: r => exact st_and (r1 a) (r2 _ _ _)
      | Or =>
        match es with
        | [] => exact fun _ _ _ _ _ _ _ ⟨_, _, _, _, _, _, p⟩ => p.elim
        | [a] => exact pw_or1 (r1 a)
        | a :: b :: r => exact st_or (r1 a) (r2 _ _ _)
    refine ⟨fun e => ?_, bo⟩
    cases e with
    | BoolOp op es p => exact (bo op es p).pt
    | UnaryOp op a p =>
      cases op with
      | Not => exact st_not (r1 a)
      | _ => exact st_st
    | Compare a ops cs p => exact sevC C hn a ops cs p
    | Name x p => exact stest (ih _) fun _ => rfl
    | Call f args kws p => exact stest (ih _) fun _ => rfl
    | Subscript a b p => exact stest (ih _) fun _ => rfl
    | Attribute a f p => exact stest (ih _) fun _ => rfl
    | _ => exact st_st

theorem ev_if {D : DP} {X : Cx} {W : XW} {e : Expr} {b : Bool} {f : Sl → Mem → RE T} {g : Sl → Mem → RE T} (hg : ∀ τ μ, g τ μ = if b = true then f τ μ else .st) (h : b = true → PE X e (rdE D W f)) : PE X e (rdE D W g) := by
  have : g = fun τ μ => if b = true then f τ μ else .st := funext fun τ => funext fun μ => hg τ μ
  rw [this]
  cases hb : b with
  | true => simpa [hb] using h hb
  | false => simpa using se_st
theorem ev_ifn {D : DP} {X : Cx} {W : XW} {e : Expr} {b : Bool} {f : Sl → Mem → RE T} {g : Sl → Mem → RE T} (hg : ∀ τ μ, g τ μ = if (!b) = true then .st else f τ μ) (h : b = true → PE X e (rdE D W f)) : PE X e (rdE D W g) :=
  ev_if (b := b) (f := f) (fun τ μ => by rw [hg]; cases b <;> rfl) h

theorem sev_cmp {X : Cx} {W : XW} {Γ : Cn} {k n : Nat} (C : Ck D W Γ X k) (ih : ∀ e, PE X e (rdE D W (ev n Γ e))) (a : Expr) (ops : List CmpOp) (cs : List Expr) (p : Pos) : PE X (.Compare a ops cs p) (rdE D W (ev (n + 1) Γ (.Compare a ops cs p))) := by
  match ops, cs with
  | [op], [b] => exact ev_ifn (b := okCmp op b) (fun τ μ => rfl) fun h => se_cmp C h (ih a) (ih b)
  | [op, op'], [b, c] =>
    refine ev_ifn (b := bySize op && bySize op') (fun τ μ => rfl) fun h => ?_
    simp only [Bool.and_eq_true] at h
    exact se_chain C h.1 h.2 (ih a) (ih b) (ih c)
  | [], cs => exact se_st
  | [op], [] => exact se_st
  | [op], b :: c :: r => exact se_st
  | [op, op'], [] => exact se_st
  | [op, op'], [b] => exact se_st
  | [op, op'], b :: c :: d :: r => exact se_st
  | op :: op' :: op2 :: r, cs => exact se_st
theorem sev_sub {X : Cx} {W : XW} {Γ : Cn} {k n : Nat} (C : Ck D W Γ X k) (ih : ∀ e, PE X e (rdE D W (ev n Γ e))) (a b : Expr) (p : Pos) : PE X (.Subscript a b p) (rdE D W (ev (n + 1) Γ (.Subscript a b p))) := by
  have gen : ∀ b, (∀ τ μ, ev (n + 1) Γ (.Subscript a b p) τ μ = if plainIx b = true then (ev n Γ a τ μ).bind fun x μ1 => (ev n Γ b τ μ1).bind fun y μ2 => itemT x y μ2 else .st) → PE X (.Subscript a b p) (rdE D W (ev (n + 1) Γ (.Subscript a b p))) := fun b h => ev_if h fun hb => se_ix hb C.hK (ih a) (ih b)
  cases b with
  | Slice lo hi st p2 =>
    cases st with
    | none =>
      cases lo with
      | none =>
        cases hi with
        | none => exact se_slice (ih a) so_none so_none
        | some h => exact se_slice (ih a) so_none (so_some (ih h))
      | some l =>
        cases hi with
        | none => exact se_slice (ih a) (so_some (ih l)) so_none
        | some h => exact se_slice (ih a) (so_some (ih l)) (so_some (ih h))
    | some z => exact se_st
  | _ => exact gen _ fun τ μ => rfl
theorem sev_comp {X : Cx} {W : XW} {Γ : Cn} {k n : Nat} (C : Ck D W Γ X k) (IH : ∀ X' W' Γ' k', Ck D W' Γ' X' k' → ∀ e, PE X' e (rdE D W' (ev n Γ' e))) (elt : Expr) (gens : List Comprehension) (sc : Scope) (p : Pos) : PE X (.ListComp elt gens sc p) (rdE D W (ev (n + 1) Γ (.ListComp elt gens sc p))) := by
  match gens with
  | [] => exact se_st
  | [⟨tg, iter, [], 0⟩] =>
    refine ev_if (b := Γ.calm && compOk Γ.N Γ.cel tg sc) (fun τ μ => rfl) fun h => ?_
    simp only [Bool.and_eq_true] at h
    by_cases hset : ∃ es kk p, iter = .Set es kk p
    · obtain ⟨es, kk, p0, rfl⟩ := hset
      rintro pins s σ H Q I ⟨φ, α, τ, μ, sr, mr, q⟩
      have e : evIter Γ (ev n Γ) (.Set es kk p0) τ μ = .st := by
        show (ev n Γ (.Set es kk p0) τ μ).bind _ = _
        rw [set_ev]; rfl
      dsimp only at q
      rw [e] at q
      exact q.elim
    · exact se_comp C h.1 (compOk_of h.2) (si_ev C (IH X W Γ k C) tg iter) (fun X' C' => IH X' noW _ k C' elt) (noSet fun es kk p0 z => hset ⟨es, kk, p0, z⟩)
  | [⟨tg, iter, [], (Int.ofNat (m + 1))⟩] => exact se_st
  | [⟨tg, iter, [], (Int.negSucc m)⟩] => exact se_st
  | [⟨tg, iter, i :: is, z⟩] => exact se_st
  | ⟨tg, iter, ifs, z⟩ :: g' :: r =>
    cases ifs with
    | cons _ _ => exact se_st
    | nil =>
      rcases z with (_ | m) | m
      · exact se_st
      · exact se_st
      · exact se_st
theorem sev_call {X : Cx} {W : XW} {Γ : Cn} {k n : Nat} (C : Ck D W Γ X k) (ih : ∀ e, PE X e (rdE D W (ev n Γ e))) (f : Expr) (args : List Expr) (kws : List Keyword) (p : Pos) : PE X (.Call f args kws p) (rdE D W (ev (n + 1) Γ (.Call f args kws p))) := by
  cases f with
  | Name x p0 =>
    cases kws with
    | cons _ _ => exact se_st
    | nil =>
      refine ev_if (b := (idx Γ.N x).isNone && args.all noStar) (fun τ μ => rfl) fun h => ?_
      simp only [Bool.and_eq_true] at h
      have pa := sa_all (F := ev n Γ) h.2 fun e _ => ih e
      cases hl : Γ.look x with
      | fn g =>
        obtain ⟨hx, hg⟩ := look_eq hl (by intro z; cases z)
        exact ev_if (b := Γ.calm) (f := fun τ μ => (evL (ev n Γ) args τ μ).bind g) (fun τ μ => rfl) fun hc => se_call C hx hg hc h.2 pa
      | mk c g =>
        obtain ⟨hx, hg⟩ := look_eq hl (by intro z; cases z)
        exact ev_if (b := Γ.calm) (f := fun τ μ => (evL (ev n Γ) args τ μ).bind (frozenMk c g)) (fun τ μ => rfl) fun hc => se_make C hx hg hc h.2 pa
      | none =>
        obtain ⟨hx, hg⟩ := look_eq hl (by intro z; cases z)
        by_cases hi : x = "isinstance"
        · subst hi
          match args with
          | [] => simpa using se_st
          | [a] => simpa using se_st
          | [a, c] =>
            simp only [List.all_cons, List.all_nil, Bool.and_eq_true] at h
            cases hcs : clsNames Γ c with
            | none => simpa [hcs] using se_st
            | some cs =>
              simp only [if_true, hcs]
              exact se_isi C hx hg h.2.1 hcs (ih a)
          | a :: b :: c :: r => simpa using se_st
        · simp only [if_neg hi]
          match args with
          | [] => exact se_st
          | [a] =>
            simp only [List.all_cons, List.all_nil, Bool.and_eq_true] at h
            have hs := h.2.1
            by_cases h1 : x = "all"
            · subst h1
              simp only [if_true]
              exact ev_if (b := Γ.calm) (f := fun τ μ => (ev n Γ a τ μ).bind allT) (fun τ μ => rfl) fun hc => se_b1 C hx hg boot_all (by decide) hs (b_all (C.clm hc)) (ih a)
            · simp only [if_neg h1]
              by_cases h2 : x = "len"
              · subst h2; simp only [if_true]; exact se_b1 C hx hg boot_len (by decide) hs b_len (ih a)
              · simp only [if_neg h2]
                by_cases h3 : x = "int"
                · subst h3; simp only [if_true]; exact se_bT C hx hg (by decide +kernel) (by decide) hs b_int (ih a)
                · simp only [if_neg h3]
                  by_cases h4 : x = "tuple"
                  · subst h4; simp only [if_true]; exact se_bT C hx hg (by decide +kernel) (by decide) hs b_tuple (ih a)
                  · simp only [if_neg h4]
                    by_cases h5 : x = "list"
                    · subst h5; simp only [if_true]; exact se_bT C hx hg (by decide +kernel) (by decide) hs b_list (ih a)
                    · simp only [if_neg h5]; exact se_st
          | a :: b :: r => exact se_st
      | _ => exact se_st
  | Attribute o m pa =>
    cases o with
    | Name o po =>
      match args, kws with
      | [], _ => exact se_st
      | [a], [] =>
        refine ev_if (b := noStar a && pa.endLine == p.line) (fun τ μ => rfl) fun h => ?_
        simp only [Bool.and_eq_true] at h
        by_cases h1 : m = "append"
        · subst h1
          exact se_app h.1 h.2 (ih _) (ih a)
        · by_cases h2 : m = "index"
          · subst h2
            exact se_index h.1 h.2 (ih _) (ih a)
          · have e1 : (m == ("append" : Str)) = false := beq_eq_false_iff_ne.mpr h1
            have e2 : (m == ("index" : Str)) = false := beq_eq_false_iff_ne.mpr h2
            simp only [e1, e2]
            exact se_st
      | [a], _ :: _ => exact se_st
      | a :: b :: r, _ => exact se_st
    | Constant c k0 p0 =>
      cases c with
      | str sep =>
        have main : ∀ r pr x px pq, PE X (.Call (.Attribute (.Constant (.str sep) k0 p0) m pa) [.Call (.Name r pr) [.Name x px] [] pq] [] p) (rdE D W (ev (n + 1) Γ (.Call (.Attribute (.Constant (.str sep) k0 p0) m pa) [.Call (.Name r pr) [.Name x px] [] pq] [] p))) := fun r pr x px pq => by
          refine ev_if (b := m == ("join" : Str) && r == ("reversed" : Str) && (idx Γ.N r).isNone && pa.endLine == p.line && Γ.calm) (fun τ μ => rfl) fun h => ?_
          simp only [Bool.and_eq_true] at h
          have hm : m = "join" := beq_iff_eq.mp h.1.1.1.1
          have hr : r = "reversed" := beq_iff_eq.mp h.1.1.1.2
          subst hm hr
          cases hl : Γ.look "reversed" with
          | none =>
            obtain ⟨hx, hg⟩ := look_eq hl (by intro z; cases z)
            exact se_joinR C h.2 hx hg h.1.2 (ih _)
          | _ => exact se_st
        cases args with
        | nil => exact se_st
        | cons a as =>
          cases a with
          | Call f2 args2 kws2 q =>
            cases f2 with
            | Name r pr =>
              cases args2 with
              | nil => exact se_st
              | cons e es =>
                cases e with
                | Name x px =>
                  cases es with
                  | cons _ _ => exact se_st
                  | nil =>
                    cases kws2 with
                    | cons _ _ => exact se_st
                    | nil =>
                      cases as with
                      | cons _ _ => exact se_st
                      | nil =>
                        cases kws with
                        | cons _ _ => exact se_st
                        | nil => exact main r pr x px q
                | _ => exact se_st
            | _ => exact se_st
          | _ => exact se_st
      | _ => exact se_st
    | _ => exact se_st
  | _ => exact se_st
/-- THE SOUNDNESS of ev -/
theorem sev : ∀ (n : Nat) {X : Cx} {W : XW} {Γ : Cn} {k : Nat}, Ck D W Γ X k → ∀ m, m ≤ n → ∀ e, PE X e (rdE D W (ev m Γ e)) := by
  intro n
  induction n with
  | zero => intro X W Γ k C m hm e; obtain rfl : m = 0 := by omega
            exact se_st
  | succ n IH =>
    intro X W Γ k C m hm e
    by_cases hmn : m ≤ n
    · exact IH C m hmn e
    · obtain rfl : m = n + 1 := by omega
      have hn := IH C
      have ih := hn n (Nat.le_refl _)
      cases e with
      | Constant c kk p =>
        cases c with
        | int i => exact se_int
        | bool b => exact se_bl
        | none => exact se_non
        | str x => exact se_str
        | _ => exact se_st
      | Name x p =>
        cases h : idx Γ.N x with
        | some i =>
          have e : ev (n + 1) Γ (.Name x p) = fun τ μ => match τ[i]? with | some (some t) => .ok t μ | _ => .st := by
            funext τ μ; show (match idx Γ.N x with | some i => _ | none => _) = _; rw [h] <;> rfl
          rw [e]
          exact se_var C h
        | none =>
          cases hl : Γ.look x with
          | cst t =>
            have e : ev (n + 1) Γ (.Name x p) = fun τ μ => .ok t μ := by
              funext τ μ; show (match idx Γ.N x with | some i => _ | none => _) = _; rw [h]; show (match Γ.look x with | .cst t => _ | _ => _) = _; rw [hl]
            rw [e]
            obtain ⟨hx, hg⟩ := look_eq hl (by intro z; cases z)
            exact se_cst C hx hg
          | _ =>
            have e : ev (n + 1) Γ (.Name x p) = fun τ μ => .st := by
              funext τ μ; show (match idx Γ.N x with | some i => _ | none => _) = _; rw [h]; show (match Γ.look x with | .cst t => _ | _ => _) = _; rw [hl]
            rw [e]
            exact se_st
      | BinOp a op b p => exact se_bin (ih a) (ih b)
      | UnaryOp op a p =>
        cases op with
        | USub => exact se_neg (ih a)
        | Not => exact se_not (ih a)
        | _ => exact se_st
      | BoolOp op es p =>
        match es with
        | [] => cases op <;> exact se_st
        | [a] => cases op <;> exact se_one (ih a)
        | a :: b :: r =>
          cases op with
          | And => exact se_and (ih a) (ih _)
          | Or => exact se_or (ih a) (ih _)
      | Compare a ops cs p => exact sev_cmp C ih a ops cs p
      | IfExp c a b p => exact se_if ((sevT C hn n).1 c) (ih a) (ih b)
      | Attribute a f p =>
        cases a with
        | Name x p0 => exact se_fld C (ih _)
        | _ => exact se_st
      | List es p =>
        refine ev_if (b := es.all noStar && decide (es.length ≤ room)) (fun τ μ => rfl) fun h => ?_
        simp only [Bool.and_eq_true, decide_eq_true_eq] at h
        exact se_lst h.2 (sa_all h.1 fun e _ => ih e)
      | Tuple es kk p =>
        refine ev_if (b := es.all noStar && decide (es.length ≤ room)) (fun τ μ => rfl) fun h => ?_
        simp only [Bool.and_eq_true, decide_eq_true_eq] at h
        exact se_tup h.2 (sa_all h.1 fun e _ => ih e)
      | Subscript a b p => exact sev_sub C ih a b p
      | Call f args kws p => exact sev_call C ih f args kws p
      | ListComp elt gens sc p => exact sev_comp C (fun X' W' Γ' k' C' => IH C' n (Nat.le_refl _)) elt gens sc p
      | _ => exact se_st
theorem sevM {X : Cx} {W : XW} {Γ : Cn} {k n : Nat} (C : Ck D W Γ X k) (e : Expr) : PE X e (rdE D W (evM n Γ e)) := by
  have ih := sev (D := D) n C n (Nat.le_refl _)
  cases e with
  | List es p =>
    refine ev_if (b := es.all noStar && decide (es.length ≤ room)) (fun τ μ => rfl) fun h => ?_
    simp only [Bool.and_eq_true, decide_eq_true_eq] at h
    exact se_lay h.2 (sa_all h.1 fun e _ => ih e)
  | Call f args kws p =>
    cases f with
    | Name x p0 =>
      match args, kws with
      | [], _ => exact se_st
      | [a], [] =>
        refine ev_if (b := x == ("list" : Str) && (idx Γ.N x).isNone && noStar a) (fun τ μ => rfl) fun h => ?_
        simp only [Bool.and_eq_true] at h
        have hm : x = "list" := beq_iff_eq.mp h.1.1
        subst hm
        cases hl : Γ.look "list" with
        | none =>
          obtain ⟨hx, hg⟩ := look_eq hl (by intro z; cases z)
          exact se_bT C hx hg (by decide +kernel) (by decide) h.2 b_lay (ih a)
        | _ => exact se_st
      | [a], _ :: _ => exact se_st
      | a :: b :: r, _ => exact se_st
    | _ => exact se_st
  | _ => exact se_st
theorem sevO {X : Cx} {W : XW} {Γ : Cn} {k n : Nat} (C : Ck D W Γ X k) (x : Str) (e : Expr) : PE X e (rdE D W (evO n Γ x e)) := by
  cases h : Γ.own.contains x with
  | true =>
    have : evO n Γ x e = evM n Γ e := funext fun τ => funext fun μ => by unfold evO; rw [h]; rfl
    rw [this]; exact sevM C e
  | false =>
    have : evO n Γ x e = ev n Γ e := funext fun τ => funext fun μ => by unfold evO; rw [h]; rfl
    rw [this]; exact sev (D := D) n C n (Nat.le_refl _) e
end
end NH
end
section
set_option linter.all false
set_option maxRecDepth 100000
set_option maxHeartbeats 4000000
namespace NH
open PySem PySem.Spec PyProof.Rows L2

/-- what is wanted behind a statement, by its outcome -/
def PostS (D : DP) (W : XW) (φ α : List Addr) (H : Hp) (E : Ends) : Out → Prop
  | .nx τ μ => ∀ α' H' σ', Stp α H α' H' → MRel D φ α' H' μ → SRel D φ α' H' τ σ' → E.nx σ' H'
  | .bk τ μ => ∀ α' H' σ', Stp α H α' H' → MRel D φ α' H' μ → SRel D φ α' H' τ σ' → E.bk σ' H'
  | .ct τ μ => ∀ α' H' σ', Stp α H α' H' → MRel D φ α' H' μ → SRel D φ α' H' τ σ' → E.ct σ' H'
  | .rt t μ => ∀ α' H' v, Stp α H α' H' → MRel D φ α' H' μ → Den D φ α' H' t v → E.rt v H'
  | .ex c τ μ => ∀ α' H' σ' C, Stp α H α' H' → MRel D φ α' H' μ → SRel D φ α' H' τ σ' → D.adr c = some C → W (.ref C) none σ' H'
  | .st => False
def rdS (D : DP) (W : XW) (f : Sl → Mem → Out) : TS := fun E σ H => ∃ φ α τ μ, SRel D φ α H τ σ ∧ MRel D φ α H μ ∧ PostS D W φ α H E (f τ μ)

/-- the context of statements -/
structure Sk (D : DP) (W : XW) (Γ : Cn) (X : Cx) (k : Nat) : Prop extends Ck D W Γ X k where
  sto : Sto X Γ.N
  lcl : ∀ x ∈ Γ.N, Γ.cel.contains x = false → X.env.scope.names.lookup x = some .local
  pso : PassesOwn (model X.prog X.w) X.A X.env X.xe
  xmt : ∀ n c b Cn Cc, Γ.xcs.contains n = true → Γ.xcs.contains c = true → Γ.isin n c = some b → D.adr n = some Cn → D.adr c = some Cc → PySem.W.exmOne X.K (.ref Cn) (.ref Cc) = some b

section
variable {X : Cx} {D : DP} {W : XW} {Γ : Cn} {k : Nat} {pins : List (Addr × Obj)} {s : Shared} {σ : St} {H : Hp} {φ α : List Addr} {τ : Sl} {μ : Mem} {f g : Sl → Mem → RE T} {a b c e : Expr} {pos : Pos} {E : Ends} {u v : Sl → Mem → Out}
theorem PostS.step {α' : List Addr} {H' : Hp} {o : Out} (p : PostS D W φ α H E o) (st : Stp α H α' H') : PostS D W φ α' H' E o := by
  cases o with
  | nx τ μ => exact fun α2 H2 σ2 s2 => p α2 H2 σ2 (st.trans s2)
  | bk τ μ => exact fun α2 H2 σ2 s2 => p α2 H2 σ2 (st.trans s2)
  | ct τ μ => exact fun α2 H2 σ2 s2 => p α2 H2 σ2 (st.trans s2)
  | rt t μ => exact fun α2 H2 v s2 => p α2 H2 v (st.trans s2)
  | ex c τ μ => exact fun α2 H2 σ2 C s2 => p α2 H2 σ2 C (st.trans s2)
  | st => exact p
/-- an expression ahead of what a statement does -/
theorem PostS.out {β : Type} {r : RE β} {kk : β → Mem → Out} (sr : SRel D φ α H τ σ) (p : PostS D W φ α H E (r.out τ kk)) : Post D W φ α H σ (fun t μ' α' H' => PostS D W φ α' H' E (kk t μ')) r := by
  cases r with
  | ok t μ' => exact fun α' H' st m => PostS.step (show PostS D W φ α H E (kk t μ') from p) st
  | ex c μ' => exact fun α' H' C st m e => p α' H' σ C st m (sr.step st) e
  | st => exact p
theorem ss_st {st : Stmt} : PS X st (rdS D W fun _ _ => .st) := fun _ _ _ _ _ _ ⟨_, _, _, _, _, _, p⟩ => p.elim
theorem ss_pass : PS X (.Pass pos) (rdS D W fun τ μ => .nx τ μ) := by
  rintro pins s σ H E I ⟨φ, α, τ, μ, sr, mr, p⟩
  exact ps_pass pins s σ H E I (p α H σ (Stp.refl _ _) mr sr)
theorem ss_break : PS X (.Break pos) (rdS D W fun τ μ => .bk τ μ) := by
  rintro pins s σ H E I ⟨φ, α, τ, μ, sr, mr, p⟩
  exact ps_break pins s σ H E I (p α H σ (Stp.refl _ _) mr sr)
theorem ss_cont : PS X (.Continue pos) (rdS D W fun τ μ => .ct τ μ) := by
  rintro pins s σ H E I ⟨φ, α, τ, μ, sr, mr, p⟩
  exact ps_continue pins s σ H E I (p α H σ (Stp.refl _ _) mr sr)
theorem ss_ret (ha : PE X a (rdE D W f)) : PS X (.Return (some a) pos) (rdS D W fun τ μ => (f τ μ).out τ fun t μ1 => .rt t μ1) := by
  rintro pins s σ H E I ⟨φ, α, τ, μ, sr, mr, p⟩
  refine ps_ret ha pins s σ H E I ⟨φ, α, τ, μ, sr, mr, (PostS.out sr p).mono fun t μ' α' H' st m q v d => q α' H' v (Stp.refl _ _) m d⟩
theorem ss_retN : PS X (.Return none pos) (rdS D W fun _ μ => .rt .non μ) := by
  rintro pins s σ H E I ⟨φ, α, τ, μ, sr, mr, p⟩
  exact ps_retN pins s σ H E I (p α H .non (Stp.refl _ _) mr rfl)
theorem ss_expr (hs : swapsWith a none pos.line X.env = pure false) (ha : PE X a (rdE D W f)) : PS X (.Expr a pos) (rdS D W fun τ μ => (f τ μ).out τ fun _ μ1 => .nx τ μ1) := by
  rintro pins s σ H E I ⟨φ, α, τ, μ, sr, mr, p⟩
  refine ps_expr ha hs pins s σ H E I ⟨φ, α, τ, μ, sr, mr, (PostS.out sr p).mono fun t μ' α' H' st m q v d => q α' H' σ (Stp.refl _ _) m (sr.step st)⟩
theorem ss_if {ft : Sl → Mem → RE Bool} {as bs : List Stmt} (hc : PT X c (rdT D W ft)) (ha : PSs X as (rdS D W u)) (hb : PSs X bs (rdS D W v)) : PS X (.If c as bs pos) (rdS D W fun τ μ => (ft τ μ).out τ fun k μ1 => if k then u τ μ1 else v τ μ1) := by
  rintro pins s σ H E I ⟨φ, α, τ, μ, sr, mr, p⟩
  refine ps_if hc ha hb pins s σ H E I ⟨φ, α, τ, μ, sr, mr, (PostS.out sr p).mono fun b μ' α' H' st m q => ?_⟩
  cases b with
  | true => exact ⟨φ, α', τ, μ', sr.step st, m, q⟩
  | false => exact ⟨φ, α', τ, μ', sr.step st, m, q⟩
theorem sss_nil : PSs X [] (rdS D W fun τ μ => .nx τ μ) := by
  rintro pins s σ H E I ⟨φ, α, τ, μ, sr, mr, p⟩
  exact pss_nil pins s σ H E I (p α H σ (Stp.refl _ _) mr sr)
theorem sss_cons {st : Stmt} {r : List Stmt} (h1 : PS X st (rdS D W u)) (h2 : PSs X r (rdS D W v)) : PSs X (st :: r) (rdS D W fun τ μ => (u τ μ).seq v) := by
  rintro pins s σ H E I ⟨φ, α, τ, μ, sr, mr, p⟩
  refine pss_cons h1 h2 pins s σ H E I ⟨φ, α, τ, μ, sr, mr, ?_⟩
  dsimp only at p
  cases h : u τ μ with
  | nx τ1 μ1 => rw [h] at p; exact fun α' H' σ' st m sr' => ⟨φ, α', τ1, μ1, sr', m, PostS.step (show PostS D W φ α H E (v τ1 μ1) from p) st⟩
  | bk τ1 μ1 => rw [h] at p; exact p
  | ct τ1 μ1 => rw [h] at p; exact p
  | rt t μ1 => rw [h] at p; exact p
  | ex c τ1 μ1 => rw [h] at p; exact p
  | st => rw [h] at p; exact p
theorem sss_all {F : Stmt → Sl → Mem → Out} : ∀ {sts : List Stmt}, (∀ st ∈ sts, PS X st (rdS D W (F st))) → PSs X sts (rdS D W (xss F sts))
  | [], _ => sss_nil
  | st :: r, h => sss_cons (h st List.mem_cons_self) (sss_all fun s hs => h s (List.mem_cons_of_mem _ hs))

/-! ### stores -/
theorem ss_set (C : Sk D W Γ X k) {x : Str} {p0 : Pos} (hi : (idx Γ.N x).isSome = true) (hs : swapsWith a (some (.Name x p0)) pos.line X.env = pure false) (ha : PE X a (rdE D W f)) : PS X (.Assign [.Name x p0] a pos) (rdS D W fun τ μ => (f τ μ).out τ fun t μ1 => (match asgT Γ.N (.Name x p0) t τ with | some τ' => .nx τ' μ1 | none => .st)) := by
  obtain ⟨i, hi⟩ := Option.isSome_iff_exists.mp hi
  rintro pins s σ H E I ⟨φ, α, τ, μ, sr, mr, p⟩
  have hx := idx_mem hi
  refine ps_set (i := i) (X := X) (by rw [C.hN]; exact C.nd) (by rw [C.hN]; exact idx_get hi) (C.sto x hx).1 ha hs (C.sto x hx).2 pins s σ H E I ⟨φ, α, τ, μ, sr, mr, (PostS.out sr p).mono fun t μ' α' H' st m q v d => ?_⟩
  simp only [asgT, hi, Option.map_some] at q
  exact q α' H' _ (Stp.refl _ _) m ((sr.step st).set d)
theorem namesIn_mem {N : List Str} : ∀ {es : List Expr}, namesIn N es = true → ∀ e ∈ es, ∀ x p, e = .Name x p → x ∈ N
  | [], _, e, he, _, _, _ => absurd he (by simp)
  | e0 :: es, h, e, he, x, p, hx => by
    simp only [namesIn, Bool.and_eq_true] at h
    rcases List.mem_cons.mp he with rfl | he
    · subst hx
      obtain ⟨i, hi⟩ := Option.isSome_iff_exists.mp h.1
      exact idx_mem hi
    · exact namesIn_mem h.2 e he x p hx
theorem tgIn_mem {N : List Str} {e : Expr} (h : tgIn N e = true) : ∀ x ∈ tgNames e, x ∈ N := by
  intro x hx
  cases e with
  | Name y p =>
    simp [tgNames] at hx
    subst hx
    obtain ⟨i, hi⟩ := Option.isSome_iff_exists.mp h
    exact idx_mem hi
  | Tuple es kk p =>
    obtain ⟨e, he, q⟩ := List.mem_filterMap.mp hx
    cases e with
    | Name y p0 =>
      have q : some y = some x := q
      cases q
      exact namesIn_mem h _ he x p0 rfl
    | _ => cases q
  | _ => simp [tgNames] at hx
/-- a store as a reading -/
theorem sg_of (C : Sk D W Γ X k) (hc : X.calm = true) {tg : Expr} (ht : tgIn Γ.N tg = true) : PG X tg (fun v σ H Q => ∃ φ α τ t τ', SRel D φ α H τ σ ∧ Den D φ α H t v ∧ asg Γ.N tg t τ = some τ' ∧ ∀ σ', SRel D φ α H τ' σ' → Q σ' H) := by
  rintro pins s σ H v u Q I r ⟨φ, α, τ, t, τ', sr, d, ha, q⟩
  refine thn (asg_ok (S := Γ.N) C.hN C.nd C.sto hc (tgIn_mem ht) ha I sr d r) ?_
  rintro _ s1 ⟨σ', I1, sr'⟩
  exact ⟨σ', H, I1, q σ' sr'⟩
theorem ss_tup (C : Sk D W Γ X k) (hc : Γ.calm = true) {es : List Expr} {kk : Nat} {p0 : Pos} (hp : plainTup a = true) (hn : namesIn Γ.N es = true) (ha : PE X a (rdE D W f)) : PS X (.Assign [.Tuple es kk p0] a pos) (rdS D W fun τ μ => (f τ μ).out τ fun t μ1 => (match asg Γ.N (.Tuple es kk p0) t τ with | some τ' => .nx τ' μ1 | none => .st)) := by
  rintro pins s σ H E I ⟨φ, α, τ, μ, sr, mr, p⟩
  have h1 : swapsWithSole [.Tuple es kk p0] a pos.line X.env = pure false := by cases a <;> first | (simp [plainTup] at hp; done) | rfl
  have h2 : swappedStores [.Tuple es kk p0] a X.env = pure none := by cases a <;> first | (simp [plainTup] at hp; done) | rfl
  refine ps_asg ha (sg_of C (C.clm hc) (tg := .Tuple es kk p0) hn) h1 h2 rfl pins s σ H E I ⟨φ, α, τ, μ, sr, mr, (PostS.out sr p).mono fun t μ' α' H' st m q v d => ?_⟩
  cases h : asg Γ.N (.Tuple es kk p0) t τ with
  | none => rw [h] at q; exact q.elim
  | some τ' =>
    rw [h] at q
    exact ⟨φ, α', τ, t, τ', sr.step st, d, h, fun σ' sr' => q α' H' σ' (Stp.refl _ _) m sr'⟩
end
end NH
end
section
set_option linter.all false
set_option maxRecDepth 100000
set_option maxHeartbeats 4000000
namespace NH
open PySem PySem.Spec PyProof.Rows L2
section
variable {X : Cx} {D : DP} {W : XW} {Γ : Cn} {k : Nat} {pins : List (Addr × Obj)} {s : Shared} {σ : St} {H : Hp} {φ α : List Addr} {τ : Sl} {μ : Mem} {f g : Sl → Mem → RE T} {a b c e tg iter : Expr} {pos : Pos} {E : Ends} {u v : Sl → Mem → Out} {body : List Stmt}

/-- a loop's turns, from the i-th on -/
theorem for_go {asgn : T → Sl → Option Sl} {x : T} {r : List T} : forM asgn v (x :: r) τ μ = (match asgn x τ with
    | none => .st
    | some τ' => match v τ' μ with
      | .nx τ2 μ2 => forM asgn v r τ2 μ2
      | .ct τ2 μ2 => forM asgn v r τ2 μ2
      | .bk τ2 μ2 => .nx τ2 μ2
      | o => o) := rfl
theorem ss_for (C : Sk D W Γ X k) (hc : Γ.calm = true) (ht : tgIn Γ.N tg = true) {fi : Sl → Mem → RE (List T)} (hi : PI X tg iter (rdI D W fi)) (hb : PSs X body (rdS D W v)) (hs : ∀ x, foldedSetIterable iter X.env x = pure x) :
    PS X (.For tg iter body [] pos) (rdS D W fun τ μ => (fi τ μ).out τ fun xs μ1 => forM (asg Γ.N tg) v xs τ μ1) := by
  rintro pins s σ H E I ⟨φ, α, τ, μ, sr, mr, p⟩
  refine ps_for C.pso (C.clm hc) hi (sg_of C (C.clm hc) ht) hb hs pins s σ H E I ⟨φ, α, τ, μ, sr, mr, (PostS.out sr p).mono fun xs μ1 α1 H1 st1 m1 q J vs Ok iv dl okk => ?_⟩
  have hl : xs.length = vs.length := dl.length
  refine ⟨fun i m σ' H' => m = xs.length - i ∧ i ≤ xs.length ∧ ∃ α' τ' μ', Stp α1 H1 α' H' ∧ MRel D φ α' H' μ' ∧ SRel D φ α' H' τ' σ' ∧ PostS D W φ α' H' E (forM (asg Γ.N tg) v (xs.drop i) τ' μ'), ⟨xs.length, by simp, Nat.zero_le _, α1, τ, μ1, Stp.refl _ _, m1, sr.step st1, by simpa using q⟩, ?_⟩
  rintro i m σ' H' ⟨rfl, hi', α', τ', μ', stp, mr', sr', pf⟩
  by_cases hlt : i < xs.length
  · refine .inr ⟨iv.go i H' (okk _ _ stp) (by omega), fun σ2 H2 => ∃ α2 τ2 μ2, Stp α1 H1 α2 H2 ∧ MRel D φ α2 H2 μ2 ∧ SRel D φ α2 H2 τ2 σ2 ∧ PostS D W φ α2 H2 E (forM (asg Γ.N tg) v (xs.drop (i + 1)) τ2 μ2), fun σ2 H2 h2 => ⟨xs.length - (i + 1), by omega, rfl, hlt, h2⟩, fun x H2 y => ?_⟩
    obtain ⟨rfl, hx⟩ := iv.yld i H' x H2 (okk _ _ stp) (by omega) y
    obtain ⟨x', hx', dx⟩ := dl.get (i := i) (t := xs[i]) (by simp [hlt])
    rw [hx] at hx'
    cases hx'
    rw [List.drop_eq_getElem_cons hlt, for_go] at pf
    cases ha : asg Γ.N tg xs[i] τ' with
    | none => rw [ha] at pf; exact pf.elim
    | some τ3 =>
      rw [ha] at pf
      refine ⟨φ, α', τ', xs[i], τ3, sr', dx.step stp, ha, fun σ3 sr3 => ⟨φ, α', τ3, μ', sr3, mr', ?_⟩⟩
      dsimp only at pf
      cases hv : v τ3 μ' with
      | nx τ4 μ4 => rw [hv] at pf; exact fun α4 H4 σ4 st4 m4 sr4 => ⟨α4, τ4, μ4, stp.trans st4, m4, sr4, PostS.step pf st4⟩
      | ct τ4 μ4 => rw [hv] at pf; exact fun α4 H4 σ4 st4 m4 sr4 => ⟨α4, τ4, μ4, stp.trans st4, m4, sr4, PostS.step pf st4⟩
      | bk τ4 μ4 => rw [hv] at pf; exact pf
      | rt t μ4 => rw [hv] at pf; exact pf
      | ex cc τ4 μ4 => rw [hv] at pf; exact pf
      | st => rw [hv] at pf; exact pf
  · have hie : i = xs.length := by omega
    rw [hie, List.drop_length] at pf
    exact .inl ⟨by rw [hie, hl]; exact iv.stop H' (okk _ _ stp), pf α' H' σ' (Stp.refl _ _) mr' sr'⟩
theorem ss_while (C : Sk D W Γ X k) {ft : Sl → Mem → RE Bool} {N : Nat} (hc : PT X c (rdT D W ft)) (hb : PSs X body (rdS D W v)) : PS X (.While c body [] pos) (rdS D W fun τ μ => whileM ft v N τ μ) := by
  rintro pins s σ H E I ⟨φ, α, τ, μ, sr, mr, p⟩
  refine ps_while C.pso hc hb pins s σ H E I ?_
  refine ⟨fun m σ' H' => ∃ α' τ' μ', Stp α H α' H' ∧ MRel D φ α' H' μ' ∧ SRel D φ α' H' τ' σ' ∧ PostS D W φ α' H' E (whileM ft v m τ' μ'), ⟨N, α, τ, μ, Stp.refl _ _, mr, sr, p⟩, ?_⟩
  rintro m σ' H' ⟨α', τ', μ', stp, mr', sr', pf⟩
  cases m with
  | zero => exact pf.elim
  | succ m =>
    simp only [whileM] at pf
    refine ⟨φ, α', τ', μ', sr', mr', ?_⟩
    cases hf : ft τ' μ' with
    | st => rw [hf] at pf; exact pf
    | ex cc μ1 => rw [hf] at pf; exact fun α2 H2 C2 st m e => pf α2 H2 σ' C2 st m (sr'.step st) e
    | ok bb μ1 =>
      rw [hf] at pf
      intro α2 H2 st2 m2
      cases bb with
      | false => exact pf α2 H2 σ' st2 m2 (sr'.step st2)
      | true =>
        rw [if_pos rfl]
        dsimp only at pf
        refine ⟨fun σ4 H4 => ∃ α4 τ4 μ4, Stp α H α4 H4 ∧ MRel D φ α4 H4 μ4 ∧ SRel D φ α4 H4 τ4 σ4 ∧ PostS D W φ α4 H4 E (whileM ft v m τ4 μ4), fun σ4 H4 h4 => ⟨m, Nat.lt_succ_self _, h4⟩, φ, α2, τ', μ1, sr'.step st2, m2, ?_⟩
        cases hv : v τ' μ1 with
        | nx τ4 μ4 => rw [hv] at pf; exact fun α4 H4 σ4 st4 m4 sr4 => ⟨α4, τ4, μ4, (stp.trans st2).trans st4, m4, sr4, PostS.step pf (st2.trans st4)⟩
        | ct τ4 μ4 => rw [hv] at pf; exact fun α4 H4 σ4 st4 m4 sr4 => ⟨α4, τ4, μ4, (stp.trans st2).trans st4, m4, sr4, PostS.step pf (st2.trans st4)⟩
        | bk τ4 μ4 => rw [hv] at pf; exact PostS.step (o := .nx τ4 μ4) pf st2
        | rt t μ4 => rw [hv] at pf; exact PostS.step (o := .rt t μ4) pf st2
        | ex cc τ4 μ4 => rw [hv] at pf; exact PostS.step (o := .ex cc τ4 μ4) pf st2
        | st => rw [hv] at pf; exact pf
end
end NH
end
section
set_option linter.all false
set_option maxRecDepth 100000
set_option maxHeartbeats 4000000
namespace NH
open PySem PySem.Spec PyProof.Rows L2
section
variable {X : Cx} {D : DP} {W : XW} {Γ : Cn} {k : Nat} {pins : List (Addr × Obj)} {s : Shared} {σ : St} {H : Hp} {φ α : List Addr} {τ : Sl} {μ : Mem} {f g : Sl → Mem → RE T} {a b c e tg iter elt : Expr} {pos : Pos} {E : Ends} {u v : Sl → Mem → Out} {body : List Stmt} {sc : Scope}

/-! ### a field is put -/
theorem DenF.put {f : Str} {t : T} {w : V} : ∀ {fs : List (Str × T)} {gs : List (Str × V)}, DenF D φ α H fs gs → Den D φ α H t w → DenF D φ α H (putT f t fs) (putF f w gs)
  | [], gs, h, d => by
    have : gs = [] := h
    subst this
    exact ⟨w, [], rfl, d, rfl⟩
  | (g, x) :: fs, gs, h, d => by
    obtain ⟨y, r, rfl, dy, l⟩ := h
    show DenF D φ α H (if g = f then (g, t) :: fs else (g, x) :: putT f t fs) (if g = f then (g, w) :: r else (g, y) :: putF f w r)
    by_cases q : g = f
    · rw [if_pos q, if_pos q]; exact ⟨w, r, rfl, d, l⟩
    · rw [if_neg q, if_neg q]; exact ⟨y, putF f w r, rfl, dy, DenF.put l d⟩
theorem DenF.length : ∀ {fs : List (Str × T)} {gs : List (Str × V)}, DenF D φ α H fs gs → fs.length = gs.length
  | [], _, h => by have : _ = [] := h; subst this; rfl
  | p :: fs, _, h => by
    obtain ⟨v, r, rfl, _, b⟩ := h
    simp [DenF.length b]
theorem ss_fld (C : Sk D W Γ X k) {o f0 : Str} {p0 p1 : Pos} {go : Sl → Mem → RE T} (ha : PE X a (rdE D W f)) (ho : PE X (.Name o p0) (rdE D W go)) :
    PS X (.Assign [.Attribute (.Name o p0) f0 p1] a pos) (rdS D W fun τ μ => (f τ μ).out τ fun t μ1 => ((go τ μ1).out τ fun ot μ2 => match ot with
      | .mut i => (match μ2[i]? with
        | some (.obj c fs) => if fs.length < 900 ∧ (Γ.flds c).contains f0 then .nx τ (μ2.set i (.obj c (putT f0 t fs))) else .st
        | _ => .st)
      | _ => .st)) := by
  rintro pins s σ H E I ⟨φ, α, τ, μ, sr, mr, p⟩
  have hs : swapsWith a (some (.Attribute (.Name o p0) f0 p1)) pos.line X.env = pure false := by cases a <;> rfl
  refine ps_fld ho ha hs pins s σ H E I ⟨φ, α, τ, μ, sr, mr, (PostS.out sr p).mono fun t μ1 α1 H1 st1 m1 q v d => ?_⟩
  have sr1 := sr.step st1
  refine ⟨φ, α1, τ, μ1, sr1, m1, (PostS.out sr1 q).mono fun ot μ2 α2 H2 st2 m2 q2 ov dv => ?_⟩
  try dsimp only at q2
  split at q2
  case h_2 => exact q2.elim
  rename_i i
  split at q2
  case h_2 => exact q2.elim
  rename_i c fs hμ
  split at q2
  case isFalse => exact q2.elim
  rename_i hc
  obtain ⟨x, hx, rfl⟩ := dv
  obtain ⟨C0, dx, gs, ad, hH, df⟩ := m2.ob i x _ hx hμ
  obtain ⟨cl, na⟩ := C.fld c C0 f0 hc.2 ad
  refine ⟨x, C0, dx, gs, rfl, hH, cl, na, by rw [← df.length]; omega, ?_⟩
  have st3 : Stp α2 H2 α2 (upd H2 x (.ins C0 dx (putF f0 v gs))) := Stp.turn (List.mem_of_getElem? hx) ⟨_, hH⟩
  have hi : i < μ2.length := (List.getElem?_eq_some_iff.mp hμ).1
  exact q2 α2 _ σ st3 (m2.turn hx hi st3 ⟨C0, dx, _, ad, upd_same, DenF.put (df.step st3) ((d.step st2).step st3)⟩) ((sr1.step st2).step st3)

/-! ### xs[i] = e -/
theorem set_list : PSet X (fun o i v H Q => ∃ l k xs, o = .ref l ∧ i = .int k ∧ H l = some (.lst xs) ∧ 0 ≤ k ∧ k < xs.length ∧ k < 9223372036854775808 ∧ Q (upd H l (.lst (xs.set k.toNat v)))) := by
  intro pins s σ H o i v ov iv u Q I ro ri rv h
  obtain ⟨l, k, xs, rfl, rfl, hH, h0, h1, h2, q⟩ := h
  cases ro
  obtain ⟨t, rfl⟩ := ri
  obtain ⟨z, its, n, r, hl, e⟩ := I.lstM hH
  refine PySem.W.ki_setAt (n := n) (items := its.toArray) e h0 (by simpa using h2) (by rw [List.size_toArray, ← hl]; exact h1) ?_
  exact ⟨_, I.lset (t' := s.toks) (ys := xs.set k.toNat v) (its' := its.set k.toNat u) (f := fun a => a.setIfInBounds k.toNat u) hH e (by simp) (Vals.set rv _ r) (by rw [List.length_set]; exact z), q⟩
theorem ss_put (C : Sk D W Γ X k) {o : Str} {p0 p1 : Pos} {fo fb : Sl → Mem → RE T} (hb' : plainIx b = true) (ha : PE X a (rdE D W f)) (ho : PE X (.Name o p0) (rdE D W fo)) (hb : PE X b (rdE D W fb)) :
    PS X (.Assign [.Subscript (.Name o p0) b p1] a pos) (rdS D W fun τ μ => (f τ μ).out τ fun t μ1 => ((fo τ μ1).out τ fun ot μ2 => ((fb τ μ2).out τ fun it μ3 => match putAt ot it t μ3 with
      | some μ4 => .nx τ μ4
      | none => .st))) := by
  rintro pins s σ H E I ⟨φ, α, τ, μ, sr, mr, p⟩
  have h1 : swapsWithSole [.Subscript (.Name o p0) b p1] a pos.line X.env = pure false := by cases a <;> rfl
  have h2 : swappedStores [.Subscript (.Name o p0) b p1] a X.env = pure none := by cases a <;> rfl
  refine ps_asg ha (pg_sub ho hb set_list (fun v => by cases b <;> first | (simp [plainIx] at hb'; done) | rfl)) h1 h2 rfl pins s σ H E I ⟨φ, α, τ, μ, sr, mr, (PostS.out sr p).mono fun t μ1 α1 H1 st1 m1 q v d => ?_⟩
  have sr1 := sr.step st1
  refine ⟨φ, α1, τ, μ1, sr1, m1, (PostS.out sr1 q).mono fun ot μ2 α2 H2 st2 m2 q2 ov dv => ?_⟩
  have sr2 := sr1.step st2
  refine ⟨φ, α2, τ, μ2, sr2, m2, (PostS.out sr2 q2).mono fun it μ3 α3 H3 st3 m3 q3 iv di => ?_⟩
  have dv := dv.step st3
  have d3 := (d.step st2).step st3
  cases hp : putAt ot it t μ3 with
  | none => rw [hp] at q3; exact q3.elim
  | some μ4 =>
    rw [hp] at q3
    unfold putAt at hp
    split at hp
    case h_2 => cases hp
    split at hp
    case h_2 => cases hp
    split at hp
    case isFalse => cases hp
    rename_i i kk _ _ ts hμ hk
    cases hp
    obtain ⟨x, hx, rfl⟩ := dv
    have di : iv = .int kk := di
    subst di
    obtain ⟨xs, hH, l⟩ := m3.ob i x _ hx hμ
    have st4 : Stp α3 H3 α3 (upd H3 x (.lst (xs.set kk.toNat v))) := Stp.turn (List.mem_of_getElem? hx) ⟨_, hH⟩
    have hi : i < μ3.length := (List.getElem?_eq_some_iff.mp hμ).1
    exact ⟨x, kk, xs, rfl, rfl, hH, hk.1, by rw [← l.length]; exact hk.2.1, hk.2.2, q3 α3 _ σ st4 (m3.turn hx hi st4 ⟨_, upd_same, DenL.set (l.step st4) (d3.step st4)⟩) ((sr2.step st3).step st4)⟩

/-! ### x = [.. for .. in ..], where the store is made ahead of the block's going -/
theorem ss_comp (C : Sk D W Γ X k) (hc : Γ.calm = true) {x : Str} {p0 p1 : Pos} (hi : (idx Γ.N x).isSome = true) (ok : CompOk Γ.N Γ.cel tg sc) {fi : Sl → Mem → RE (List T)} {fe : Sl → Mem → RE T} (hI : PI X tg iter (rdI D W fi)) (hel : ∀ X', Ck D noW (inComp Γ tg sc) X' k → PE X' elt (rdE D noW fe)) (hs : ∀ x, foldedSetIterable iter X.env x = pure x)
    (hsw : swapsWith (.ListComp elt [⟨tg, iter, [], 0⟩] sc p1) (some (.Name x p0)) pos.line X.env = pure true) :
    PS X (.Assign [.Name x p0] (.ListComp elt [⟨tg, iter, [], 0⟩] sc p1) pos) (rdS D W fun τ μ => ((fi τ μ).bind fun xs μ1 => if xs.length ≤ room then (compM (asg (tgNames tg ++ frees sc) tg) fe ((tgNames tg).map (fun _ => none) ++ selT Γ.N τ (frees sc)) xs μ1).noex.bind fun ys μ2 => .ok (.lst ys) μ2 else .st).out τ fun t μ1 => (match asgT Γ.N (.Name x p0) t τ with | some τ' => .nx τ' μ1 | none => .st)) := by
  rintro pins s σ H E I ⟨φ, α, τ, μ, sr, mr, p⟩
  rw [exec_Assign_Name_used _ _ _ _ hsw]
  refine wpAny_bind (wpAny_standAt (wpAny_bind ?_))
  show wpAny _ _ (do let _ ← comprehension (.ListComp elt [⟨tg, iter, [], 0⟩] sc p1) sc X.env _ (newList []) false (eval iter X.env) (some (assign (.Name x p0) X.env))) _ _ s
  refine wpAny_bind (thn (comp_core (kk := fun t μ => .ok t μ) (use := some (assign (.Name x p0) X.env)) (Qf := fun _ s' => ∃ σ' H', Inv X pins σ' H' s' ∧ E.nx σ' H') C.toCk hc ok hI hel hs I sr mr (PostS.out sr p) ?_) fun _ s' hq => wpAny_pure (wpAny_pure hq))
  rintro acc C0 s' H' α' ys μ' I' st sr' m d post xo hp ⟨mm, hm⟩
  have q := post α' H' (Stp.refl _ _) m
  dsimp only at q
  cases ha : asgT Γ.N (.Name x p0) (.lst ys) τ with
  | none => rw [ha] at q; exact q.elim
  | some τ' =>
    rw [ha] at q
    obtain ⟨oc, es, ep, hoc, hdc, hrest⟩ := hm
    have I2 : Inv X (pins ++ [(C0, oc)]) σ H' s' := I'.pins_of fun p hp' => (List.mem_append.mp hp').elim (fun z => I'.pin p (List.mem_append_right _ z)) fun z => by
      rw [List.mem_singleton.mp z]
      exact ⟨hoc, xo.free, xo.loc, xo.nfs, fun v e => by rw [hdc] at e; cases e⟩
    have hx : x ∈ Γ.N := by
      obtain ⟨i, hi⟩ := Option.isSome_iff_exists.mp hi
      exact idx_mem hi
    refine thn (asg_ok (e := .Name x p0) (S := Γ.N) C.hN C.nd C.sto (C.clm hc) (fun y hy => by simp [tgNames] at hy; rw [hy]; exact hx) (show asg Γ.N (.Name x p0) (.lst ys) τ = some τ' from ha) I2 sr' d (show RelV (.ref acc) (.ref acc) from rfl)) ?_
    rintro _ s2 ⟨σ', I3, sr3⟩
    have hpin := (I3.pin (C0, oc) (List.mem_append_right _ (List.mem_append_right _ (List.mem_singleton.mpr rfl)))).1
    refine ⟨mm, ⟨oc, es, ep, hpin, hdc, hrest⟩, fun h' sb => ⟨σ', H', ?_, q α' H' σ' (Stp.refl _ _) m sr3⟩⟩
    exact inv_but (I3.pins_of fun p hp' => I3.pin p (List.mem_append_right _ (List.mem_append_left _ hp'))) xo hp sb
end
end NH
end
section
set_option linter.all false
set_option maxRecDepth 100000
set_option maxHeartbeats 4000000
namespace NH
open PySem PySem.Spec PyProof.Rows L2
/-- a class of exceptions, as a raise takes it -/
def XcCls (C : Addr) (h : Heap) : Prop := ∃ tl N nm q bs hd sn sub ab col dd k0 k1 k2 k3 k5 mN, h.get? C = some (excClassObj nm q C N bs tl hd sn sub ab col dd k0 k1 k2 k3 k5 "ValueError.__new__") ∧ h.Ns N mN ∧ mN "__init__" = none ∧ OwnTail h veMro tl
theorem xcCls_of {K : PySem.W.Frag} {h : Heap} {C : Addr} (kin : K.In h) (e : PySem.W.excIn K C veMro "ValueError.__new__" = true) : XcCls C h := by
  simp only [PySem.W.excIn] at e
  revert e
  cases hk : K.lookup C with
  | none => intro e; cases e
  | some o =>
    intro e
    split at e
    case h_2 => cases e
    rename_i dd cd sl ho
    cases ho
    split at e
    case h_2 => cases e
    rename_i C' tl k0 k1 k2 k3 n k5 hm hs
    simp only [Bool.and_eq_true, beq_iff_eq, Bool.not_eq_true'] at e
    obtain ⟨⟨⟨⟨⟨e1, e2⟩, e3⟩, e4⟩, e5⟩, e6⟩ := e
    cases cd
    rename_i nm bs mro ns qn hd sn sub ab col del
    simp only at hm e3 e5 e6
    cases e1; cases e2; cases hm; cases e3
    have hsl : sl = #[k0, k1, k2, k3, some (.builtin "ValueError.__new__"), k5] := by
      cases sl; simp only at hs; rw [hs]
    cases hsl
    exact ⟨tl, ns, nm, qn, bs, hd, sn, sub, ab, col, dd, k0, k1, k2, k3, k5, h.nsMap ns, kin _ _ hk, .of_isNs (PySem.W.isNs_of_in kin e5), PySem.W.nsMap_none_of_in kin e5 e6, PySem.W.tail_of_in kin e4⟩

section
variable {X : Cx} {D : DP} {W : XW} {Γ : Cn} {k : Nat} {pins : List (Addr × Obj)} {s : Shared} {σ : St} {H : Hp} {φ α : List Addr} {τ : Sl} {μ : Mem} {a b c e : Expr} {pos : Pos} {E : Ends} {es : List Expr}
theorem ss_raise (C : Sk D W Γ X k) (hc : Γ.calm = true) {F : Expr → Sl → Mem → RE T} {x : Str} {p0 p1 : Pos} (hx : x ∈ Γ.G) (hg : Γ.gl x = .xcl) (hs : (a :: es).all noStar = true) (ha : PA X (a :: es) (rdA D W (evL F (a :: es)))) :
    PS X (.Raise (some (.Call (.Name x p0) (a :: es) [] p1)) none pos) (rdS D W fun τ μ => (evL F (a :: es) τ μ).out τ fun ts μ1 => if ts.length ≤ room then .ex x τ μ1 else .st) := by
  rintro pins s σ H E I ⟨φ, α, τ, μ, sr, mr, p⟩
  have q := C.glo x hx
  rw [hg] at q
  obtain ⟨C0, ad, hm, hex⟩ := q
  obtain ⟨tl, N, nm, qn, bs, hd, sn, sub, ab, col, dd, k0, k1, k2, k3, k5, mN, o1, o2, o3, o4⟩ := xcCls_of I.ok.mod.kin hex
  have hb : tl.contains (.type "BaseException") = true := o4.hasType PySem.F.excBase_ValueError.hasBase
  have hp : (backTo p1 (starEach (a :: es) X.env)).any (·.1) = false := noStars hs
  refine wpAny_Raise_call_subT (nm := nm) (q := qn) (C := C0) (N := N) (bs := bs) (bm := tl) (hdct := hd) (sn := sn) (sub := sub) (ab := ab) (col := col) (dd := dd) (k0 := k0) (k1 := k1) (k2 := k2) (k3 := k3) (k5 := k5) (mN := mN) PySem.F.excBase_ValueError hb (I.ok.hd (C.clm hc)) hp o3 ?_
  refine ld_glob I (C.glb x hx) hm ⟨rfl, ?_⟩ (C.dbG x hx)
  have hs1 : noStar a = true := by simp only [List.all_cons, Bool.and_eq_true] at hs; exact hs.1
  have sA := thn (ha p1 pins s σ H (fun vs H1 => ∃ ts μ1 α1, Stp α H α1 H1 ∧ SRel D φ α1 H1 τ σ ∧ MRel D φ α1 H1 μ1 ∧ DenL D φ α1 H1 ts vs ∧ PostS D W φ α1 H1 E (if ts.length ≤ room then .ex x τ μ1 else .st)) I ⟨φ, α, τ, μ, sr, mr, (PostS.out sr p).mono fun ts μ' α' H' st m q vs d => ⟨ts, μ', α', st, sr.step st, m, d, q⟩⟩) (Q' := fun us s1 => us.length ≤ sizeLine ∧ s1.heap.get? C0 = some (excClassObj nm qn C0 N bs tl hd sn sub ab col dd k0 k1 k2 k3 k5 "ValueError.__new__") ∧ s1.heap.Ns N mN ∧ OwnTail s1.heap veMro tl ∧ ∀ h' e, Heap.MadeExcOf s1.heap h' e (.ref C0) us → X.xe (.ref e) { s1 with heap := h' }) ?_
  · rw [noStar_of hs1] at sA ⊢
    exact Calls.evalArgs_plain (thn sA fun us s1 h1 => ⟨rfl, h1⟩)
  · rintro us s1 ⟨vs, H1, I1, r, ts, μ1, α1, st, sr1, m1, dl, q⟩
    split at q
    case isFalse => exact q.elim
    rename_i hl
    refine ⟨?_, I1.bk _ _ o1, o2.keeps I1.bk, o4.keeps I1.bk, fun h' e mk => ?_⟩
    · have e1 := dl.length
      have e2 := r.length
      have := room_line hl
      rw [← e2, ← e1]
      exact this
    · exact C.xe _ _ (xp_made I1 mk (q α1 H1 σ C0 (Stp.refl _ _) m1 sr1 ad))
end
end NH
end
section
set_option linter.all false
set_option maxRecDepth 100000
set_option maxHeartbeats 4000000
namespace NH
open PySem PySem.Spec PyProof.Rows L2
section
variable {X : Cx} {pins : List (Addr × Obj)} {s : Shared} {σ : St} {H : Hp}
/-- a name goes -/
theorem inv_unset {i : Nat} {x : Str} {m : Str → Option Value} {h' : Heap} {u : Option Value} {tk : Nat} (I : Inv X pins σ H s) (hN : X.N.Nodup) (hi : X.N[i]? = some x)
    (hm : ∀ (i : Nat) (x : Str) (v : V), X.N[i]? = some x → σ[i]? = some (some v) → Vis X.env.scope x → ∃ u, RelV v u ∧ Look X.env s.heap m x u)
    (hn : h'.Ns X.env.locals fun y => if y = x then u else m y) (hs : Heap.SameBut X.env.locals s.heap h') : Inv X pins (σ.set i none) H { s with heap := h', toks := tk } := by
  have cne := I.cne
  have low : ∀ b o, X.s₀.heap.get? b = some o → b ≠ X.env.locals := fun b o e => Nat.ne_of_lt (Nat.lt_of_lt_of_le (Heap.lt_size e) I.ok.above)
  refine ⟨I.ok, I.os, I.bare, ⟨fun b o e n hb hx => ?_, fun b o e n hb hx => ?_, I.base.free, fun b o e hx => ?_, I.base.tups, I.base.frzs, I.base.tbls⟩, ⟨_, hn, fun j y v e1 e2 e3 => ?_⟩, fun y c e => ?_, I.free, I.freeC, fun p hp => ?_, fun b ob e => ?_, by simpa using I.len⟩
  · exact (hs.2 b (low b o e)).trans (I.base.keep b o e n hb hx)
  · obtain ⟨sl, e1⟩ := I.base.slot b o e n hb hx
    exact ⟨sl, (hs.2 b (low b o e)).trans e1⟩
  · obtain ⟨o', e1⟩ := I.base.there b o e hx
    exact ⟨o', (hs.2 b (low b o e)).trans e1⟩
  · by_cases hj : j = i
    · subst hj
      rw [List.getElem?_set_self'] at e2
      cases q : σ[j]? with
      | none => rw [q] at e2; cases e2
      | some w => rw [q] at e2; cases e2
    · rw [List.getElem?_set_ne (Ne.symm hj)] at e2
      obtain ⟨w, r, q⟩ := hm j y v e1 e2 e3
      refine ⟨w, r, ?_⟩
      rcases q with ⟨k, e⟩ | ⟨k, c, e, z⟩
      · have : y ≠ x := fun z => hj (nodup_ix hN e1 (by rw [z]; exact hi))
        exact .inl ⟨k, by simp [this, e]⟩
      · exact .inr ⟨k, c, e, z.sameBut hs (cne y c e)⟩
  · obtain ⟨w, z⟩ := I.cell y c e
    exact ⟨w, z.sameBut hs (cne y c e)⟩
  · obtain ⟨e, n, ne, nf, d⟩ := I.pin p hp
    exact ⟨(hs.2 p.1 ne).trans e, n, ne, nf, d⟩
  · refine (I.hok b ob e).stay (fun c w hc q => (hs.2 c ?_).trans q) (fun _ q => q) fun _ _ q => q
    rintro rfl
    rcases hc with rfl | hc
    · rw [I.free] at e; cases e
    · rw [I.free] at hc; cases hc
/-- a record of our own is tracked from now on -/
theorem inv_track {x C : Addr} (I : Inv X pins σ H s) (ox : XOk X H x) (hp : ∀ p ∈ pins, p.1 ≠ x) (hx : XcAt x C s.heap) : Inv X pins σ (upd H x (.ext (XcAt x C))) s := by
  have ne : ∀ b, H b ≠ none → b ≠ x := fun b h z => h (by rw [z]; exact ox.free)
  refine ⟨I.ok, I.os, I.bare, ⟨I.base.keep, I.base.slot, fun b o e n hx' => ?_, I.base.there, fun b xs e => ?_, fun b o u e => ?_, fun b ps e => ?_⟩, I.loc, I.cell, ?_, fun y c e => ?_, fun p hp' => ?_, fun b ob e => ?_, I.len⟩
  · have : b ≠ x := fun z => by
      rcases ox.new with q | q
      · exact hx' (by rw [z]; exact q)
      · rw [← z, e] at q; cases q
    rw [upd_ne this]; exact I.base.free b o e n hx'
  · have q := I.base.tups b xs e
    rw [upd_ne (ne b (by rw [q]; simp))]; exact q
  · have q := I.base.frzs b o u e
    rw [upd_ne (ne b (by rw [q]; simp))]; exact q
  · obtain ⟨more, q⟩ := I.base.tbls b ps e
    exact ⟨more, by rw [upd_ne (ne b (by rw [q]; simp))]; exact q⟩
  · rw [upd_ne (Ne.symm ox.loc)]; exact I.free
  · rw [upd_ne (ox.cel y c e)]; exact I.freeC y c e
  · obtain ⟨e, n, r⟩ := I.pin p hp'
    have : p.1 ≠ x := (List.mem_append.mp hp').elim (ox.pin p) (hp p)
    exact ⟨e, by rw [upd_ne this]; exact n, r⟩
  · by_cases z : b = x
    · subst z
      rw [upd_same] at e
      cases e
      obtain ⟨oe, vs, h1, h2⟩ := id hx
      refine ⟨hx, ⟨oe, h1⟩, fun g1 g2 p k => ?_⟩
      obtain ⟨oe', vs', h1', h2'⟩ := p
      exact ⟨oe', vs', k _ h1', h2'⟩
    · rw [upd_ne z] at e
      have sm : ∀ c o, H c = some o → upd H x (.ext (XcAt x C)) c = some o := fun c o q => by rw [upd_ne (ne c (by rw [q]; simp))]; exact q
      exact (I.hok b ob e).stay (fun _ _ _ q => q) (fun c q => sm c _ q) fun c xs q => sm c _ q

/-- the same context with other pins, another wish, around an exception that is handled -/
abbrev Cx.pin' (X : Cx) (pins : List (Addr × Obj)) : Cx := { X with pn := X.pn ++ pins }
abbrev Cx.han (X : Cx) (x : Addr) : Cx := { X with A := X.A.mark (some (.ref x)), calm := false, xe := fun _ _ => False }
theorem ok_pin (ok : X.Ok) : (Cx.pin' X pins).Ok := ⟨ok.mod, ok.kind, ok.glob, ok.blt, ok.above, ok.inj, ok.has, ok.cab, ok.hd, ok.frames, ok.stk, ok.exf, ok.bs, ok.bsz, ok.noex, ok.exfs, ok.funs, ok.frf⟩
theorem ok_unpin (ok : (Cx.pin' X pins).Ok) : X.Ok := ⟨ok.mod, ok.kind, ok.glob, ok.blt, ok.above, ok.inj, ok.has, ok.cab, ok.hd, ok.frames, ok.stk, ok.exf, ok.bs, ok.bsz, ok.noex, ok.exfs, ok.funs, ok.frf⟩
theorem ok_han {x : Addr} (ok : X.Ok) : (Cx.han X x).Ok := ⟨ok.mod, ok.kind, ok.glob, ok.blt, ok.above, ok.inj, ok.has, ok.cab, (fun h => by cases h), ok.frames, ok.stk, ok.exf, ok.bs, ok.bsz, ok.noex, ok.exfs, ok.funs, ok.frf⟩
theorem inv_pin' (I : Inv X pins σ H s) : Inv (Cx.pin' X pins) [] σ H s := ⟨ok_pin I.ok, I.os, I.bare, I.base, I.loc, I.cell, I.free, I.freeC, fun p hp => I.pin p (by simpa using hp), I.hok, I.len⟩
theorem inv_unpin' (I : Inv (Cx.pin' X pins) [] σ H s) : Inv X pins σ H s := ⟨ok_unpin I.ok, I.os, I.bare, I.base, I.loc, I.cell, I.free, I.freeC, fun p hp => I.pin p (by simpa using hp), I.hok, I.len⟩
theorem inv_han {x : Addr} (I : Inv X pins σ H s) : Inv (Cx.han X x) pins σ H s := ⟨ok_han I.ok, I.os, I.bare, I.base, I.loc, I.cell, I.free, I.freeC, I.pin, I.hok, I.len⟩
theorem inv_unhan {x : Addr} (ok : X.Ok) (I : Inv (Cx.han X x) pins σ H s) : Inv X pins σ H s := ⟨ok, I.os, I.bare, I.base, I.loc, I.cell, I.free, I.freeC, I.pin, I.hok, I.len⟩
theorem xp_unwish {E : Value → Shared → Prop} {W : XW} {e : Value} (p : XP (X.wish E) W e s) : XP X W e s := by
  obtain ⟨x, cls, σ, H, T, fl, a, I, b, c, r⟩ := p
  exact ⟨x, cls, σ, H, T, fl, a, I.unwish, ⟨b.free, b.loc, b.nfs, b.new, b.cel, b.pin⟩, fun t ht => let b := c t ht; ⟨b.free, b.loc, b.nfs, b.new, b.cel, b.pin⟩, r⟩
end
end NH
end
section
set_option linter.all false
set_option maxRecDepth 100000
set_option maxHeartbeats 4000000
namespace NH
open PySem PySem.Spec PyProof.Rows L2
section
variable {X : Cx} {D : DP} {W : XW} {Γ : Cn} {k : Nat} {pins : List (Addr × Obj)} {s : Shared} {σ : St} {H : Hp} {φ α : List Addr} {τ : Sl} {μ : Mem} {pos : Pos} {E : Ends} {u v : Sl → Mem → Out} {body suite : List Stmt} {b0 : Stmt}
theorem SRel.unset {i : Nat} (r : SRel D φ α H τ σ) : SRel D φ α H (τ.set i none) (σ.set i none) := by
  refine ⟨by simp [r.len], fun j t e => ?_⟩
  by_cases h : i = j
  · subst h
    rw [List.getElem?_set_self'] at e
    cases q : τ[i]? with
    | none => rw [q] at e; cases e
    | some o => rw [q] at e; cases e
  · rw [List.getElem?_set_ne h] at e ⊢
    exact r.val j t e
theorem XTr.at {h : Heap} {x T C : Addr} {fl : Value} (t : XTr h x T (.ref C) fl) : XcAt x C h := by
  obtain ⟨oe, vs, a0, oT, ts, h1, ⟨h2, h3⟩, h4, _⟩ := t
  exact ⟨oe, vs, h1, h2, h4, h3⟩
theorem XcAt.ty {M : Model} {h : Heap} {x C : Addr} (t : XcAt x C h) : PySem.W.Looks M h (typeOf (.ref x)) (.ref C) := by
  obtain ⟨oe, vs, h1, h2, h3, h4⟩ := t
  exact h2 ▸ (PySem.W.Looks.ld h1).andThen .now
/-- try .. except c as e -/
theorem ss_try (C : Sk D W Γ X k) (hc : Γ.calm = true) {c e : Str} {p0 p1 : Pos} (hcG : c ∈ Γ.G) (hg : Γ.gl c = .xcl) (hcx : Γ.xcs.contains c = true) (hce : Γ.cel.contains e = false)
    (hb : ∀ X' W', Sk D W' Γ X' k → PSs X' body (rdS D W' u)) (hs : ∀ X', Sk D noW { Γ with calm := false } X' k → PSs X' (b0 :: suite) (rdS D noW v)) :
    PS X (.Try body [.ExceptHandler (some (.Name c p0)) (some e) (b0 :: suite) p1] [] [] pos) (rdS D W fun τ μ => match u τ μ with
      | .ex kk τ1 μ1 => hanM Γ c e v kk τ1 μ1
      | o => o) := by
  rintro pins s σ H E I ⟨φ, α, τ, μ, sr, mr, p⟩
  obtain ⟨e0, out, L, F⟩ := C.frm
  have F0 : Frm (Cx.pin' X pins) e0 out L := ⟨F.stk, F.f0, F.fe⟩
  generalize hW : (fun (cls : Value) (_ : Option Addr) (σ' : St) (H' : Hp) => ∃ kk τ1 μ1 α1 Ck, u τ μ = .ex kk τ1 μ1 ∧ D.adr kk = some Ck ∧ cls = .ref Ck ∧ Stp α H α1 H' ∧ MRel D φ α1 H' μ1 ∧ SRel D φ α1 H' τ1 σ' : XW) = W1
  have C1 : Sk D W1 Γ ((Cx.pin' X pins).wish (XP (Cx.pin' X pins) W1)) k := { hK := C.hK, hN := C.hN, nd := C.nd, vis := C.vis, dbg := C.dbg, dbG := C.dbG, glb := C.glb, glo := C.glo, glU := C.glU, cel := C.cel, isi := C.isi, fld := C.fld, xcx := C.xcx, clv := C.clv, clm := C.clm, rom := C.rom, unt := C.unt, xe := fun e s p => xp_unwish p, frm := ⟨e0, out, L, F.stk, F.f0, F.fe⟩, sto := C.sto, lcl := C.lcl, pso := xp_passes F0 I.ok.frames, xmt := C.xmt }
  have B := hb _ W1 C1 [] s σ H E ((inv_pin' I).wish _) ⟨φ, α, τ, μ, sr, mr, by
    dsimp only at p
    cases hu : u τ μ with
    | ex kk τ1 μ1 => exact fun α' H' σ' Ck st m sr' ad => by rw [← hW]; exact ⟨kk, τ1, μ1, α', Ck, hu, ad, rfl, st, m, sr'⟩
    | nx τ1 μ1 => rw [hu] at p; exact p
    | rt t μ1 => rw [hu] at p; exact p
    | bk τ1 μ1 => rw [hu] at p; exact p
    | ct τ1 μ1 => rw [hu] at p; exact p
    | st => rw [hu] at p; exact p⟩
  refine wpAny_Try_except (wpAny_mono B (fun f s1 h1 => ?_) (fun e1 s1 h1 => ?_))
  · cases f with
    | next => obtain ⟨σ', H', I', q⟩ := h1; exact pss_nil pins s1 σ' H' E (inv_unpin' I'.unwish) q
    | brk => obtain ⟨σ', H', I', q⟩ := h1; exact ⟨σ', H', inv_unpin' I'.unwish, q⟩
    | cont => obtain ⟨σ', H', I', q⟩ := h1; exact ⟨σ', H', inv_unpin' I'.unwish, q⟩
    | ret w => obtain ⟨y, σ', H', I', r, q⟩ := h1; exact ⟨y, σ', H', inv_unpin' I'.unwish, r, q⟩
  have h1 : XP (Cx.pin' X pins) W1 e1 s1 := h1
  refine xp_note (X := Cx.pin' X pins) F0 I.ok.frames h1 fun x cls σ1 H1 T h' ee I1 ox oT tr w => ?_
  subst ee
  refine xp_flight (X := Cx.pin' X pins) (s := { s1 with heap := h' }) I1 ox oT tr fun h2 I2 tr2 => ?_
  rw [← hW] at w
  obtain ⟨kk, τ1, μ1, α1, Ck, hu, ad, rfl, st1, m1, sr1⟩ := w
  dsimp only at p
  rw [hu] at p
  dsimp only at p
  unfold hanM at p
  split at p
  case h_2 => exact p.elim
  rename_i i hk hi hidx
  have gq := C.glo c hcG
  rw [hg] at gq
  obtain ⟨C0, adc, hmc, _⟩ := gq
  have IX : Inv (Cx.han (Cx.pin' X pins) x) [] σ1 H1 { s1 with heap := h2 } := inv_han I2
  have hexm := C.xmt kk c true Ck C0 hk hcx hi ad adc
  refine wpAny_handleBy_cons (codeAny_handlers_test (ld_glob (X := Cx.han (Cx.pin' X pins) x) IX (C.glb c hcG) hmc ?_ (C.dbG c hcG))) (fun q => by cases q)
  refine (PySem.W.exm_one (M := model X.prog X.w) IX.kIn (XcAt.ty (XTr.at tr2)) hexm).at ?_
  refine codeAny_handlers_suite_as ?_
  refine xp_flight (X := Cx.pin' X pins) (s := { s1 with heap := h2 }) I2 ox oT tr2 fun h3 I3 tr3 => ?_
  have I4 := inv_track (C := Ck) I3 ox (fun p hp => absurd hp (by simp)) (XTr.at tr3)
  have st2 : Stp α1 H1 α1 (upd H1 x (.ext (XcAt x Ck))) := Stp.new (same_upd ox.free)
  have hloc : X.env.scope.names.lookup e = some .local := C.lcl e (idx_mem hidx) hce
  have hNd : X.N.Nodup := by rw [C.hN]; exact C.nd
  have hNi : X.N[i]? = some e := by rw [C.hN]; exact idx_get hidx
  refine store_ok (X := Cx.han (Cx.pin' X pins) x) (i := i) (v := .ref x) (inv_han I4) hNd hNi (.inl hloc) rfl (fun s5 I5 => ?_) (.inr hloc)
  have den : Den D φ α1 (upd H1 x (.ext (XcAt x Ck))) (.exc kk) (.ref x) := ⟨x, Ck, rfl, fresh_phi m1 ox.free, fresh_out m1 ox.free, ad, upd_same⟩
  have sr5 := (sr1.step st2).set (i := i) den
  have m5 := m1.new (same_upd (o := HO.ext (XcAt x Ck)) ox.free)
  have C2 : Sk D noW { Γ with calm := false } (Cx.han (Cx.pin' X pins) x) k := { hK := C.hK, hN := C.hN, nd := C.nd, vis := C.vis, dbg := C.dbg, dbG := C.dbG, glb := C.glb, glo := C.glo, glU := C.glU, cel := C.cel, isi := C.isi, fld := C.fld, xcx := C.xcx, clv := C.clv, clm := (fun z => by cases z), rom := (fun z => by cases z), unt := C.unt, xe := (fun e s p => by obtain ⟨_, _, _, _, _, _, _, _, _, _, _, _, z⟩ := p; exact z), frm := ⟨e0, out, L, F.stk, F.f0, F.fe⟩, sto := C.sto, lcl := C.lcl, pso := PassesOwn.never, xmt := C.xmt }
  have S := hs _ C2 [] s5 _ _ { nx := fun σ' H' => E.nx (σ'.set i none) H', rt := E.rt } I5 ⟨φ, α1, _, μ1, sr5, m5, by
    cases hv : v (τ1.set i (some (.exc kk))) μ1 with
    | nx τ2 μ2 => rw [hv] at p; exact fun α' H' σ' st m r => p α' H' _ ((st1.trans st2).trans st) m r.unset
    | rt t μ2 => rw [hv] at p; exact fun α' H' w st m d => p α' H' w ((st1.trans st2).trans st) m d
    | bk τ2 μ2 => rw [hv] at p; exact p.elim
    | ct τ2 μ2 => rw [hv] at p; exact p.elim
    | ex c2 τ2 μ2 => rw [hv] at p; exact p.elim
    | st => rw [hv] at p; exact p⟩
  have hkf : (X.env.scope.kind == .class || (X.env.scope.kind == .module && X.env.locals != X.env.globals)) = false := by rw [I.ok.kind]; rfl
  refine wpAny_mono S (fun f s6 h6 => ?_) (fun _ _ z => z.elim)
  have fin : ∀ {σ6 H6}, Inv (Cx.han (Cx.pin' X pins) x) [] σ6 H6 s6 → (∀ s7, Inv X pins (σ6.set i none) H6 s7 → SP X pins E f s7) → wpAny (model X.prog X.w) X.A (do bindName X.env e .none; unbindBehindTheSuite X.env e p1) (fun _ s7 => SP X pins E f s7) X.xe s6 := fun {σ6 H6} I6 q => by
    have I7 : Inv X pins σ6 H6 s6 := inv_unpin' (inv_unhan (ok_pin I.ok) I6)
    obtain ⟨m, hn, hl⟩ := I7.loc
    refine wpAny_nameGoes_keeps hloc hn hkf fun h7 u7 hn7 hs7 => ?_
    exact q _ (inv_unset I7 hNd hNi hl hn7 hs7)
  cases f with
  | next => obtain ⟨σ', H', I', q⟩ := h6; exact fin I' fun s7 I7 => ⟨_, H', I7, q⟩
  | brk => obtain ⟨σ', H', I', q⟩ := h6; exact q.elim
  | cont => obtain ⟨σ', H', I', q⟩ := h6; exact q.elim
  | ret w => obtain ⟨y, σ', H', I', r, q⟩ := h6; exact fin I' fun s7 I7 => ⟨y, _, H', I7, r, q⟩
end
end NH
end
section
set_option linter.all false
set_option maxRecDepth 100000
set_option maxHeartbeats 4000000
namespace NH
open PySem PySem.Spec PyProof.Rows L2
section
variable {D : DP}
theorem ss_of {X : Cx} {W : XW} {st : Stmt} {f : Sl → Mem → Out} (h : ∀ τ μ, f τ μ = .st) : PS X st (rdS D W f) := by
  rintro pins s σ H E I ⟨φ, α, τ, μ, sr, mr, p⟩
  rw [h] at p
  exact p.elim
theorem ex_if {X : Cx} {W : XW} {st : Stmt} {b : Bool} {f g : Sl → Mem → Out} (hg : ∀ τ μ, g τ μ = if b = true then f τ μ else .st) (h : b = true → PS X st (rdS D W f)) : PS X st (rdS D W g) := by
  have : g = fun τ μ => if b = true then f τ μ else .st := funext fun τ => funext fun μ => hg τ μ
  rw [this]
  cases hb : b with
  | true => simpa [hb] using h hb
  | false => simpa using ss_st
theorem ev_SetComp {Γ : Cn} {n : Nat} {a b c d τ μ} : ev n Γ (.SetComp a b c d) τ μ = .st := by cases n <;> rfl
theorem ev_DictComp {Γ : Cn} {n : Nat} {a b c d e τ μ} : ev n Γ (.DictComp a b c d e) τ μ = .st := by cases n <;> rfl

theorem sex_expr {X : Cx} {W : XW} {Γ : Cn} {k n : Nat} (C : Sk D W Γ X k) (e : Expr) (pos : Pos) : PS X (.Expr e pos) (rdS D W (ex (n + 1) Γ (.Expr e pos))) := by
  have ih := sev (D := D) n C.toCk n (Nat.le_refl _)
  cases e with
  | ListComp a b c d => exact ss_st
  | SetComp a b c d => exact ss_of fun τ μ => by show (ev n Γ _ τ μ).out τ _ = _; rw [ev_SetComp]; rfl
  | DictComp a b c d e => exact ss_of fun τ μ => by show (ev n Γ _ τ μ).out τ _ = _; rw [ev_DictComp]; rfl
  | _ => exact ss_expr rfl (ih _)
theorem sex_set0 {X : Cx} {W : XW} {Γ : Cn} {k n : Nat} (C : Sk D W Γ X k) (x : Str) (p : Pos) (e : Expr) (pos : Pos) (hi : (idx Γ.N x).isSome = true) : PS X (.Assign [.Name x p] e pos) (rdS D W fun τ μ => (ev n Γ e τ μ).out τ fun t μ1 => (match asgT Γ.N (.Name x p) t τ with | some τ' => .nx τ' μ1 | none => .st)) := by
  have ih := sev (D := D) n C.toCk n (Nat.le_refl _)
  cases e with
  | SetComp a b c d => exact ss_of fun τ μ => by rw [ev_SetComp]; rfl
  | DictComp a b c d e => exact ss_of fun τ μ => by rw [ev_DictComp]; rfl
  | ListComp elt gens sc pc =>
    have key : ∀ bb, swapsWith (.ListComp elt gens sc pc) (some (.Name x p)) pos.line X.env = pure bb → PS X (.Assign [.Name x p] (.ListComp elt gens sc pc) pos) (rdS D W fun τ μ => (ev n Γ (.ListComp elt gens sc pc) τ μ).out τ fun t μ1 => (match asgT Γ.N (.Name x p) t τ with | some τ' => .nx τ' μ1 | none => .st)) := fun bb hsw => by
      cases bb with
      | false => exact ss_set C hi hsw (ih _)
      | true =>
        cases n with
        | zero => exact ss_of fun τ μ => rfl
        | succ n =>
          have stp : ∀ {g : List Comprehension}, (∀ τ μ, ev (n + 1) Γ (.ListComp elt g sc pc) τ μ = .st) → PS X (.Assign [.Name x p] (.ListComp elt g sc pc) pos) (rdS D W fun τ μ => (ev (n + 1) Γ (.ListComp elt g sc pc) τ μ).out τ fun t μ1 => (match asgT Γ.N (.Name x p) t τ with | some τ' => .nx τ' μ1 | none => .st)) := fun h => ss_of fun τ μ => by rw [h]; rfl
          match gens with
          | [] => exact stp fun τ μ => rfl
          | [⟨tg, iter, [], 0⟩] =>
            by_cases h : (Γ.calm && compOk Γ.N Γ.cel tg sc) = true
            · by_cases hset : ∃ es kk p, iter = .Set es kk p
              · obtain ⟨es, kk, p0, rfl⟩ := hset
                refine stp fun τ μ => ?_
                show (if (Γ.calm && compOk Γ.N Γ.cel tg sc) = true then ((ev n Γ (.Set es kk p0) τ μ).bind _ : RE (List T)).bind _ else _) = _
                rw [set_ev]
                simp [RE.bind]
              · have e1 : (fun τ μ => (ev (n + 1) Γ (.ListComp elt [⟨tg, iter, [], 0⟩] sc pc) τ μ).out τ fun t μ1 => (match asgT Γ.N (.Name x p) t τ with | some τ' => Out.nx τ' μ1 | none => .st)) = fun τ μ => ((evIter Γ (ev n Γ) iter τ μ).bind fun xs μ1 => if xs.length ≤ room then (compM (asg (tgNames tg ++ frees sc) tg) (ev n (inComp Γ tg sc) elt) ((tgNames tg).map (fun _ => none) ++ selT Γ.N τ (frees sc)) xs μ1).noex.bind fun ys μ2 => .ok (.lst ys) μ2 else .st).out τ fun t μ1 => (match asgT Γ.N (.Name x p) t τ with | some τ' => .nx τ' μ1 | none => .st) := by
                  funext τ μ
                  show (if (Γ.calm && compOk Γ.N Γ.cel tg sc) = true then _ else _ : RE T).out τ _ = _
                  rw [if_pos h]
                rw [e1]
                simp only [Bool.and_eq_true] at h
                have ih' := sev (D := D) n C.toCk n (Nat.le_refl _)
                exact ss_comp C h.1 hi (compOk_of h.2) (si_ev C.toCk ih' tg iter) (fun X' C' => sev (D := D) n C' n (Nat.le_refl _) elt) (noSet fun es kk p0 z => hset ⟨es, kk, p0, z⟩) hsw
            · exact stp fun τ μ => if_neg h
          | [⟨tg, iter, [], (Int.ofNat (m + 1))⟩] => exact stp fun τ μ => rfl
          | [⟨tg, iter, [], (Int.negSucc m)⟩] => exact stp fun τ μ => rfl
          | [⟨tg, iter, i :: is, z⟩] => exact stp fun τ μ => rfl
          | ⟨tg, iter, ifs, z⟩ :: g' :: r =>
            cases ifs with
            | cons _ _ => exact stp fun τ μ => rfl
            | nil =>
              rcases z with (_ | m) | m
              · exact stp fun τ μ => rfl
              · exact stp fun τ μ => rfl
              · exact stp fun τ μ => rfl
    exact key _ rfl
  | _ => exact ss_set C hi rfl (ih _)
theorem sex_set {X : Cx} {W : XW} {Γ : Cn} {k n : Nat} (C : Sk D W Γ X k) (x : Str) (p : Pos) (e : Expr) (pos : Pos) : PS X (.Assign [.Name x p] e pos) (rdS D W (ex (n + 1) Γ (.Assign [.Name x p] e pos))) := by
  refine ex_if (b := (idx Γ.N x).isSome) (f := fun τ μ => (evO n Γ x e τ μ).out τ fun t μ1 => (match asgT Γ.N (.Name x p) t τ with | some τ' => .nx τ' μ1 | none => .st)) (fun τ μ => rfl) fun hi => ?_
  cases h : Γ.own.contains x with
  | false =>
    have q : evO n Γ x e = ev n Γ e := funext fun τ => funext fun μ => by unfold evO; rw [h]; rfl
    rw [q]
    exact sex_set0 C x p e pos hi
  | true =>
    have q : evO n Γ x e = evM n Γ e := funext fun τ => funext fun μ => by unfold evO; rw [h]; rfl
    rw [q]
    cases e with
    | List es p0 => exact ss_set C hi rfl (sevM C.toCk _)
    | Call f args kws p0 => exact ss_set C hi rfl (sevM C.toCk _)
    | _ => exact ss_of fun τ μ => rfl
theorem sex_asg {X : Cx} {W : XW} {Γ : Cn} {k n : Nat} (C : Sk D W Γ X k) (ts : List Expr) (e : Expr) (pos : Pos) : PS X (.Assign ts e pos) (rdS D W (ex (n + 1) Γ (.Assign ts e pos))) := by
  have ih := sev (D := D) n C.toCk n (Nat.le_refl _)
  match ts with
  | [] => exact ss_st
  | t :: t' :: r => cases t <;> first | exact ss_st | (rename_i v _ _; cases v <;> exact ss_st)
  | [t] =>
    cases t with
    | Name x p => exact sex_set C x p e pos
    | Tuple es kk p =>
      refine ex_if (b := Γ.calm && plainTup e && namesIn Γ.N es) (f := fun τ μ => (ev n Γ e τ μ).out τ fun t μ1 => (match asg Γ.N (.Tuple es kk p) t τ with | some τ' => .nx τ' μ1 | none => .st)) (fun τ μ => rfl) fun h => ?_
      simp only [Bool.and_eq_true] at h
      exact ss_tup C h.1.1 h.1.2 h.2 (ih e)
    | Attribute o f p =>
      cases o with
      | Name o p0 => exact ss_fld C (ih e) (ih (.Name o p0))
      | _ => exact ss_st
    | Subscript o b p =>
      cases o with
      | Name o p0 =>
        refine ex_if (b := plainIx b) (f := fun τ μ => (ev n Γ e τ μ).out τ fun t μ1 => ((ev n Γ (.Name o p0) τ μ1).out τ fun ot μ2 => ((ev n Γ b τ μ2).out τ fun it μ3 => match putAt ot it t μ3 with
          | some μ4 => .nx τ μ4
          | none => .st))) (fun τ μ => rfl) fun h => ?_
        exact ss_put C h (ih e) (ih (.Name o p0)) (ih b)
      | _ => exact ss_st
    | _ => exact ss_st
theorem sex_for {X : Cx} {W : XW} {Γ : Cn} {k n : Nat} (C : Sk D W Γ X k) (IH : ∀ st, PS X st (rdS D W (ex n Γ st))) (tg iter : Expr) (body els : List Stmt) (pos : Pos) : PS X (.For tg iter body els pos) (rdS D W (ex (n + 1) Γ (.For tg iter body els pos))) := by
  have ih := sev (D := D) n C.toCk n (Nat.le_refl _)
  cases els with
  | cons _ _ => exact ss_st
  | nil =>
    refine ex_if (b := Γ.calm && tgIn Γ.N tg) (f := fun τ μ => (evIter Γ (ev n Γ) iter τ μ).out τ fun xs μ1 => forM (asg Γ.N tg) (xss (ex n Γ) body) xs τ μ1) (fun τ μ => rfl) fun h => ?_
    simp only [Bool.and_eq_true] at h
    by_cases hset : ∃ es kk p, iter = .Set es kk p
    · obtain ⟨es, kk, p0, rfl⟩ := hset
      refine ss_of fun τ μ => ?_
      show ((ev n Γ (.Set es kk p0) τ μ).bind _ : RE (List T)).out τ _ = _
      rw [set_ev]; rfl
    · exact ss_for C h.1 h.2 (si_ev C.toCk ih tg iter) (sss_all fun st _ => IH st) (noSet fun es kk p0 z => hset ⟨es, kk, p0, z⟩)
theorem sex_raise {X : Cx} {W : XW} {Γ : Cn} {k n : Nat} (C : Sk D W Γ X k) (e c : Option Expr) (pos : Pos) : PS X (.Raise e c pos) (rdS D W (ex (n + 1) Γ (.Raise e c pos))) := by
  have ih := sev (D := D) n C.toCk n (Nat.le_refl _)
  cases e with
  | none => exact ss_st
  | some e =>
    cases e with
    | Call f args kws p =>
      cases f with
      | Name x p0 =>
        match args with
        | [] => exact ss_st
        | a :: args =>
          cases kws with
          | cons _ _ => exact ss_st
          | nil =>
            cases c with
            | some _ => exact ss_st
            | none =>
              refine ex_if (b := Γ.calm && (idx Γ.N x).isNone && (a :: args).all noStar) (f := fun τ μ => match Γ.look x with
                | .xcl => (evL (ev n Γ) (a :: args) τ μ).out τ fun ts μ1 => if ts.length ≤ room then .ex x τ μ1 else .st
                | _ => .st) (fun τ μ => rfl) fun h => ?_
              simp only [Bool.and_eq_true] at h
              cases hl : Γ.look x with
              | xcl =>
                obtain ⟨hx, hg⟩ := look_eq hl (by intro z; cases z)
                exact ss_raise C h.1.1 hx hg h.2 (sa_all (F := ev n Γ) h.2 fun e _ => ih e)
              | _ => exact ss_st
      | _ => exact ss_st
    | _ => exact ss_st
theorem sex_try {X : Cx} {W : XW} {Γ : Cn} {k n : Nat} (C : Sk D W Γ X k) (IH : ∀ X W Γ k, Sk D W Γ X k → ∀ st, PS X st (rdS D W (ex n Γ st))) (body : List Stmt) (hs : List ExceptHandler) (els fin : List Stmt) (pos : Pos) : PS X (.Try body hs els fin pos) (rdS D W (ex (n + 1) Γ (.Try body hs els fin pos))) := by
  match hs with
  | [] => exact ss_st
  | [.ExceptHandler none nm suite p1] => exact ss_st
  | [.ExceptHandler (some t) none suite p1] => cases t <;> exact ss_st
  | [.ExceptHandler (some t) (some e) [] p1] => cases t <;> exact ss_st
  | [.ExceptHandler (some t) (some e) (b0 :: suite) p1] =>
    cases t with
    | Name c p0 =>
      cases els with
      | cons _ _ => exact ss_st
      | nil =>
        cases fin with
        | cons _ _ => exact ss_st
        | nil =>
          refine ex_if (b := Γ.calm && (idx Γ.N c).isNone && !Γ.cel.contains e && Γ.xcs.contains c) (f := fun τ μ => match Γ.look c with
            | .xcl => (match xss (ex n Γ) body τ μ with
              | .ex k τ1 μ1 => hanM Γ c e (xss (ex n { Γ with calm := false }) (b0 :: suite)) k τ1 μ1
              | o => o)
            | _ => .st) (fun τ μ => rfl) fun h => ?_
          simp only [Bool.and_eq_true, Bool.not_eq_true'] at h
          cases hl : Γ.look c with
          | xcl =>
            obtain ⟨hx, hg⟩ := look_eq hl (by intro z; cases z)
            exact ss_try C h.1.1.1 hx hg h.2 h.1.2 (fun X' W' C' => sss_all fun st _ => IH X' W' Γ k C' st) (fun X' C' => sss_all fun st _ => IH X' noW _ k C' st)
          | _ => exact ss_st
    | _ => exact ss_st
  | .ExceptHandler none nm suite p1 :: _ :: _ => exact ss_st
  | .ExceptHandler (some t) none suite p1 :: _ :: _ => cases t <;> exact ss_st
  | .ExceptHandler (some t) (some e) [] p1 :: _ :: _ => cases t <;> exact ss_st
  | .ExceptHandler (some t) (some e) (b0 :: suite) p1 :: _ :: _ => cases t <;> exact ss_st
/-- THE SOUNDNESS of ex -/
theorem sex : ∀ (n : Nat) (X : Cx) (W : XW) (Γ : Cn) (k : Nat), Sk D W Γ X k → ∀ st, PS X st (rdS D W (ex n Γ st)) := by
  intro n
  induction n with
  | zero => intro X W Γ k C st; exact ss_st
  | succ n IH =>
    intro X W Γ k C st
    have hn := sev (D := D) n C.toCk
    have ih := hn n (Nat.le_refl _)
    have IH' := IH X W Γ k C
    cases st with
    | Pass p => exact ss_pass
    | Break p => exact ss_break
    | Continue p => exact ss_cont
    | Return e p =>
      cases e with
      | none => exact ss_retN
      | some e => exact ss_ret (sevO C.toCk "return" e)
    | Expr e p => exact sex_expr C e p
    | If c a b p => exact ss_if ((sevT C.toCk hn n).1 c) (sss_all fun st _ => IH' st) (sss_all fun st _ => IH' st)
    | Assign ts e p => exact sex_asg C ts e p
    | For tg it b els p => exact sex_for C IH' tg it b els p
    | While c b els p =>
      cases els with
      | nil => exact ss_while C ((sevT C.toCk hn n).1 c) (sss_all fun st _ => IH' st)
      | cons _ _ => exact ss_st
    | Raise e c p => exact sex_raise C e c p
    | Try b hs els fin p => exact sex_try C IH b hs els fin p
    | _ => exact ss_st
end
end NH
end
section
set_option linter.all false
set_option maxRecDepth 100000
set_option maxHeartbeats 4000000
namespace NH
open PySem PySem.Spec PyProof.Rows L2

/-- what is known of the text, for the tables of Γ -/
structure MdOk (D : DP) (P : Program) (w : World) (K : PySem.W.Frag) (mg : Str → Option Value) (base : Heap) (Γ : Cn) (k : Nat) : Prop where
  hK : K = D.K
  glo : ∀ x ∈ Γ.U, GlOkM D P w K mg base k x (Γ.gl x) ∧ (x == ("__debug__" : Str)) = false
  isi : ∀ t c b, Γ.isin t c = some b → ∀ u v, TyNm D t u → ClValM mg c v → PySem.W.kitOne K u v = some b
  fld : ∀ c C f, (Γ.flds c).contains f = true → D.adr c = some C → Cls K C ∧ NoAttr K C f
  xcx : ∀ c C, Γ.xcs.contains c = true → D.adr c = some C → XCls K C
  clv : ∀ c, Γ.cls.contains c = true → ∃ u v, ClValM mg c u ∧ ClsV v u
  xmt : ∀ n c b Cn Cc, Γ.xcs.contains n = true → Γ.xcs.contains c = true → Γ.isin n c = some b → D.adr n = some Cn → D.adr c = some Cc → PySem.W.exmOne K (.ref Cn) (.ref Cc) = some b
/-- a def's scope, held against Γ: a check -/
def scOk (Γ : Cn) (ps : List Str) (sc : Scope) : Bool :=
  (sc.kind == .function) && !sc.isCoroutine && !sc.isGenerator && decide (Γ.N.Nodup) && (Γ.N.take ps.length == ps) && sc.names.all (fun y => y.2 != .free) &&
  Γ.N.all (fun x => x != ("__debug__" : Str) && x != ("__classdict__" : Str) && (if Γ.cel.contains x then sc.names.lookup x == some .cell else sc.names.lookup x == some .local)) &&
  Γ.G.all (fun x => Γ.U.contains x && sc.names.lookup x == some .globalImplicit) && Γ.cel.all (fun x => Γ.N.contains x) && Γ.calm
/-- a def as a function of trees: so many arguments, no others -/
def runG (ps : List Str) (n : Nat) (Γ : Cn) (body : List Stmt) (ts : List T) (μ : Mem) : RE T := if ts.length = ps.length then runF n Γ body ts μ else .st
theorem runG_len {ps : List Str} {n : Nat} {Γ : Cn} {body : List Stmt} {ts : List T} {μ : Mem} (h : ts.length ≠ ps.length) : runG ps n Γ body ts μ = .st := if_neg h

theorem xp_frames {X : Cx} {W : XW} {e : Value} {s : Shared} (p : XP X W e s) : X.A.frames = some X.stack := by
  obtain ⟨_, _, _, _, _, _, _, I, _⟩ := p
  exact I.ok.frames
section
variable {D : DP} {P : Program} {w : World} {K : PySem.W.Frag} {mg : Str → Option Value} {base : Heap} {Γ : Cn} {k n : Nat}
theorem srel_start {φ α : List Addr} {H : Hp} {N : List Str} : ∀ {ts : List T} {vs : List V}, DenL D φ α H ts vs → SRel D φ α H (ts.map some ++ List.replicate (N.length - ts.length) none) (L2.start N vs) := by
  intro ts vs d
  have hl := d.length
  refine ⟨by simp [L2.start, hl], fun i t e => ?_⟩
  by_cases hi : i < ts.length
  · rw [List.getElem?_append_left (by simpa using hi), List.getElem?_map] at e
    cases q : ts[i]? with
    | none => rw [q] at e; cases e
    | some t' =>
      rw [q] at e
      have e : some (some t') = some (some t) := e
      cases e
      obtain ⟨v, hv, dv⟩ := d.get q
      refine ⟨v, ?_, dv⟩
      unfold L2.start
      rw [List.getElem?_append_left (by rw [List.length_map, ← hl]; exact hi), List.getElem?_map, hv]
      rfl
  · rw [List.getElem?_append_right (by simpa using hi), List.getElem?_replicate] at e
    split at e <;> cases e
/-- THE RULE for a def: its mirror is what it is worth -/
theorem fn_rule {f : Addr} {name qual : Str} {params : Arguments} {body : List Stmt} {scope : Scope} {dV kV doc pm cdv ct oc : Value} {an od : Option Addr} {osl : Array (Option Value)} {ps : List Str}
    (M : MdOk D P w K mg base Γ k) (lk : K.lookup f = some ⟨oc, od, .func (PySem.W.fnOf name qual params body scope dV kV doc pm an cdv ct), osl⟩) (hcd : PySem.W.codeIn K cdv qual = true) (hs : scOk Γ ps scope = true) :
    FnOk P w K mg base (CX1 P w) (k + 1) f (PySem.W.fnOf name qual params body scope dV kV doc pm an cdv ct) ps (spN D ps.length (runG ps n Γ body)) := by
  simp only [scOk, Bool.and_eq_true, List.all_eq_true, beq_iff_eq, Bool.not_eq_true', decide_eq_true_eq, bne_iff_ne, ne_eq] at hs
  obtain ⟨⟨⟨⟨⟨⟨⟨⟨⟨h1, h2⟩, h3⟩, h4⟩, h5⟩, h6⟩, h7⟩, h8⟩, h9⟩, h10⟩ := hs
  have kin : ∀ x ∈ Γ.N, (Γ.cel.contains x = true ∧ scope.names.lookup x = some .cell) ∨ (Γ.cel.contains x = false ∧ scope.names.lookup x = some .local) := fun x hx => by
    have q := (h7 x hx).2
    cases hc : Γ.cel.contains x with
    | true => rw [hc, if_pos rfl] at q; exact .inl ⟨rfl, beq_iff_eq.mp q⟩
    | false => rw [hc] at q; exact .inr ⟨rfl, beq_iff_eq.mp q⟩
  have loc : ∀ x ∈ Γ.N, scope.names.lookup x = some .local ∨ scope.names.lookup x = some .cell := fun x hx => (kin x hx).elim (fun z => .inr z.2) fun z => .inl z.2
  have S : FnScope Γ.N ps scope := ⟨h1, h2, h3, h4, h5, fun x hx => loc x (by rw [← h5] at hx; exact List.mem_of_mem_take hx), h6⟩
  refine fn_of lk hcd S (fun vs H Q E q => q.1) fun A outer s H vs Q E hr hsp => ?_
  obtain ⟨hl, φ, α, ts, μ, d, mr, p⟩ := hsp
  have hle : ts.length = ps.length := by rw [d.length]; exact hl
  unfold runG at p
  rw [if_pos hle] at p
  generalize hX : cxOf (CX1 P w) P w K mg base Γ.N qual scope f cdv A outer s H E = X
  have F : Frm X (envOfC qual scope s.heap.objs.size f cdv) outer s.heap.objs.size := by rw [← hX]; exact ⟨rfl, rfl, rfl⟩
  have C : Sk D (wOf E) Γ (X.wish (XP X (wOf E))) k := by
    have xe : ∀ e s, XP (X.wish (XP X (wOf E))) (wOf E) e s → XP X (wOf E) e s := fun e s p => xp_unwish p
    have pso : PassesOwn (model X.prog X.w) X.A X.env (XP X (wOf E)) := fun e s p => xp_passes F (xp_frames p) e s p
    subst hX
    exact { hK := M.hK, hN := rfl, nd := h4, vis := fun x hx => (loc x hx).elim .inl fun z => .inr (.inl z), dbg := fun x hx => ⟨beq_eq_false_iff_ne.mpr (h7 x hx).1.1, beq_eq_false_iff_ne.mpr (h7 x hx).1.2⟩,
            dbG := fun x hx => (M.glo x (by simpa using (h8 x hx).1)).2, glb := fun x hx => (h8 x hx).2, glo := fun x hx => (M.glo x (by simpa using (h8 x hx).1)).1, glU := M.glo,
            cel := fun x hx => .inl ((kin x (by simpa using h9 x hx)).elim (fun z => z.2) fun z => by have := z.1; rw [List.contains_iff_mem.mpr hx] at this; cases this),
            isi := M.isi, fld := M.fld, xcx := M.xcx, clv := M.clv, clm := fun _ => rfl, rom := fun _ => hr, unt := hr.units, xe := xe, frm := ⟨_, _, _, F.stk, F.f0, F.fe⟩,
            sto := fun x hx => ⟨loc x hx, .inl rfl⟩, lcl := fun x hx hc => (kin x hx).elim (fun z => by rw [z.1] at hc; cases hc) fun z => z.2, pso := pso, xmt := M.xmt }
  have B : PSs X body (rdS D (wOf E) (xss (ex n Γ) body)) := fun pins s1 σ1 H1 E1 I1 q => by
    refine wpAny_mono (sss_all (fun st _ => sex n _ _ Γ k C st) pins s1 σ1 H1 E1 (I1.wish _) q) (fun f s' q => q.unwish) fun e s' p => ?_
    have p : XP X (wOf E) e s' := p
    have := xp_leave (M := model X.prog X.w) (F2 := fun e' s'' => CX1 X.prog X.w X.outer X.H₀ X.s₀ E e' s'') F (xp_frames p) (by rw [← hX]; rfl) p
    subst hX
    exact this
  refine ⟨_, B, φ, α, _, μ, srel_start d, mr, ?_⟩
  unfold runF at p
  cases hx : xss (ex n Γ) body (ts.map some ++ List.replicate (Γ.N.length - ts.length) none) μ with
  | nx τ1 μ1 => rw [hx] at p; exact fun α' H' σ' st m _ => p α' H' st m .non rfl
  | rt t μ1 => rw [hx] at p; exact fun α' H' v st m dv => p α' H' st m v dv
  | ex c τ1 μ1 => rw [hx] at p; exact fun α' H' σ' C1 st m _ ad => p α' H' C1 st m ad
  | bk τ1 μ1 => rw [hx] at p; exact p.elim
  | ct τ1 μ1 => rw [hx] at p; exact p.elim
  | st => rw [hx] at p; exact p
end
end NH
end
section
set_option linter.all false
set_option maxRecDepth 100000
set_option maxHeartbeats 4000000
namespace NH
open PySem PySem.Spec PyProof.Rows L2
/-- no list stands in the written part -/
def noLs : PySem.W.Frag → Bool
  | [] => true
  | p :: r => (match p.2.cls with | .type t => t != "list" | _ => true) && noLs r
theorem noLs_of : ∀ {K : PySem.W.Frag} {a : Addr} {o : Obj}, noLs K = true → K.lookup a = some o → o.cls ≠ .type "list"
  | [], _, _, _, h => by cases h
  | (b, p) :: r, a, o, hn, h => by
    simp only [noLs, Bool.and_eq_true] at hn
    rw [List.lookup_cons] at h
    cases q : a == b with
    | true =>
      rw [q] at h
      cases h
      intro e
      have h1 := hn.1
      rw [e] at h1
      exact absurd h1 (by decide)
    | false => rw [q] at h; exact noLs_of hn.2 h
/-- what a law's def promises -/
def spLaw (K : PySem.W.Frag) : Sp := fun vs H Q _ => ∃ (a : Addr) (ns : List Int), vs = [.ref a] ∧ SqL K H a (ns.map V.int) ∧ ns.length ≤ 63 ∧ ∀ H', Q (.bl true) H'
theorem denL_ints {D : DP} {φ α : List Addr} {H : Hp} : ∀ (ns : List Int), DenL D φ α H (ns.map T.int) (ns.map V.int)
  | [] => rfl
  | n :: r => ⟨.int n, r.map V.int, rfl, rfl, denL_ints r⟩
/-- a mirror that tells True of every script -/
def Tells (f : List T → Mem → RE T) : Prop := ∀ ns : List Int, ns.length ≤ 63 → ∃ μ, f [.lst (ns.map T.int)] [] = .ok (.bl true) μ
theorem law_of {D : DP} {P : Program} {w : World} {K : PySem.W.Frag} {mg : Str → Option Value} {base : Heap} {k : Nat} {fa : Addr} {fd : FuncData} {x : Str} {f : List T → Mem → RE T} (hl : noLs K = true) (ht : Tells f)
    (F : FnOk P w K mg base (CX1 P w) k fa fd [x] (spN D 1 f)) : FnOk P w K mg base (CX1 P w) k fa fd [x] (spLaw K) := by
  refine F.imp ?_
  rintro vs H Q E ⟨a, ns, rfl, hs, hn, q⟩
  obtain ⟨μ, e⟩ := ht ns hn
  have r : Rd H a (.lst (ns.map V.int)) := by
    rcases hs with r | ⟨o, its, n, h1, h2, _⟩
    · exact r
    · exact absurd h2 (noLs_of hl h1)
  refine ⟨rfl, [], [], [.lst (ns.map T.int)], [], ⟨.ref a, [], rfl, ⟨a, _, rfl, by simp, by simp, r, denL_ints ns⟩, rfl⟩, MRel.nil D (by simp), ?_⟩
  rw [e]
  intro α' H' st m v d
  have d : v = .bl true := d
  rw [d]
  exact q H'
theorem walk {l : PySem.W.OpenLaw} {q : Program} {loose : List Str} {XP : (Str → Option Value) → Heap → Prop} {YP : World → Heap → Prop} {d : DefRec} {K : Params → PySem.W.Frag} {x : Str} {k : Nat} (hk : k ≤ 40) (hn : l.most = some 63) (hdf : d.params.defaults = [])
    (hY : ∀ (w : World) (h : Heap), YP w h → (K w.params).In h)
    (F : ∀ (w : World) (mg : Str → Option Value) (fa : Addr) (h : Heap), (K w.params).In h → h.Ns mainGlobals mg → mg d.name = some (.ref fa) →
      ∃ fd : FuncData, (∀ (s : Shared) (u : Value), BindsTo s fd ⟨[u], []⟩ [(x, u)]) ∧ ∀ base : Heap, (K w.params).In base → base.Ns mainGlobals mg → FnOk l.prog w (K w.params) mg base (CX1 l.prog w) k fa fd [x] (spLaw (K w.params))) :
    PySem.W.WalkO q loose XP YP l.row.toRowW d [] (fun f vs => PySem.call f vs) :=
  L2.walk_of (n := 63) (k := k) (x := x) (CX := fun w => CX1 l.prog w) (sp := fun w => spLaw (K w.params)) hn (by decide) hdf (Room.mono (k := 40) ⟨rfl, by decide, by decide⟩ hk) hY F (fun _ _ a ns hl _ hS => ⟨a, ns, rfl, hS, hl, fun _ => rfl⟩) fun _ _ _ _ _ z => by
    obtain ⟨_, _, _, _, _, _, _, _, _, _, _, _, _, _, z⟩ := z
    exact z
end NH
end
section
set_option linter.all false
set_option maxRecDepth 100000
set_option maxHeartbeats 4000000
namespace NH
open PySem PySem.Spec PyProof.Rows L2

/-- the closed tables of a text: exceptions, isinstance's answers, the classes' names asked by, fields -/
structure Tab where
  xs : List Str
  tb : List (Str × Str × Bool)
  cs : List Str
  fl : List (Str × List Str)
def Tab.isin (t : Tab) (a c : Str) : Option Bool := (t.tb.find? fun p => p.1 == a && p.2.1 == c).map (·.2.2)
/-- the context of a def: tables, the global names' meanings, the def's names, its globals, its cells -/
def cn (t : Tab) (gs : List (Str × GM)) (N G cel : List Str) : Cn where
  N := N
  G := G
  calm := true
  gl := fun x => (gs.lookup x).getD .bad
  isin := t.isin
  flds := fun c => (t.fl.lookup c).getD []
  xcs := t.xs
  cls := t.cs
  U := gs.map (·.1)
  cel := cel

def tyVals (adr : List (Str × Addr)) (t : Str) : List Value :=
  (if ([("NoneType" : Str), "bool", "int", "str", "tuple", "list"] : List Str).contains t then [.type (match t with | t => if t == ("NoneType" : Str) then "NoneType" else if t == ("bool" : Str) then "bool" else if t == ("int" : Str) then "int" else if t == ("str" : Str) then "str" else if t == ("tuple" : Str) then "tuple" else "list")] else []) ++ ((adr.lookup t).toList.map Value.ref)
def clVal (K : PySem.W.Frag) (c : Str) : Option Value := match PySem.W.nsIn K mainGlobals c with
  | some (some v) => some v
  | some none => if c == ("__name__" : Str) then none else bootBuiltins c
  | none => none
def isCls : Value → Bool
  | .ref _ => true
  | .type _ => true
  | _ => false
def xclsB (K : PySem.W.Frag) (C : Addr) : Bool :=
  (match PySem.W.findIn K (.ref C) "__getattribute__" with | some (some (.builtin x)) => x == "BaseException.__getattribute__" | _ => false) &&
  (match PySem.W.findIn K (.ref C) "__getattr__" with | some none => true | _ => false) &&
  (match PySem.W.findObj K C none "__class__" with | some (.bind (.builtin a) (.builtin b)) => a == "getset_descriptor.__get__" && b == "object.__class__" | _ => false) &&
  (match PySem.W.mroIn K C (.type "object") with | some b => b | none => false) && (match PySem.W.mroIn K C (.type "BaseException") with | some b => b | none => false) && (PySem.W.clsIn K C).isSome
def isB (o : Option Bool) (b : Bool) : Bool := match o with | some c => c == b | none => false
/-- THE CHECK of the tables against the written part -/
def chk (K : PySem.W.Frag) (adr : List (Str × Addr)) (t : Tab) : Bool :=
  t.tb.all (fun p => match clVal K p.2.1 with | some v => (tyVals adr p.1).all (fun u => isB (PySem.W.kitOne K u v) p.2.2) | none => false) &&
  t.fl.all (fun p => (adr.lookup p.1).toList.all fun C => PySem.W.plainGet K C Str.empty && PySem.W.hasDictIn K C && PySem.W.plainOver K C && (match PySem.W.findIn K (.ref C) "__setattr__" with | some (some (.builtin x)) => x == "object.__setattr__" | _ => false) && p.2.all fun f => match PySem.W.findIn K (.ref C) f with | some none => true | _ => false) &&
  t.xs.all (fun x => (adr.lookup x).toList.all fun C => xclsB K C) &&
  t.cs.all (fun c => match clVal K c with | some v => isCls v | none => false) &&
  t.tb.all (fun p => if t.xs.contains p.1 && t.xs.contains p.2.1 then (match adr.lookup p.1, adr.lookup p.2.1 with | some a, some b => isB (PySem.W.exmOne K (.ref a) (.ref b)) p.2.2 | _, _ => true) else true)

theorem isB_of {o : Option Bool} {b : Bool} (h : isB o b = true) : o = some b := by
  cases o with
  | none => cases h
  | some c => have : (c == b) = true := h; rw [beq_iff_eq.mp this]
theorem clVal_of {K : PySem.W.Frag} {h : Heap} {mg : Str → Option Value} {c : Str} {v : Value} (X : K.In h) (G : h.Ns mainGlobals mg) (e : clVal K c = some v) : ClValM mg c v ∧ ∀ u, ClValM mg c u → u = v := by
  unfold clVal at e
  split at e
  · rename_i v' q
    cases e
    have m := PySem.W.mg_of X G q
    refine ⟨.inl m, fun u z => ?_⟩
    rcases z with z | ⟨z, _⟩
    · rw [m] at z; cases z; rfl
    · rw [m] at z; cases z
  · rename_i q
    have m := PySem.W.mg_none_of X G q
    split at e
    · cases e
    · rename_i hn
      refine ⟨.inr ⟨m, e, fun z => hn (by rw [z]; rfl)⟩, fun u z => ?_⟩
      rcases z with z | ⟨_, z, _⟩
      · rw [m] at z; cases z
      · rw [e] at z; cases z; rfl
  · cases e
theorem tyVals_of {K : PySem.W.Frag} {adr : List (Str × Addr)} {t : Str} {u : Value} (h : TyNm ⟨K, fun c => adr.lookup c⟩ t u) : u ∈ tyVals adr t := by
  unfold tyVals
  rcases h with ⟨rfl, rfl⟩ | ⟨rfl, rfl⟩ | ⟨rfl, rfl⟩ | ⟨rfl, rfl⟩ | ⟨rfl, rfl⟩ | ⟨rfl, rfl⟩ | ⟨C, h, rfl⟩
  · exact List.mem_append_left _ List.mem_cons_self
  · exact List.mem_append_left _ List.mem_cons_self
  · exact List.mem_append_left _ List.mem_cons_self
  · exact List.mem_append_left _ List.mem_cons_self
  · exact List.mem_append_left _ List.mem_cons_self
  · exact List.mem_append_left _ List.mem_cons_self
  · have h : adr.lookup t = some C := h
    rw [h]
    exact List.mem_append_right _ List.mem_cons_self
theorem lookup_in {α : Type} {x : Str} {v : α} : ∀ {l : List (Str × α)}, l.lookup x = some v → (x, v) ∈ l
  | [], h => by cases h
  | (y, w) :: r, h => by
    rw [List.lookup_cons] at h
    cases q : x == y with
    | true => rw [q] at h; cases h; rw [beq_iff_eq.mp q]; exact List.mem_cons_self
    | false => rw [q] at h; exact List.mem_cons_of_mem _ (lookup_in h)
theorem lookup_some {α : Type} {x : Str} : ∀ {l : List (Str × α)}, x ∈ l.map (·.1) → ∃ v, l.lookup x = some v
  | [], h => by simp at h
  | (y, w) :: r, h => by
    rw [List.lookup_cons]
    cases q : x == y with
    | true => exact ⟨w, rfl⟩
    | false =>
      rcases List.mem_cons.mp h with z | z
      · have z : x = y := z
        rw [z] at q; simp at q
      · exact lookup_some z
section
variable {P : Program} {w : World} {K : PySem.W.Frag} {mg : Str → Option Value} {base : Heap} {adr : List (Str × Addr)} {t : Tab} {gs : List (Str × GM)} {N G cel : List Str} {k : Nat}
abbrev DK (K : PySem.W.Frag) (adr : List (Str × Addr)) : DP := ⟨K, fun c => adr.lookup c⟩
/-- the meanings' table is kept -/
def GsOk (P : Program) (w : World) (K : PySem.W.Frag) (mg : Str → Option Value) (base : Heap) (adr : List (Str × Addr)) (k : Nat) (gs : List (Str × GM)) : Prop := ∀ p ∈ gs, GlOkM (DK K adr) P w K mg base k p.1 p.2 ∧ (p.1 == ("__debug__" : Str)) = false
theorem GlOkM.mono {D : DP} {j k : Nat} {x : Str} {g : GM} (h : j ≤ k) (q : GlOkM D P w K mg base j x g) : GlOkM D P w K mg base k x g := by
  cases g with
  | fn f => obtain ⟨fa, fd, ps, kk, a, b, c, d, r⟩ := q; exact ⟨fa, fd, ps, kk, a, b, c, Nat.le_trans d h, r⟩
  | mk c f => obtain ⟨C, fI, fd, ps, kk, a, b, c, d, e, r⟩ := q; exact ⟨C, fI, fd, ps, kk, a, b, c, d, Nat.le_trans e h, r⟩
  | cst t => exact q
  | xcl => exact q
  | none => exact q
  | bad => exact q
theorem GsOk.mono {j k : Nat} (h : j ≤ k) (q : GsOk P w K mg base adr j gs) : GsOk P w K mg base adr k gs := fun p hp => ⟨(q p hp).1.mono h, (q p hp).2⟩
theorem GsOk.add {x : Str} {g : GM} (q : GsOk P w K mg base adr k gs) (h : GlOkM (DK K adr) P w K mg base k x g) (hx : (x == ("__debug__" : Str)) = false) : GsOk P w K mg base adr k ((x, g) :: gs) := fun p hp => by
  rcases List.mem_cons.mp hp with rfl | z
  · exact ⟨h, hx⟩
  · exact q p z
/-- the plain entries: Python's own names, exceptions' classes -/
def plainGs (bs xs : List Str) : List (Str × GM) := bs.map (fun x => (x, GM.none)) ++ xs.map (fun x => (x, GM.xcl))
def chkGs (K : PySem.W.Frag) (adr : List (Str × Addr)) (bs xs : List Str) : Bool :=
  bs.all (fun x => x != ("__debug__" : Str) && (match PySem.W.nsIn K mainGlobals x with | some none => true | _ => false)) &&
  xs.all (fun x => x != ("__debug__" : Str) && (match adr.lookup x, PySem.W.nsIn K mainGlobals x with | some C, some (some (.ref C')) => C == C' | _, _ => false))
theorem plainGs_ok {bs xs : List Str} (X : K.In base) (Gm : base.Ns mainGlobals mg) (h : chkGs K adr bs xs = true) (hxx : ∀ x ∈ xs, ∀ C, adr.lookup x = some C → PySem.W.excIn K C veMro "ValueError.__new__" = true) : GsOk P w K mg base adr k (plainGs bs xs) := by
  simp only [chkGs, Bool.and_eq_true, List.all_eq_true, bne_iff_ne, ne_eq] at h
  intro p hp
  rcases List.mem_append.mp hp with z | z
  · obtain ⟨x, hx, rfl⟩ := List.mem_map.mp z
    obtain ⟨h1, h2⟩ := h.1 x hx
    refine ⟨?_, beq_eq_false_iff_ne.mpr h1⟩
    split at h2
    · rename_i q; exact PySem.W.mg_none_of X Gm q
    · cases h2
  · obtain ⟨x, hx, rfl⟩ := List.mem_map.mp z
    obtain ⟨h1, h2⟩ := h.2 x hx
    refine ⟨?_, beq_eq_false_iff_ne.mpr h1⟩
    split at h2
    · rename_i C C' q1 q2
      have h2 : C = C' := beq_iff_eq.mp h2
      subst h2
      exact ⟨C, q1, PySem.W.mg_of X Gm q2, hxx x hx C q1⟩
    · cases h2
theorem md_of (X : K.In base) (Gm : base.Ns mainGlobals mg) (hc : chk K adr t = true) (q : GsOk P w K mg base adr k gs) : MdOk (DK K adr) P w K mg base (cn t gs N G cel) k := by
  simp only [chk, Bool.and_eq_true, List.all_eq_true] at hc
  obtain ⟨⟨⟨⟨c1, c2⟩, c3⟩, c4⟩, c5⟩ := hc
  have isin : ∀ {a c b}, t.isin a c = some b → (a, c, b) ∈ t.tb := fun {a c b} h => by
    obtain ⟨p, hp, rfl⟩ := Option.map_eq_some_iff.mp h
    have h1 := List.find?_some hp
    simp only [Bool.and_eq_true, beq_iff_eq] at h1
    have h2 := List.mem_of_find?_eq_some hp
    obtain ⟨p1, p2, p3⟩ := p
    obtain ⟨rfl, rfl⟩ := h1
    exact h2
  refine ⟨rfl, fun x hx => ?_, fun a c b h u v hu hv => ?_, fun c C f hf ha => ?_, fun c C hcx ha => ?_, fun c hcc => ?_, fun n c b Cn Cc h1 h2 h3 h4 h5 => ?_⟩
  · obtain ⟨g, hg⟩ := lookup_some (l := gs) hx
    have := q _ (lookup_in hg)
    refine ⟨?_, this.2⟩
    show GlOkM _ P w K mg base k x ((gs.lookup x).getD .bad)
    rw [hg]
    exact this.1
  · have h' := c1 _ (isin h)
    dsimp only at h'
    split at h'
    · rename_i v' q'
      have e := (clVal_of X Gm q').2 v hv
      subst e
      exact isB_of (List.all_eq_true.mp h' u (tyVals_of hu))
    · cases h'
  · have hf : ((t.fl.lookup c).getD []).contains f = true := hf
    cases hl : t.fl.lookup c with
    | none => rw [hl] at hf; cases hf
    | some fs =>
      rw [hl] at hf
      have h' := c2 _ (lookup_in hl)
      have ha : adr.lookup c = some C := ha
      rw [ha] at h'
      have h' := h' C (by simp)
      simp only [Bool.and_eq_true, List.all_eq_true] at h'
      obtain ⟨⟨⟨⟨h1, h2⟩, h3⟩, h4⟩, h5⟩ := h'
      refine ⟨⟨h1, h2, h3, ?_⟩, ?_⟩
      · split at h4
        · rename_i x q'; rw [q', beq_iff_eq.mp h4]
        · cases h4
      · have h5 := h5 f (by simpa using hf)
        split at h5
        · rename_i q'; exact q'
        · cases h5
  · have ha : adr.lookup c = some C := ha
    have hcx : t.xs.contains c = true := hcx
    have h' := c3 c (by simpa using hcx)
    rw [ha] at h'
    have h' := h' C (by simp)
    simp only [xclsB, Bool.and_eq_true] at h'
    obtain ⟨⟨⟨⟨⟨h1, h2⟩, h3⟩, h4⟩, h5⟩, h6⟩ := h'
    refine ⟨?_, ?_, ?_, ?_, ?_, h6⟩
    · split at h1
      · rename_i x q'; rw [q', beq_iff_eq.mp h1]
      · cases h1
    · split at h2
      · rename_i q'; exact q'
      · cases h2
    · split at h3
      · rename_i a b q'
        simp only [Bool.and_eq_true, beq_iff_eq] at h3
        rw [q', h3.1, h3.2]
      · cases h3
    · split at h4
      · rename_i b q'; rw [q', h4]
      · cases h4
    · split at h5
      · rename_i b q'; rw [q', h5]
      · cases h5
  · have hcc : t.cs.contains c = true := hcc
    have h' := c4 c (by simpa using hcc)
    try dsimp only at h'
    split at h'
    · rename_i v q'
      refine ⟨v, (match v with | .ref C => V.ref C | .type n => V.ty n | _ => V.non), (clVal_of X Gm q').1, ?_⟩
      cases v with
      | ref C => exact .inl ⟨C, rfl, rfl⟩
      | type n => exact .inr ⟨n, rfl, rfl⟩
      | _ => cases h'
    · cases h'
  · have h' := c5 _ (isin h3)
    have h1 : t.xs.contains n = true := h1
    have h2 : t.xs.contains c = true := h2
    have h4 : adr.lookup n = some Cn := h4
    have h5 : adr.lookup c = some Cc := h5
    try dsimp only at h'
    rw [h1, h2] at h'
    simp only [Bool.and_self, if_true, h4, h5] at h'
    exact isB_of h'
end
end NH
end
section
set_option linter.all false
set_option maxRecDepth 100000
set_option maxHeartbeats 4000000
namespace NH
open PySem
/-! small steps of the mirrors, put to work by refine -/
theorem bind_ok {α β : Type} {r : RE α} {k : α → Mem → RE β} {a : α} {μ : Mem} {x : RE β} (h : r = .ok a μ) (q : k a μ = x) : r.bind k = x := by subst h; exact q
theorem out_ok {α : Type} {r : RE α} {τ : Sl} {k : α → Mem → Out} {a : α} {μ : Mem} {x : Out} (h : r = .ok a μ) (q : k a μ = x) : r.out τ k = x := by subst h; exact q
theorem seq_nx {o : Out} {f : Sl → Mem → Out} {τ : Sl} {μ : Mem} {x : Out} (h : o = .nx τ μ) (q : f τ μ = x) : o.seq f = x := by subst h; exact q
theorem seq_rt {o : Out} {f : Sl → Mem → Out} {t : T} {μ : Mem} (h : o = .rt t μ) : o.seq f = .rt t μ := by subst h; rfl
theorem seq_ex {o : Out} {f : Sl → Mem → Out} {c : Str} {τ : Sl} {μ : Mem} (h : o = .ex c τ μ) : o.seq f = .ex c τ μ := by subst h; rfl
def Out.fin : Out → RE T
  | .nx _ μ => .ok .non μ
  | .rt t μ => .ok t μ
  | .ex c _ μ => .ex c μ
  | _ => .st
theorem runG_is {ps : List Str} {n : Nat} {Γ : Cn} {body : List Stmt} {ts : List T} {μ : Mem} {o : Out} (hl : ts.length = ps.length) (h : xss (ex n Γ) body (ts.map some ++ List.replicate (Γ.N.length - ts.length) none) μ = o) : runG ps n Γ body ts μ = o.fin := by
  unfold runG runF
  rw [if_pos hl, h]
  cases o <;> rfl
theorem xss_cons {x : Stmt → Sl → Mem → Out} {s : Stmt} {r : List Stmt} {τ : Sl} {μ : Mem} {o : Out} (h : (x s τ μ).seq (fun τ1 μ1 => xss x r τ1 μ1) = o) : xss x (s :: r) τ μ = o := h
section
variable {n : Nat} {Γ : Cn} {τ : Sl} {μ : Mem} {o : Out}
theorem ex_If {c : Expr} {a b : List Stmt} {p : Pos} {k : Bool} {μ1 : Mem} (h : evT (ev n Γ) n c τ μ = .ok k μ1) (q : (if k = true then xss (ex n Γ) a τ μ1 else xss (ex n Γ) b τ μ1) = o) : ex (n + 1) Γ (.If c a b p) τ μ = o := by
  show (evT (ev n Γ) n c τ μ).out τ _ = o
  exact out_ok h q
theorem ex_IfT {c : Expr} {a b : List Stmt} {p : Pos} {μ1 : Mem} (h : evT (ev n Γ) n c τ μ = .ok true μ1) (q : xss (ex n Γ) a τ μ1 = o) : ex (n + 1) Γ (.If c a b p) τ μ = o := ex_If h q
theorem ex_IfF {c : Expr} {a b : List Stmt} {p : Pos} {μ1 : Mem} (h : evT (ev n Γ) n c τ μ = .ok false μ1) (q : xss (ex n Γ) b τ μ1 = o) : ex (n + 1) Γ (.If c a b p) τ μ = o := ex_If h q
theorem evT_Not {f : Expr → Sl → Mem → RE T} {a : Expr} {p : Pos} {k : Bool} {μ1 : Mem} (h : evT f n a τ μ = .ok k μ1) : evT f (n + 1) (.UnaryOp .Not a p) τ μ = .ok (!k) μ1 := by
  show (evT f n a τ μ).bind _ = _
  exact bind_ok h rfl
theorem evT_And {f : Expr → Sl → Mem → RE T} {a b : Expr} {r : List Expr} {p : Pos} {k l : Bool} (h : evT f n a τ μ = .ok k μ) (q : evT f n (.BoolOp .And (b :: r) p) τ μ = .ok l μ) : evT f (n + 1) (.BoolOp .And (a :: b :: r) p) τ μ = .ok (k && l) μ := by
  show (evT f n a τ μ).bind _ = _
  refine bind_ok h ?_
  cases k with
  | true => exact q
  | false => rfl
theorem ev_bin {op : Operator} {a b : Expr} {p : Pos} {x y : T} {r : RE T} (h1 : ev n Γ a τ μ = .ok x μ) (h2 : ev n Γ b τ μ = .ok y μ) (h3 : binT op x y μ = r) : ev (n + 1) Γ (.BinOp a op b p) τ μ = r := by
  show (ev n Γ a τ μ).bind _ = r
  exact bind_ok h1 (bind_ok h2 h3)
theorem mul_r {i j : Int} (h : -18446744073709551616 < j ∧ j < 18446744073709551616) : binT .Mult (.int i) (.int j) μ = .ok (.int (i * j)) μ := if_pos (.inr h)
theorem mul_l {i j : Int} (h : -18446744073709551616 < i ∧ i < 18446744073709551616) : binT .Mult (.int i) (.int j) μ = .ok (.int (i * j)) μ := if_pos (.inl h)
theorem shr_is {i j : Int} (h : 0 ≤ j) : binT .RShift (.int i) (.int j) μ = .ok (.int (i / 2 ^ j.toNat)) μ := if_pos h
theorem mod_is {i j : Int} (h : 0 < j) : binT .Mod (.int i) (.int j) μ = .ok (.int (i % j)) μ := if_pos h
theorem evO_is {x : Str} {e : Expr} (ho : Γ.own.contains x = false) : evO n Γ x e τ μ = ev n Γ e τ μ := by unfold evO; rw [ho]; rfl
theorem evO_own {x : Str} {e : Expr} (ho : Γ.own.contains x = true) : evO n Γ x e τ μ = evM n Γ e τ μ := by unfold evO; rw [ho]; rfl
theorem ex_setO {x : Str} {p p2 : Pos} {e : Expr} {t : T} {i : Nat} {μ1 : Mem} (hi : idx Γ.N x = some i) (h : evO n Γ x e τ μ = .ok t μ1) : ex (n + 1) Γ (.Assign [.Name x p] e p2) τ μ = .nx (τ.set i (some t)) μ1 := by
  show (if (idx Γ.N x).isSome = true then (evO n Γ x e τ μ).out τ _ else .st) = _
  rw [if_pos (by rw [hi]; rfl)]
  refine out_ok h ?_
  simp only [asgT, hi, Option.map_some]
theorem ex_set {x : Str} {p p2 : Pos} {e : Expr} {t : T} {i : Nat} {μ1 : Mem} (hi : idx Γ.N x = some i) (h : ev n Γ e τ μ = .ok t μ1) (ho : Γ.own.contains x = false := by rfl) : ex (n + 1) Γ (.Assign [.Name x p] e p2) τ μ = .nx (τ.set i (some t)) μ1 := by
  show (if (idx Γ.N x).isSome = true then (evO n Γ x e τ μ).out τ _ else .st) = _
  rw [if_pos (by rw [hi]; rfl), evO_is ho]
  refine out_ok h ?_
  simp only [asgT, hi, Option.map_some]
theorem ex_ret {e : Expr} {p : Pos} {t : T} {μ1 : Mem} (h : ev n Γ e τ μ = .ok t μ1) (ho : Γ.own.contains "return" = false := by rfl) : ex (n + 1) Γ (.Return (some e) p) τ μ = .rt t μ1 := by
  show (evO n Γ "return" e τ μ).out τ _ = _
  rw [evO_is ho]
  exact out_ok h rfl
theorem evT_cmp {m : Nat} {a : Expr} {ops : List CmpOp} {cs : List Expr} {p : Pos} {k : Bool} (h : ev n Γ (.Compare a ops cs p) τ μ = .ok (.bl k) μ) : evT (ev n Γ) (m + 1) (.Compare a ops cs p) τ μ = .ok k μ := by
  show (ev n Γ (.Compare a ops cs p) τ μ).bind truT = _
  exact bind_ok h rfl
theorem ev_cmp {op : CmpOp} {a b : Expr} {p : Pos} {x y : T} {r : RE T} (hp : okCmp op b = true) (h1 : ev n Γ a τ μ = .ok x μ) (h2 : ev n Γ b τ μ = .ok y μ) (h3 : cmpT op x y μ = r) : ev (n + 1) Γ (.Compare a [op] [b] p) τ μ = r := by
  show (if (!okCmp op b) = true then .st else (ev n Γ a τ μ).bind _) = r
  rw [hp]
  exact bind_ok h1 (bind_ok h2 h3)
theorem ev_call {x : Str} {p q : Pos} {args : List Expr} {g : List T → Mem → RE T} {ts : List T} {r : RE T} (hN : (idx Γ.N x).isNone = true) (hl : Γ.look x = .fn g) (hs : args.all noStar = true) (hc : Γ.calm = true) (ha : evL (ev n Γ) args τ μ = .ok ts μ) (hg : g ts μ = r) : ev (n + 1) Γ (.Call (.Name x p) args [] q) τ μ = r := by
  show (if ((idx Γ.N x).isNone && args.all noStar) = true then (match Γ.look x with
    | .fn g => if Γ.calm = true then (evL (ev n Γ) args τ μ).bind g else .st
    | .mk c g => if Γ.calm = true then (evL (ev n Γ) args τ μ).bind (frozenMk c g) else .st
    | .none => _
    | _ => .st) else .st) = r
  rw [hN, hs, hl, hc]
  exact bind_ok ha hg
theorem ev_mk {x c : Str} {p q : Pos} {args : List Expr} {g : List T → Mem → RE T} {ts : List T} {r : RE T} (hN : (idx Γ.N x).isNone = true) (hl : Γ.look x = .mk c g) (hs : args.all noStar = true) (hc : Γ.calm = true) (ha : evL (ev n Γ) args τ μ = .ok ts μ) (hg : frozenMk c g ts μ = r) : ev (n + 1) Γ (.Call (.Name x p) args [] q) τ μ = r := by
  show (if ((idx Γ.N x).isNone && args.all noStar) = true then (match Γ.look x with
    | .fn g => if Γ.calm = true then (evL (ev n Γ) args τ μ).bind g else .st
    | .mk c g => if Γ.calm = true then (evL (ev n Γ) args τ μ).bind (frozenMk c g) else .st
    | .none => _
    | _ => .st) else .st) = r
  rw [hN, hs, hl, hc]
  exact bind_ok ha hg
theorem ex_For {tg iter : Expr} {body : List Stmt} {p : Pos} {xs : List T} (hc : Γ.calm = true) (ht : tgIn Γ.N tg = true) (hi : evIter Γ (ev n Γ) iter τ μ = .ok xs μ) (q : forM (asg Γ.N tg) (xss (ex n Γ) body) xs τ μ = o) : ex (n + 1) Γ (.For tg iter body [] p) τ μ = o := by
  show (if (Γ.calm && tgIn Γ.N tg) = true then (evIter Γ (ev n Γ) iter τ μ).out τ _ else .st) = o
  rw [hc, ht]
  exact out_ok hi q
theorem forM_cons {asgn : T → Sl → Option Sl} {body : Sl → Mem → Out} {x : T} {r : List T} {τ' τ2 : Sl} {μ2 : Mem} (h1 : asgn x τ = some τ') (h2 : body τ' μ = .nx τ2 μ2) (q : forM asgn body r τ2 μ2 = o) : forM asgn body (x :: r) τ μ = o := by
  simp only [forM, h1, h2]
  exact q
theorem forM_nil {asgn : T → Sl → Option Sl} {body : Sl → Mem → Out} : forM asgn body [] τ μ = .nx τ μ := rfl
theorem ixAt_is {α : Type} {xs : List α} {i : Int} (h0 : 0 ≤ i) (h1 : i < xs.length) : ixAt xs i = xs[i.toNat]? := by
  unfold ixAt ixNo
  rw [if_pos h0, if_pos h1]
  rfl
theorem evL_cons {f : Expr → Sl → Mem → RE T} {e : Expr} {r : List Expr} {t : T} {ts : List T} (h1 : f e τ μ = .ok t μ) (h2 : evL f r τ μ = .ok ts μ) : evL f (e :: r) τ μ = .ok (t :: ts) μ := bind_ok h1 (bind_ok h2 rfl)
theorem evT_call {f : Expr → Sl → Mem → RE T} {a : Expr} {b : List Expr} {c : List Keyword} {p : Pos} {k : Bool} (h : f (.Call a b c p) τ μ = .ok (.bl k) μ) : evT f (n + 1) (.Call a b c p) τ μ = .ok k μ := bind_ok h rfl
theorem ex_expr {e : Expr} {p : Pos} {t : T} (hn : ∀ a b c d, e ≠ .ListComp a b c d) (h : ev n Γ e τ μ = .ok t μ) : ex (n + 1) Γ (.Expr e p) τ μ = .nx τ μ := by
  cases e <;> first | exact absurd rfl (hn _ _ _ _) | exact out_ok h rfl
section
variable {body suite : List Stmt} {b0 : Stmt} {c e : Str} {p q r : Pos} (hc : (Γ.calm && (idx Γ.N c).isNone && !Γ.cel.contains e && Γ.xcs.contains c) = true) (hl : Γ.look c = .xcl)
include hc hl
end
theorem ev_comp {elt tg iter : Expr} {sc : Scope} {p : Pos} {xs ys : List T} (hc : (Γ.calm && compOk Γ.N Γ.cel tg sc) = true) (hi : evIter Γ (ev n Γ) iter τ μ = .ok xs μ) (hr : xs.length ≤ room)
    (h : compM (asg (tgNames tg ++ frees sc) tg) (ev n (inComp Γ tg sc) elt) ((tgNames tg).map (fun _ => none) ++ selT Γ.N τ (frees sc)) xs μ = .ok ys μ) : ev (n + 1) Γ (.ListComp elt [⟨tg, iter, [], 0⟩] sc p) τ μ = .ok (.lst ys) μ := by
  show (if (Γ.calm && compOk Γ.N Γ.cel tg sc) = true then (evIter Γ (ev n Γ) iter τ μ).bind _ else RE.st) = _
  rw [hc]
  refine bind_ok hi ?_
  show (if xs.length ≤ room then _ else RE.st) = _
  rw [if_pos hr, h]
  rfl
theorem compM_step {asgn : T → Sl → Option Sl} {f : Sl → Mem → RE T} {x y : T} {r ys : List T} {τ' : Sl} (h1 : asgn x τ = some τ') (h2 : f τ' μ = .ok y μ) (h3 : compM asgn f τ r μ = .ok ys μ) : compM asgn f τ (x :: r) μ = .ok (y :: ys) μ := by
  simp only [compM, h1]
  exact bind_ok h2 (bind_ok h3 rfl)
end
end NH
end
section
set_option linter.all false
set_option maxRecDepth 100000
set_option maxHeartbeats 4000000
namespace NH
open PySem PySem.Spec PyProof.Rows L2
/-- a def of trees alone is as well told by its own store -/
theorem fn_pure {D : DP} {P : Program} {w : World} {K : PySem.W.Frag} {mg : Str → Option Value} {base : Heap} {k n : Nat} {fa : Addr} {fd : FuncData} {ps : List Str} {f : List T → Mem → RE T}
    (F : FnOk P w K mg base (CX1 P w) k fa fd ps (spN D n f)) : FnOk P w K mg base (CX1 P w) k fa fd ps (spN D n (pureFn f)) := by
  refine F.imp ?_
  rintro vs H Q E ⟨hl, φ, α, ts, μ, d, m, p⟩
  unfold pureFn at p
  by_cases hp : pureL ts = true
  · rw [if_pos hp] at p
    refine ⟨hl, φ ++ α, [], ts, [], DenL.hide hp d, MRel.nil D fun b hb => ?_, ?_⟩
    · rcases List.mem_append.mp hb with h | h
      · exact m.phi b h
      · obtain ⟨i, hi⟩ := List.mem_iff_getElem?.mp h
        have hl : i < μ.length := by rw [← m.len]; exact (List.getElem?_eq_some_iff.mp hi).1
        exact (m.ob i b μ[i] hi (by simp [hl])).some
    · have same : ∀ {β : List Addr} {H' : Hp}, Stp [] H β H' → Same H H' := fun st b o e => st.keep b o (by simp) e
      cases hf : f ts [] with
      | ok t μ1 =>
        rw [hf] at p
        intro β H' st m' v dv
        by_cases ht : pureT t = true
        · dsimp only at p
          rw [if_pos ht] at p
          exact p α H' (Stp.new (same st)) (m.new (same st)) v (Den.back ht dv)
        · dsimp only at p
          rw [if_neg ht] at p
          exact p.elim
      | ex c μ1 =>
        rw [hf] at p
        exact fun β H' C st m' ad => p α H' C (Stp.new (same st)) (m.new (same st)) ad
      | st => rw [hf] at p; exact p
  · rw [if_neg hp] at p
    exact p.elim
theorem pureFn_len {ps : List Str} {n : Nat} {Γ : Cn} {body : List Stmt} {ts : List T} {μ : Mem} (h : ts.length ≠ ps.length) : pureFn (runG ps n Γ body) ts μ = .st := by
  unfold pureFn
  by_cases hp : pureL ts = true
  · rw [if_pos hp, runG_len h]
  · rw [if_neg hp]
theorem pureFn_ok {f : List T → Mem → RE T} {ts : List T} {t : T} {μ μ1 : Mem} (hp : pureL ts = true) (h : f ts [] = .ok t μ1) (ht : pureT t = true) : pureFn f ts μ = .ok t μ := by
  unfold pureFn
  rw [if_pos hp, h]
  exact if_pos ht
/-- a def's context whose lists of the names o are the store's -/
def cnO (o : List Str) (t : Tab) (gs : List (Str × GM)) (N G cel : List Str) : Cn := { cn t gs N G cel with own := o }
theorem md_ofO {P : Program} {w : World} {K : PySem.W.Frag} {mg : Str → Option Value} {base : Heap} {adr : List (Str × Addr)} {t : Tab} {gs : List (Str × GM)} {N G cel o : List Str} {k : Nat} (X : K.In base) (Gm : base.Ns mainGlobals mg) (hc : chk K adr t = true) (q : GsOk P w K mg base adr k gs) : MdOk (DK K adr) P w K mg base (cnO o t gs N G cel) k := by
  have M := md_of (N := N) (G := G) (cel := cel) X Gm hc q
  exact ⟨M.hK, M.glo, M.isi, M.fld, M.xcx, M.clv, M.xmt⟩
section
variable {n : Nat} {Γ : Cn} {τ : Sl} {μ : Mem} {o : Out}
/-- a call of a def -/
theorem CL {x : Str} {p q : Pos} {args : List Expr} {g : List T → Mem → RE T} {ts : List T} {r : RE T} (hg : g ts μ = r) (ha : evL (ev n Γ) args τ μ = .ok ts μ := by rfl) (hl : Γ.look x = .fn g := by rfl) (hN : (idx Γ.N x).isNone = true := by rfl) (hs : args.all noStar = true := by rfl) (hc : Γ.calm = true := by rfl) : ev (n + 1) Γ (.Call (.Name x p) args [] q) τ μ = r := ev_call hN hl hs hc ha hg
theorem ev_cmp2T {op op' : CmpOp} {a b c : Expr} {p : Pos} {x y z : T} {r : RE T} (h1 : ev n Γ a τ μ = .ok x μ) (h2 : ev n Γ b τ μ = .ok y μ) (h3 : cmpT op x y μ = .ok (.bl true) μ) (h4 : ev n Γ c τ μ = .ok z μ) (h5 : cmpT op' y z μ = r) (hp : (bySize op && bySize op') = true := by rfl) : ev (n + 1) Γ (.Compare a [op, op'] [b, c] p) τ μ = r := by
  show (if (!(bySize op && bySize op')) = true then .st else (ev n Γ a τ μ).bind _) = r
  rw [hp]
  refine bind_ok h1 (bind_ok h2 (bind_ok h3 ?_))
  exact bind_ok h4 h5
theorem ev_cmp2F {op op' : CmpOp} {a b c : Expr} {p : Pos} {x y : T} (h1 : ev n Γ a τ μ = .ok x μ) (h2 : ev n Γ b τ μ = .ok y μ) (h3 : cmpT op x y μ = .ok (.bl false) μ) (hp : (bySize op && bySize op') = true := by rfl) : ev (n + 1) Γ (.Compare a [op, op'] [b, c] p) τ μ = .ok (.bl false) μ := by
  show (if (!(bySize op && bySize op')) = true then .st else (ev n Γ a τ μ).bind _) = _
  rw [hp]
  refine bind_ok h1 (bind_ok h2 (bind_ok h3 rfl))
theorem ev_andT {a b : Expr} {r : List Expr} {p : Pos} {x : RE T} (h : ev n Γ a τ μ = .ok (.bl true) μ) (q : ev n Γ (.BoolOp .And (b :: r) p) τ μ = x) : ev (n + 1) Γ (.BoolOp .And (a :: b :: r) p) τ μ = x := bind_ok h q
theorem ev_and1 {a : Expr} {p : Pos} {x : RE T} (h : ev n Γ a τ μ = x) : ev (n + 1) Γ (.BoolOp .And [a] p) τ μ = x := h
theorem evT_OrF {f : Expr → Sl → Mem → RE T} {a b : Expr} {r : List Expr} {p : Pos} {x : RE Bool} (h : evT f n a τ μ = .ok false μ) (q : evT f n (.BoolOp .Or (b :: r) p) τ μ = x) : evT f (n + 1) (.BoolOp .Or (a :: b :: r) p) τ μ = x := bind_ok h q
theorem evT_Or1 {f : Expr → Sl → Mem → RE T} {a : Expr} {p : Pos} {x : RE Bool} (h : evT f n a τ μ = x) : evT f (n + 1) (.BoolOp .Or [a] p) τ μ = x := h
theorem evT_NotF {f : Expr → Sl → Mem → RE T} {a : Expr} {p : Pos} {μ1 : Mem} (h : evT f n a τ μ = .ok true μ1) : evT f (n + 1) (.UnaryOp .Not a p) τ μ = .ok false μ1 := evT_Not h
theorem evT_AndT {f : Expr → Sl → Mem → RE T} {a b : Expr} {r : List Expr} {p : Pos} {x : RE Bool} (h : evT f n a τ μ = .ok true μ) (q : evT f n (.BoolOp .And (b :: r) p) τ μ = x) : evT f (n + 1) (.BoolOp .And (a :: b :: r) p) τ μ = x := bind_ok h q
theorem evT_AndF {f : Expr → Sl → Mem → RE T} {a b : Expr} {r : List Expr} {p : Pos} (h : evT f n a τ μ = .ok false μ) : evT f (n + 1) (.BoolOp .And (a :: b :: r) p) τ μ = .ok false μ := bind_ok h rfl
theorem evT_And1 {f : Expr → Sl → Mem → RE T} {a : Expr} {p : Pos} {x : RE Bool} (h : evT f n a τ μ = x) : evT f (n + 1) (.BoolOp .And [a] p) τ μ = x := h
theorem div_is {i j : Int} (h : 0 < j ∧ j < 1073741824) : binT .FloorDiv (.int i) (.int j) μ = .ok (.int (i / j)) μ := if_pos h
theorem lt_is {i j : Int} {b : Bool} (h : decide (i < j) = b) : cmpT .Lt (.int i) (.int j) μ = .ok (.bl b) μ := by subst h; rfl
theorem le_is {i j : Int} {b : Bool} (h : decide (i ≤ j) = b) : cmpT .LtE (.int i) (.int j) μ = .ok (.bl b) μ := by subst h; rfl
theorem gt_is {i j : Int} {b : Bool} (h : decide (j < i) = b) : cmpT .Gt (.int i) (.int j) μ = .ok (.bl b) μ := by subst h; rfl
theorem ge_is {i j : Int} {b : Bool} (h : decide (j ≤ i) = b) : cmpT .GtE (.int i) (.int j) μ = .ok (.bl b) μ := by subst h; rfl
theorem eqi_is {i j : Int} {b : Bool} (h : decide (i = j) = b) : cmpT .Eq (.int i) (.int j) μ = .ok (.bl b) μ := by subst h; rfl
theorem nei_is {i j : Int} {b : Bool} (h : (!decide (i = j)) = b) : cmpT .NotEq (.int i) (.int j) μ = .ok (.bl b) μ := by subst h; rfl
theorem ev_ix {a b : Expr} {p : Pos} {x y : T} {r : RE T} (hb : plainIx b = true) (hs : ∀ lo hi st q, b ≠ .Slice lo hi st q) (h1 : ev n Γ a τ μ = .ok x μ) (h2 : ev n Γ b τ μ = .ok y μ) (h3 : itemT x y μ = r) : ev (n + 1) Γ (.Subscript a b p) τ μ = r := by
  have e : ev (n + 1) Γ (.Subscript a b p) τ μ = if plainIx b = true then (ev n Γ a τ μ).bind fun x μ1 => (ev n Γ b τ μ1).bind fun y μ2 => itemT x y μ2 else .st := by
    cases b <;> first | rfl | exact absurd rfl (hs _ _ _ _)
  rw [e, if_pos hb]
  exact bind_ok h1 (bind_ok h2 h3)
theorem item_lst {xs : List T} {i : Int} {t : T} (h : ixAt xs i = some t) : itemT (.lst xs) (.int i) μ = .ok t μ := by
  show (match ixAt xs i with | some v => RE.ok v μ | none => RE.st) = _
  rw [h]
theorem ev_rng {a : Expr} {p q : Pos} {L : Nat} (h : ev n Γ a τ μ = .ok (.int L) μ) (hl : L < 4611686018427387904) (hN : (idx Γ.N "range").isNone = true := by rfl) (hg : Γ.look "range" = .none := by rfl) : evIter Γ (ev n Γ) (.Call (.Name "range" p) [a] [] q) τ μ = .ok (rangeT L) μ := by
  show (if (idx Γ.N "range").isNone = true then (match Γ.look "range" with | .none => (ev n Γ a τ μ).bind _ | _ => RE.st) else RE.st) = _
  rw [hN, hg]
  refine bind_ok h ?_
  exact if_pos ⟨by omega, by omega⟩
/-- xs.append(e), as a statement -/
theorem ex_app {o1 : Str} {po pa pc pe : Pos} {a : Expr} {i : Nat} {t : T} {ts : List T} {μ1 : Mem} (h1 : ev (n + 1) Γ (.Name o1 po) τ μ = .ok (.mut i) μ) (h2 : μ[i]? = some (.lst ts)) (h3 : ev (n + 1) Γ a τ μ = .ok t μ) (h4 : ts.length < room) (h5 : μ.set i (.lst (ts ++ [t])) = μ1) (hc : (("append" : Str) == ("append" : Str) && noStar a && pa.endLine == pc.line) = true := by rfl) :
    ex (n + 3) Γ (.Expr (.Call (.Attribute (.Name o1 po) "append" pa) [a] [] pc) pe) τ μ = .nx τ μ1 := by
  show ((if (("append" : Str) == ("append" : Str) && noStar a && pa.endLine == pc.line) = true then (ev (n + 1) Γ (.Name o1 po) τ μ).bind _ else RE.st) : RE T).out τ _ = _
  rw [hc]
  refine out_ok (a := .non) (μ := μ1) (bind_ok h1 ?_) rfl
  have e : isLst (.mut i) μ = some i := by
    show (match μ[i]? with | some (.lst _) => some i | _ => none) = _
    rw [h2]
  show (match isLst (.mut i) μ with | some i => (ev (n + 1) Γ a τ μ).bind fun t μ2 => appT i t μ2 | none => RE.st) = _
  rw [e]
  refine bind_ok h3 ?_
  unfold appT
  rw [h2]
  show (if ts.length < room then RE.ok T.non (μ.set i (.lst (ts ++ [t]))) else RE.st) = _
  rw [if_pos h4, h5]
end
end NH
end
section
set_option linter.all false
set_option maxRecDepth 100000
set_option maxHeartbeats 4000000
namespace NH.K11
open PySem PySem.Spec PyProof.Rows L2 NH
def st (i : Nat) : Stmt := PySem.Challenge.pw_namehouses_k11_names_as_texts.main.body.getD i (.Pass ⟨0, 0, 0, 0⟩)
def tab : Tab where
  xs := ["HouseError", "NoShape", "NoName"]
  tb := [("NoneType", "bool", false), ("bool", "bool", true), ("int", "bool", false), ("str", "bool", false), ("tuple", "bool", false), ("list", "bool", false), ("NoneType", "int", false), ("bool", "int", true), ("int", "int", true), ("str", "int", false), ("tuple", "int", false), ("list", "int", false), ("NoneType", "str", false), ("bool", "str", false), ("int", "str", false), ("str", "str", true), ("tuple", "str", false), ("list", "str", false)]
  cs := ["bool", "int", "str"]
  fl := [("Shape", ["moments", "houses", "counts"])]
def gs0 : List (Str × GM) := plainGs ["ValueError", "all", "bool", "int", "isinstance", "len", "range", "reversed", "str"] ["HouseError", "NoShape", "NoName"]
def s_is_whole := st 6
def g_is_whole : Cn := cn tab gs0 ["thing"] ["isinstance", "int", "bool"] []
def m_is_whole := runG ["thing"] 60 g_is_whole (defBody s_is_whole)
def gs1 : List (Str × GM) := ("is_whole", GM.fn (m_is_whole)) :: gs0
def s_is_size := st 7
def g_is_size : Cn := cn tab gs1 ["thing"] ["is_whole"] []
def m_is_size := runG ["thing"] 60 g_is_size (defBody s_is_size)
def gs2 : List (Str × GM) := ("is_size", GM.fn (m_is_size)) :: gs1
def s_is_below := st 8
def g_is_below : Cn := cn tab gs2 ["thing", "bound"] ["is_whole"] []
def m_is_below := runG ["thing", "bound"] 60 g_is_below (defBody s_is_below)
def gs3 : List (Str × GM) := ("is_below", GM.fn (m_is_below)) :: gs2
def s_Shape := inClass (st 9) 0
def g_Shape : Cn := cn tab gs3 ["self", "moments", "houses", "counts"] ["is_size", "NoShape"] []
def m_Shape := runG ["self", "moments", "houses", "counts"] 60 g_Shape (defBody s_Shape)
def gs4 : List (Str × GM) := ("Shape", GM.mk "Shape" m_Shape) :: gs3
def s_names_in := st 10
def g_names_in : Cn := cn tab gs4 ["shape"] [] []
def m_names_in := runG ["shape"] 60 g_names_in (defBody s_names_in)
def gs5 : List (Str × GM) := ("names_in", GM.fn (m_names_in)) :: gs4
def s_is_name := st 11
def g_is_name : Cn := cn tab gs5 ["shape", "thing"] ["is_below", "names_in"] []
def m_is_name := runG ["shape", "thing"] 60 g_is_name (defBody s_is_name)
def gs6 : List (Str × GM) := ("is_name", GM.fn (m_is_name)) :: gs5
def s_check_name := st 12
def g_check_name : Cn := cn tab gs6 ["shape", "thing"] ["is_name", "NoName"] []
def m_check_name := runG ["shape", "thing"] 60 g_check_name (defBody s_check_name)
def gs7 : List (Str × GM) := ("check_name", GM.fn (m_check_name)) :: gs6
def gs8 : List (Str × GM) := ("SIGNS", GM.cst (.str "0123456789abcdefghjkmnpqrstvwxyz")) :: gs7
def gs9 : List (Str × GM) := ("BASE", GM.cst (.int 32)) :: gs8
def s_length_for := st 16
def g_length_for : Cn := cn tab gs9 ["many", "length", "room"] ["BASE"] []
def m_length_for := runG ["many"] 60 g_length_for (defBody s_length_for)
def gs10 : List (Str × GM) := ("length_for", GM.fn (m_length_for)) :: gs9
def s_word_of := st 17
def g_word_of : Cn := cnO ["signs"] tab gs10 ["number", "length", "signs", "rest", "place"] ["range", "SIGNS", "BASE", "reversed"] []
def m_word_of := runG ["number", "length"] 60 g_word_of (defBody s_word_of)
def gs11 : List (Str × GM) := ("word_of", GM.fn (pureFn m_word_of)) :: gs10
def s_is_word := st 18
def g_is_word : Cn := cn tab gs11 ["thing", "length"] ["isinstance", "str", "len", "all"] []
def m_is_word := runG ["thing", "length"] 60 g_is_word (defBody s_is_word)
def gs12 : List (Str × GM) := ("is_word", GM.fn (m_is_word)) :: gs11
def s_number_of := st 19
def g_number_of : Cn := cn tab gs12 ["word", "number", "sign"] ["BASE", "SIGNS"] []
def m_number_of := runG ["word"] 60 g_number_of (defBody s_number_of)
def gs13 : List (Str × GM) := ("number_of", GM.fn (m_number_of)) :: gs12
def s_width := st 21
def g_width : Cn := cn tab gs13 ["shape"] ["length_for", "names_in"] []
def m_width := runG ["shape"] 60 g_width (defBody s_width)
def gs14 : List (Str × GM) := ("width", GM.fn (m_width)) :: gs13
def s_show_name := st 22
def g_show_name : Cn := cn tab gs14 ["shape", "name"] ["check_name", "word_of", "width"] []
def m_show_name := runG ["shape", "name"] 60 g_show_name (defBody s_show_name)
def gs15 : List (Str × GM) := ("show_name", GM.fn (m_show_name)) :: gs14
def s_read_name := st 23
def g_read_name : Cn := cn tab gs15 ["shape", "text", "name"] ["is_word", "width", "number_of", "is_name"] []
def m_read_name := runG ["shape", "text"] 60 g_read_name (defBody s_read_name)
def gs16 : List (Str × GM) := ("read_name", GM.fn (m_read_name)) :: gs15
def s_l_begin := st 26
def g_l_begin : Cn := cnO ["return"] tab gs16 ["_law_cell"] [] []
def m_l_begin := runG ["_law_cell"] 60 g_l_begin (defBody s_l_begin)
def gs17 : List (Str × GM) := ("_law_begin", GM.fn (m_l_begin)) :: gs16
def s_l_next := st 27
def g_l_next : Cn := cn tab gs17 ["_law_state", "_law_base", "_law_found", "_law_number"] [] []
def m_l_next := runG ["_law_state", "_law_base"] 60 g_l_next (defBody s_l_next)
def gs18 : List (Str × GM) := ("_law_next", GM.fn (m_l_next)) :: gs17
def s_l_big := st 28
def g_l_big : Cn := cn tab gs18 ["_law_state", "_law_far"] ["_law_next"] []
def m_l_big := runG ["_law_state"] 60 g_l_big (defBody s_l_big)
def gs19 : List (Str × GM) := ("_law_big", GM.fn (m_l_big)) :: gs18
def s_l_shape := st 29
def g_l_shape : Cn := cn tab gs19 ["_law_state", "_law_sizes"] ["_law_big", "_law_next"] []
def m_l_shape := runG ["_law_state"] 60 g_l_shape (defBody s_l_shape)
def gs20 : List (Str × GM) := ("_law_shape", GM.fn (m_l_shape)) :: gs19
def s_l_name := st 30
def g_l_name : Cn := cn tab gs20 ["_law_state", "_law_sizes", "_law_many", "_law_way"] ["_law_next", "_law_big"] []
def m_l_name := runG ["_law_state", "_law_sizes"] 60 g_l_name (defBody s_l_name)
def gs21 : List (Str × GM) := ("_law_name", GM.fn (m_l_name)) :: gs20
def s_l_width := st 31
def g_l_width : Cn := cn tab gs21 ["_law_sizes", "_law_many", "_law_found"] [] []
def m_l_width := runG ["_law_sizes"] 60 g_l_width (defBody s_l_width)
def gs22 : List (Str × GM) := ("_law_width", GM.fn (m_l_width)) :: gs21
def s_l_text := st 32
def g_l_text : Cn := cn tab gs22 ["_law_sizes", "_law_name_here", "_law_signs", "_law_text_here", "_law_place"] ["range", "_law_width"] []
def m_l_text := runG ["_law_sizes", "_law_name_here"] 60 g_l_text (defBody s_l_text)
def gs23 : List (Str × GM) := ("_law_text", GM.fn (m_l_text)) :: gs22
def s_l_right := st 33
def g_l_right : Cn := cn tab gs23 ["_law_shape_here", "_law_sizes", "_law_names", "_law_told", "_law_name_here", "_law_text_here", "_law_found"] ["width", "isinstance", "int", "bool", "_law_width", "_law_text", "show_name", "read_name"] []
def m_l_right := runG ["_law_shape_here", "_law_sizes", "_law_names"] 60 g_l_right (defBody s_l_right)
def gs24 : List (Str × GM) := ("_law_right", GM.fn (m_l_right)) :: gs23
def s_law := st 34
def g_law : Cn := cn tab gs24 ["_law_script", "_law_ahead", "_law_cell", "_law_state", "_law_sizes", "_law_shape_here", "_law_k", "_law_names"] ["_law_begin", "_law_shape", "Shape", "range", "_law_right"] ["_law_state", "_law_sizes"]
def m_law := runG ["_law_script"] 60 g_law (defBody s_law)
def gs25 : List (Str × GM) := ("law", GM.fn (m_law)) :: gs24
end NH.K11
end
section
set_option linter.all false
set_option maxRecDepth 100000
set_option maxHeartbeats 4000000
namespace NH.K11
open PySem PySem.Spec PyProof.Rows L2 NH
/-- whole numbers, among what is asked -/
def whole : T → Bool
  | .int _ => true
  | _ => false
def plainA : T → Bool
  | .int _ => true | .bl _ => true | .non => true | .str _ => true | .tup _ => true | .lst _ => true
  | _ => false
theorem is_whole_is {t : T} {μ : Mem} (h : plainA t = true) : m_is_whole [t] μ = .ok (.bl (whole t)) μ := by
  cases t <;> first | rfl | cases h
def size : T → Bool
  | .int i => decide (1 ≤ i)
  | _ => false
theorem is_size_is {t : T} {μ : Mem} (h : plainA t = true) : m_is_size [t] μ = .ok (.bl (size t)) μ := by
  cases t <;> first | rfl | cases h
def below (t : T) (b : Int) : Bool := match t with
  | .int i => decide (0 ≤ i) && decide (i < b)
  | _ => false
theorem is_below_is {t : T} {b : Int} {μ : Mem} (h : plainA t = true) : m_is_below [t, .int b] μ = .ok (.bl (below t b)) μ := by
  cases t with
  | int i =>
    by_cases h0 : 0 ≤ i
    · have e : below (.int i) b = decide (i < b) := by simp [below, h0]
      rw [e]
      exact runG_is (o := .rt (.bl (decide (i < b))) μ) rfl (xss_cons (seq_rt (ex_ret (μ1 := μ) (ev_andT (CL (is_whole_is (t := .int i) rfl)) (ev_and1 (ev_cmp2T (x := .int 0) (y := .int i) (z := .int b) rfl rfl (le_is (decide_eq_true h0)) rfl (lt_is rfl)))))))
    · have e : below (.int i) b = false := by simp [below, h0]
      rw [e]
      exact runG_is (o := .rt (.bl false) μ) rfl (xss_cons (seq_rt (ex_ret (μ1 := μ) (ev_andT (CL (is_whole_is (t := .int i) rfl)) (ev_and1 (ev_cmp2F (x := .int 0) (y := .int i) rfl rfl (le_is (decide_eq_false h0))))))))
  | non => rfl
  | bl b => rfl
  | str x => rfl
  | tup ts => rfl
  | lst ts => rfl
  | _ => cases h
theorem Shape_is {a b c : T} (ha : plainA a = true) (hb : plainA b = true) (hc : plainA c = true) :
    m_Shape [.mut 0, a, b, c] [.obj "Shape" []] = if (size a && (size b && size c)) = true then .ok .non [.obj "Shape" [("moments", a), ("houses", b), ("counts", c)]] else .ex "NoShape" [.obj "Shape" []] := by
  have A : ∀ τ, τ = [some (T.mut 0), some a, some b, some c] → evT (ev 59 g_Shape) 59 (match defBody s_Shape with | .If c _ _ _ :: _ => c | _ => .Constant .none 0 ⟨0, 0, 0, 0⟩) τ [.obj "Shape" []] = .ok (!(size a && (size b && size c))) [.obj "Shape" []] := by
    rintro τ rfl
    refine evT_Not (evT_And ?_ (evT_And ?_ ?_))
    · exact evT_call (CL (is_size_is ha))
    · exact evT_call (CL (is_size_is hb))
    · exact evT_And1 (evT_call (CL (is_size_is hc)))
  cases hq : (size a && (size b && size c)) with
  | true =>
    rw [hq] at A
    exact (runG_is rfl (xss_cons (seq_nx (ex_If (A _ rfl) rfl) rfl))).trans rfl
  | false =>
    rw [hq] at A
    exact (runG_is rfl (xss_cons (seq_ex (ex_If (A _ rfl) rfl)))).trans rfl
theorem mk_is {a b c : T} {μ : Mem} (ha : plainA a = true) (hb : plainA b = true) (hc : plainA c = true) (hp : pureL [a, b, c] = true) :
    frozenMk "Shape" m_Shape [a, b, c] μ = if (size a && (size b && size c)) = true then .ok (.obj "Shape" [("moments", a), ("houses", b), ("counts", c)]) μ else .ex "NoShape" μ := by
  unfold frozenMk
  rw [if_pos hp, Shape_is ha hb hc]
  by_cases h : (size a && (size b && size c)) = true
  · rw [if_pos h, if_pos h]
    have hf : pureF [(("moments" : Str), a), ("houses", b), ("counts", c)] = true := by simpa [pureL, pureF] using hp
    simp [hf]
  · rw [if_neg h, if_neg h]
def shp (a b c : Int) : T := .obj "Shape" [("moments", .int a), ("houses", .int b), ("counts", .int c)]
theorem mk_shp {a b c : Int} {μ : Mem} (ha : 1 ≤ a) (hb : 1 ≤ b) (hc : 1 ≤ c) : frozenMk "Shape" m_Shape [.int a, .int b, .int c] μ = .ok (shp a b c) μ := by
  rw [mk_is rfl rfl rfl rfl, if_pos (by simp [size, ha, hb, hc])]; rfl
/-- a shape's numbers, as far as they go here -/
structure Sz (a b c : Int) : Prop where
  a1 : 1 ≤ a
  a2 : a ≤ 1000000000000
  b1 : 1 ≤ b
  b2 : b ≤ 1000000000000
  c1 : 1 ≤ c
  c2 : c ≤ 1000000000000
theorem names_in_is {a b c : Int} {μ : Mem} (z : Sz a b c) : m_names_in [shp a b c] μ = .ok (.int (a * b * c)) μ := by
  have := z.b1; have := z.b2; have := z.c1; have := z.c2
  exact runG_is (o := .rt (.int (a * b * c)) μ) rfl (xss_cons (seq_rt (ex_ret (μ1 := μ) (ev_bin (ev_bin (x := .int a) (y := .int b) rfl rfl (mul_r (by omega))) rfl (mul_r (by omega))))))
theorem is_name_is {a b c : Int} {t : T} {μ : Mem} (z : Sz a b c) (h : plainA t = true) : m_is_name [shp a b c, t] μ = .ok (.bl (below t (a * b * c))) μ :=
  runG_is (o := .rt (.bl (below t (a * b * c))) μ) rfl (xss_cons (seq_rt (ex_ret (μ1 := μ) (CL (is_below_is h) (evL_cons rfl (evL_cons (CL (names_in_is z)) rfl))))))
theorem check_name_is {a b c : Int} {t : T} {μ : Mem} (z : Sz a b c) (h : plainA t = true) : m_check_name [shp a b c, t] μ = if below t (a * b * c) = true then .ok .non μ else .ex "NoName" μ := by
  have A : evT (ev 59 g_check_name) 59 (match defBody s_check_name with | .If c _ _ _ :: _ => c | _ => .Constant .none 0 ⟨0, 0, 0, 0⟩) [some (shp a b c), some t] μ = .ok (!below t (a * b * c)) μ := evT_Not (evT_call (CL (is_name_is z h)))
  cases hb : below t (a * b * c) with
  | true => rw [hb] at A; exact runG_is (o := .nx _ μ) rfl (xss_cons (seq_nx (ex_If A rfl) rfl))
  | false => rw [hb] at A; exact runG_is (o := .ex "NoName" _ μ) rfl (xss_cons (seq_ex (ex_If A rfl)))
theorem below_int {i b : Int} (h0 : 0 ≤ i) (h1 : i < b) : below (.int i) b = true := by simp [below, h0, h1]
theorem names_pos {a b c : Int} (z : Sz a b c) : 0 < a * b * c := Int.mul_pos (Int.mul_pos (by have := z.a1; omega) (by have := z.b1; omega)) (by have := z.c1; omega)
theorem whole_i {i : Int} {μ : Mem} : m_is_whole [.int i] μ = .ok (.bl true) μ := is_whole_is rfl
end NH.K11
end
section
set_option linter.all false
set_option maxRecDepth 100000
set_option maxHeartbeats 4000000
namespace NH.K11
open PySem PySem.Spec PyProof.Rows L2 NH
def SG : Str := "0123456789abcdefghjkmnpqrstvwxyz"
def code (d : Nat) : Nat := SG.cps.toList.getD d 0
def sgn (d : Nat) : Str := ⟨#[code d]⟩
theorem sg_all : (List.range 32).all (fun d => match Builtin.Str.occurrences SG (sgn d) 0 SG.length 1 with | i :: _ => i == d | [] => false) = true := by decide +kernel
theorem sg_len : SG.cps.toList.length = 32 := by decide +kernel
theorem sg_len2 : SG.length = 32 := by decide +kernel
theorem sg_occ {d : Nat} (h : d < 32) : ∃ r, Builtin.Str.occurrences SG (sgn d) 0 SG.length 1 = d :: r := by
  have q := List.all_eq_true.mp sg_all d (List.mem_range.mpr h)
  split at q
  · rename_i i r e
    rw [e, beq_iff_eq.mp q]; exact ⟨r, rfl⟩
  · cases q
theorem sg_at {i : Int} (h0 : 0 ≤ i) (h1 : i < 32) : ixAt SG.cps.toList i = some (code i.toNat) := by
  have hl : i < (SG.cps.toList.length : Int) := by rw [sg_len]; exact h1
  rw [ixAt_is h0 hl]
  unfold code
  rw [List.getD_eq_getElem?_getD, List.getElem?_eq_getElem (by omega)]
  rfl
theorem sg_item {i : Int} {μ : Mem} (h0 : 0 ≤ i) (h1 : i < 32) : itemT (.str SG) (.int i) μ = .ok (.str (sgn i.toNat)) μ := by
  show (if SG.length ≤ room then (match ixAt SG.cps.toList i with | some c => RE.ok (T.str ⟨#[c]⟩) μ | none => .st) else .st) = _
  rw [if_pos (by rw [sg_len2]; decide), sg_at h0 h1]
  rfl
/-- the signs' codes of a number, the greatest place ahead -/
def digs (n : Int) : Nat → List Nat
  | 0 => []
  | L + 1 => digs (n / 32) L ++ [code (n % 32).toNat]
def wd (n : Int) (L : Nat) : Str := ⟨(digs n L).toArray⟩
theorem digs_len : ∀ (L : Nat) (n : Int), (digs n L).length = L
  | 0, _ => rfl
  | L + 1, n => by simp [digs, digs_len L]
theorem digs_cons : ∀ (L : Nat) (n : Int), digs n (L + 1) = code (n / 32 ^ L % 32).toNat :: digs n L
  | 0, n => by simp [digs]
  | L + 1, n => by
    have e : digs n (L + 2) = digs (n / 32) (L + 1) ++ [code (n % 32).toNat] := rfl
    rw [e, digs_cons L (n / 32), Int.ediv_ediv_of_nonneg (by decide), show (32 : Int) * 32 ^ L = 32 ^ (L + 1) by rw [Int.pow_succ, Int.mul_comm]]
    rfl
def m32 (x : Int) : 0 ≤ x % 32 ∧ x % 32 < 32 := ⟨Int.emod_nonneg _ (by decide), Int.emod_lt_of_pos _ (by decide)⟩
/-- the width of so many names -/
structure Wd (many : Int) (L : Nat) : Prop where
  l1 : 1 ≤ L
  l2 : L ≤ 24
  up : many ≤ 32 ^ L
  lo : L = 1 ∨ 32 ^ (L - 1) < many
theorem p32 {i j : Nat} (h : i ≤ j) : (32 : Int) ^ i ≤ 32 ^ j := by
  have q : 32 ^ i ≤ 32 ^ j := Nat.pow_le_pow_right (by decide) h
  exact_mod_cast q
theorem Wd.le {many : Int} {L M : Nat} (a : Wd many L) (b : Wd many M) : L ≤ M := by
  rcases a.lo with h | h
  · have := b.l1; omega
  · by_cases q : L ≤ M
    · exact q
    · have := p32 (show M ≤ L - 1 by omega)
      have := b.up
      omega
theorem Wd.eq {many : Int} {L M : Nat} (a : Wd many L) (b : Wd many M) : L = M := Nat.le_antisymm (a.le b) (b.le a)
theorem whileT {c : Sl → Mem → RE Bool} {body : Sl → Mem → Out} {n : Nat} {τ τ2 : Sl} {μ μ2 : Mem} {o : Out} (hc : c τ μ = .ok true μ) (hb : body τ μ = .nx τ2 μ2) (q : whileM c body n τ2 μ2 = o) : whileM c body (n + 1) τ μ = o := by
  simp only [whileM, hc, hb]; exact q
theorem whileF {c : Sl → Mem → RE Bool} {body : Sl → Mem → Out} {n : Nat} {τ : Sl} {μ : Mem} (hc : c τ μ = .ok false μ) : whileM c body (n + 1) τ μ = .nx τ μ := by
  simp only [whileM, hc]
theorem pow_step (L : Nat) : (32 : Int) ^ L * 32 = 32 ^ (L + 1) := (Int.pow_succ ..).symm
def cLen : Expr := match (defBody s_length_for).drop 2 with | .While c _ _ _ :: _ => c | _ => .Constant .none 0 ⟨0, 0, 0, 0⟩
def bLen : List Stmt := match (defBody s_length_for).drop 2 with | .While _ b _ _ :: _ => b | _ => []
theorem len_loop {many : Int} {μ : Mem} (hm : many ≤ 32 ^ 24) : ∀ (d fuel L : Nat), 1 ≤ L → L + d = 24 → d < fuel → (L = 1 ∨ 32 ^ (L - 1) < many) → ∃ M, Wd many M ∧ whileM (evT (ev 59 g_length_for) 59 cLen) (xss (ex 59 g_length_for) bLen) fuel [some (.int many), some (.int L), some (.int (32 ^ L))] μ = .nx [some (.int many), some (.int M), some (.int (32 ^ M))] μ
  | d, 0, L, _, _, h, _ => absurd h (by omega)
  | d, fuel + 1, L, h1, h2, h3, h4 => by
    by_cases q : (32 : Int) ^ L < many
    · cases d with
      | zero => have : L = 24 := by omega
                subst this; exact absurd q (by omega)
      | succ d =>
        obtain ⟨M, w, e⟩ := len_loop hm d fuel (L + 1) (by omega) (by omega) (by omega) (.inr (by simpa using q))
        refine ⟨M, w, whileT (τ2 := [some (.int many), some (.int ((L + 1 : Nat) : Int)), some (.int (32 ^ (L + 1)))]) (μ2 := μ) (evT_cmp (ev_cmp rfl rfl rfl (lt_is (decide_eq_true q)))) ?_ e⟩
        refine xss_cons (seq_nx (ex_set (μ1 := μ) (i := 2) (t := .int (32 ^ (L + 1))) rfl ?_) (xss_cons (seq_nx (ex_set (μ1 := μ) (i := 1) (t := .int ((L + 1 : Nat) : Int)) rfl ?_) rfl)))
        · rw [← pow_step]; exact ev_bin rfl rfl (mul_r (by decide))
        · exact ev_bin rfl rfl rfl
    · exact ⟨L, ⟨h1, by omega, by omega, h4⟩, whileF (evT_cmp (ev_cmp rfl rfl rfl (lt_is (decide_eq_false q))))⟩
theorem length_for_ex {many : Int} {μ : Mem} (hm : many ≤ 32 ^ 24) : ∃ M, Wd many M ∧ m_length_for [.int many] μ = .ok (.int M) μ := by
  obtain ⟨M, w, e⟩ := len_loop (many := many) (μ := μ) hm 23 1000000 1 (by decide) (by decide) (by decide) (.inl rfl)
  refine ⟨M, w, runG_is (o := .rt (.int M) μ) rfl (xss_cons (seq_nx (ex_set (μ1 := μ) (i := 1) (t := .int ((1 : Nat) : Int)) rfl rfl) (xss_cons (seq_nx (ex_set (μ1 := μ) (i := 2) (t := .int (32 ^ 1)) rfl rfl) (xss_cons (seq_nx e (xss_cons (seq_rt (ex_ret (μ1 := μ) rfl)))))))))⟩
theorem length_for_is {many : Int} {L : Nat} {μ : Mem} (w : Wd many L) : m_length_for [.int many] μ = .ok (.int L) μ := by
  obtain ⟨M, w', e⟩ := length_for_ex (many := many) (μ := μ) (Int.le_trans w.up (p32 w.l2))
  rw [w.eq w']; exact e
theorem wd_some {many : Int} (hm : many ≤ 32 ^ 24) : ∃ L, Wd many L := by
  obtain ⟨M, w, _⟩ := length_for_ex (many := many) (μ := []) hm
  exact ⟨M, w⟩
/-! a word put together -/
def lows (n : Int) : Nat → List Str
  | 0 => []
  | L + 1 => sgn (n % 32).toNat :: lows (n / 32) L
theorem strs_lows : ∀ (L : Nat) (n : Int), strsOf ((lows n L).map T.str) = some (lows n L)
  | 0, _ => rfl
  | L + 1, n => by
    show (strsOf ((lows (n / 32) L).map T.str)).map _ = _
    rw [strs_lows L]; rfl
theorem lows_len : ∀ (L : Nat) (n : Int), (lows n L).length = L
  | 0, _ => rfl
  | L + 1, n => by simp [lows, lows_len L]
theorem lows_one : ∀ (L : Nat) (n : Int) (x : Str), x ∈ lows n L → x.length ≤ 1
  | 0, _, _, h => by simp [lows] at h
  | L + 1, n, x, h => by
    rcases List.mem_cons.mp h with rfl | h
    · exact Nat.le_refl 1
    · exact lows_one L _ x h
theorem fold_cat : ∀ (xs : List Str) (a : Array Nat), xs.foldl (fun acc p => acc ++ (Str.empty).cps ++ p.cps) a = a ++ (xs.map (·.cps.toList)).flatten.toArray
  | [], a => by simp
  | x :: xs, a => by
    rw [List.foldl_cons, fold_cat xs]
    apply Array.ext'
    simp [Str.empty]
theorem join_flat : ∀ (xs : List Str), Txt.join Str.empty xs = ⟨((xs.map (·.cps.toList)).flatten).toArray⟩
  | [] => by
    show (⟨([] : List Str).foldl _ (Str.empty).cps⟩ : Str) = _
    simp [Str.empty]
  | x :: xs => by
    show (⟨xs.foldl (fun acc p => acc ++ (Str.empty).cps ++ p.cps) x.cps⟩ : Str) = _
    rw [fold_cat]
    simp
theorem lows_flat : ∀ (L : Nat) (n : Int), (((lows n L).reverse.map (·.cps.toList)).flatten) = digs n L
  | 0, _ => rfl
  | L + 1, n => by
    simp only [lows, List.reverse_cons, List.map_append, List.flatten_append, lows_flat L]
    rfl
theorem join_lows {L : Nat} {n : Int} (h : L ≤ 24) {μ : Mem} {i : Nat} (hi : μ[i]? = some (.lst ((lows n L).map T.str))) : joinT Str.empty (.mut i) μ = .ok (.str (wd n L)) μ := by
  unfold joinT
  have e : seqStrs (.mut i) μ = some (lows n L) := by
    show (match μ[i]? with | some (.lst ts) => strsOf ts | _ => none) = _
    rw [hi]; exact strs_lows L n
  rw [e]
  have ok : JoinOk Str.empty (lows n L).reverse = true := by
    unfold JoinOk
    rw [StrLaws.joinFits (B := 1) (fun y hy => lows_one L n y (by simpa using hy)) (by simp [lows_len, Str.empty, Str.length]; omega)]
    rfl
  show (if JoinOk Str.empty (lows n L).reverse = true ∧ (lows n L).length ≤ room then RE.ok (T.str (Txt.join Str.empty (lows n L).reverse)) μ else RE.st) = _
  rw [if_pos ⟨ok, by rw [lows_len]; exact Nat.le_trans h (by decide)⟩, join_flat, lows_flat]
  rfl
theorem word_of_is {n : Int} {L : Nat} {μ : Mem} (h : L ≤ 24) : pureFn m_word_of [.int n, .int L] μ = .ok (.str (wd n L)) μ := by
  have B : ∀ (ps : List T) (k : Int) (acc : List T) (x : Option T), acc.length + ps.length ≤ 100 → ∃ y, forM (asg g_word_of.N (match (defBody s_word_of).drop 2 with | .For t _ _ _ _ :: _ => t | _ => .Constant .none 0 ⟨0, 0, 0, 0⟩)) (xss (ex 59 g_word_of) (match (defBody s_word_of).drop 2 with | .For _ _ b _ _ :: _ => b | _ => [])) ps [some (.int n), some (.int L), some (.mut 0), some (.int k), x] [.lst acc] = .nx [some (.int n), some (.int L), some (.mut 0), some (.int (k / 32 ^ ps.length)), y] [.lst (acc ++ (lows k ps.length).map T.str)] := by
    intro ps
    induction ps with
    | nil => intro k acc x _; exact ⟨x, by simp [forM, lows]⟩
    | cons p ps ih =>
      intro k acc x hl
      have hl : acc.length + (ps.length + 1) ≤ 100 := hl
      obtain ⟨y, e⟩ := ih (k / 32) (acc ++ [.str (sgn (k % 32).toNat)]) (some p) (by simp; omega)
      refine ⟨y, ?_⟩
      have g : .nx [some (.int n), some (.int L), some (.mut 0), some (.int (k / 32 ^ (ps.length + 1))), y] [.lst (acc ++ (lows k (ps.length + 1)).map T.str)] = Out.nx [some (.int n), some (.int L), some (.mut 0), some (.int (k / 32 / 32 ^ ps.length)), y] [.lst ((acc ++ [.str (sgn (k % 32).toNat)]) ++ (lows (k / 32) ps.length).map T.str)] := by
        rw [Int.ediv_ediv_of_nonneg (by decide), show (32 : Int) * 32 ^ ps.length = 32 ^ (ps.length + 1) by rw [Int.pow_succ, Int.mul_comm]]
        simp [lows]
      refine Eq.trans ?_ (e.trans g.symm)
      refine (forM_cons (τ' := [some (.int n), some (.int L), some (.mut 0), some (.int k), some p]) (τ2 := [some (.int n), some (.int L), some (.mut 0), some (.int (k / 32)), some p]) (μ2 := [.lst (acc ++ [.str (sgn (k % 32).toNat)])]) rfl ?_ rfl)
      refine xss_cons (seq_nx (ex_app (i := 0) (ts := acc) (t := .str (sgn (k % 32).toNat)) rfl rfl ?_ (by show acc.length < 1000000; omega) rfl) (xss_cons (seq_nx (ex_set (μ1 := [.lst (acc ++ [.str (sgn (k % 32).toNat)])]) (i := 3) (t := .int (k / 32)) rfl ?_) rfl)))
      · exact ev_ix rfl (fun _ _ _ _ q => by cases q) rfl (ev_bin rfl rfl rfl) (sg_item (m32 k).1 (m32 k).2)
      · exact ev_bin rfl rfl (div_is (by decide))
  obtain ⟨y, e⟩ := B (rangeT L) n [] none (by simp [rangeT]; omega)
  have hr : (rangeT L).length = L := by simp [rangeT]
  rw [hr] at e
  refine pureFn_ok (μ1 := [.lst ((lows n L).map T.str)]) rfl ?_ rfl
  refine runG_is (o := .rt (.str (wd n L)) [.lst ((lows n L).map T.str)]) rfl (xss_cons (seq_nx (ex_setO (μ1 := [.lst []]) (i := 2) (t := .mut 0) rfl rfl) (xss_cons (seq_nx (ex_set (μ1 := [.lst []]) (i := 3) (t := .int n) rfl rfl) (xss_cons (seq_nx (ex_For (xs := rangeT L) rfl rfl ?_ e) (xss_cons (seq_rt (ex_ret (μ1 := [.lst ((lows n L).map T.str)]) ?_)))))))))
  · exact ev_rng rfl (by omega)
  · exact join_lows h rfl
end NH.K11
end
section
set_option linter.all false
set_option maxRecDepth 100000
set_option maxHeartbeats 4000000
namespace NH.K11
open PySem PySem.Spec PyProof.Rows L2 NH
theorem ev_index {n : Nat} {Γ : Cn} {τ : Sl} {μ : Mem} {o : Str} {po pa pc : Pos} {a : Expr} {x : Str} {t : T} {r : RE T} (h1 : ev n Γ (.Name o po) τ μ = .ok (.str x) μ) (h2 : ev n Γ a τ μ = .ok t μ) (h3 : indexT x t μ = r) (hc : (noStar a && pa.endLine == pc.line) = true := by rfl) : ev (n + 1) Γ (.Call (.Attribute (.Name o po) "index" pa) [a] [] pc) τ μ = r := by
  show (if (noStar a && pa.endLine == pc.line) = true then (ev n Γ (.Name o po) τ μ).bind (fun ot μ1 => match ot with | .str x => (ev n Γ a τ μ1).bind fun t μ2 => indexT x t μ2 | _ => RE.st) else RE.st) = r
  rw [hc]
  exact bind_ok h1 (bind_ok h2 h3)
theorem digs_in : ∀ (L : Nat) (n : Int) (c : Nat), c ∈ digs n L → ∃ d, d < 32 ∧ c = code d
  | 0, _, _, h => by simp [digs] at h
  | L + 1, n, c, h => by
    rcases List.mem_append.mp h with h | h
    · exact digs_in L _ c h
    · refine ⟨(n % 32).toNat, ?_, List.mem_singleton.mp h⟩
      have := m32 n
      omega
theorem wd_len (n : Int) (L : Nat) : (wd n L).length = L := by
  show (digs n L).toArray.size = L
  simp [digs_len]
theorem lenS {z : Str} {μ : Mem} {L : Nat} (h : z.length = L) (hl : L ≤ 1000) : lenT (.str z) μ = .ok (.int L) μ := by
  subst h
  exact if_pos (Nat.le_trans hl (by decide))
theorem comp_all {f : Sl → Mem → RE T} {asgn : T → Sl → Option Sl} {τ : Sl} {μ : Mem} : ∀ (cs : List Nat), (∀ c ∈ cs, ∃ τ', asgn (T.str ⟨#[c]⟩) τ = some τ' ∧ f τ' μ = .ok (.bl true) μ) → compM asgn f τ (cs.map fun c => T.str ⟨#[c]⟩) μ = .ok (cs.map fun _ => T.bl true) μ
  | [], _ => rfl
  | c :: cs, h => by
    obtain ⟨τ', h1, h2⟩ := h c List.mem_cons_self
    exact compM_step h1 h2 (comp_all cs fun d hd => h d (List.mem_cons_of_mem _ hd))
theorem bools_all : ∀ (cs : List Nat), bools (cs.map fun _ => T.bl true) = some (cs.map fun _ => true)
  | [] => rfl
  | c :: cs => by
    show (bools (cs.map fun _ => T.bl true)).map (true :: ·) = _
    rw [bools_all cs]; rfl
theorem all_true (cs : List Nat) {μ : Mem} : allT (.lst (cs.map fun _ => T.bl true)) μ = .ok (.bl true) μ := by
  show (match bools (cs.map fun _ => T.bl true) with | some bs => RE.ok (T.bl (bs.all id)) μ | none => RE.st) = _
  rw [bools_all]
  simp
theorem in_sg {d : Nat} (h : d < 32) {μ : Mem} : cmpT .In (.str (sgn d)) (.str SG) μ = .ok (.bl true) μ := by
  obtain ⟨r, e⟩ := sg_occ h
  show RE.ok (T.bl (!(Builtin.Str.occurrences SG (sgn d) 0 SG.length 1).isEmpty)) μ = _
  rw [e]; rfl
theorem index_sg {d : Nat} (h : d < 32) {μ : Mem} : indexT SG (.str (sgn d)) μ = .ok (.int d) μ := by
  obtain ⟨r, e⟩ := sg_occ h
  show (match Builtin.Str.occurrences SG (sgn d) 0 SG.length 1 with | i :: _ => RE.ok (T.int i) μ | [] => .st) = _
  rw [e]
theorem is_word_is {n : Int} {L : Nat} {μ : Mem} (hL : L ≤ 24) : m_is_word [.str (wd n L), .int L] μ = .ok (.bl true) μ := by
  refine runG_is (o := .rt (.bl true) μ) rfl (xss_cons (seq_nx (ex_IfF (μ1 := μ) (evT_OrF (evT_NotF (evT_call rfl)) (evT_Or1 (evT_cmp (ev_cmp rfl (bind_ok (k := lenT) (a := .str (wd n L)) (μ := μ) rfl (lenS (wd_len n L) (by omega))) rfl (nei_is (by simp)))))) rfl) (xss_cons (seq_rt (ex_ret (μ1 := μ) ?_)))))
  refine bind_ok (k := allT) (a := .lst ((digs n L).map fun _ => T.bl true)) (μ := μ) (ev_comp (xs := (digs n L).map fun c => T.str ⟨#[c]⟩) rfl rfl (by rw [List.length_map, digs_len]; exact Nat.le_trans hL (by decide)) (comp_all _ fun c hc => ?_)) (all_true _)
  obtain ⟨d, hd, rfl⟩ := digs_in L n c hc
  exact ⟨_, rfl, ev_cmp rfl rfl rfl (in_sg hd)⟩
theorem emod_next (n P : Int) (hP : 0 < P) : n % (P * 32) = n / P % 32 * P + n % P := by
  have e1 := Int.mul_ediv_add_emod n P
  have e2 := Int.mul_ediv_add_emod (n / P) 32
  have r0 := Int.emod_nonneg n (show P ≠ 0 by omega)
  have r1 := Int.emod_lt_of_pos n hP
  have d0 := (m32 (n / P)).1
  have d1 := (m32 (n / P)).2
  have f1 : n / P % 32 * P ≤ 31 * P := Int.mul_le_mul_of_nonneg_right (by omega) (by omega)
  have f0 : 0 ≤ n / P % 32 * P := Int.mul_nonneg d0 (by omega)
  have key : n = n / P % 32 * P + n % P + P * 32 * (n / P / 32) := by
    have : P * (n / P) = P * 32 * (n / P / 32) + n / P % 32 * P := by
      conv => lhs; rw [← e2]
      rw [Int.mul_add, Int.mul_assoc, Int.mul_comm P (n / P % 32)]
    omega
  conv => lhs; rw [key]
  rw [Int.add_mul_emod_self_left]
  exact Int.emod_eq_of_lt (by omega) (by omega)
theorem p32_pos (L : Nat) : (0 : Int) < 32 ^ L := Int.pow_pos (by decide)
theorem num_loop {w : T} {μ : Mem} : ∀ (L : Nat) (n v : Int) (x : Option T), 0 ≤ n → ∃ y, forM (asg g_number_of.N (match (defBody s_number_of).drop 1 with | .For t _ _ _ _ :: _ => t | _ => .Constant .none 0 ⟨0, 0, 0, 0⟩)) (xss (ex 59 g_number_of) (match (defBody s_number_of).drop 1 with | .For _ _ b _ _ :: _ => b | _ => [])) ((digs n L).map fun c => T.str ⟨#[c]⟩) [some w, some (.int v), x] μ = .nx [some w, some (.int (v * 32 ^ L + n % 32 ^ L)), y] μ
  | 0, n, v, x, _ => ⟨x, by
    have : v * 32 ^ 0 + n % 32 ^ 0 = v := by simp [Int.emod_one]
    rw [this]; rfl⟩
  | L + 1, n, v, x, hn => by
    have hd := m32 (n / 32 ^ L)
    obtain ⟨y, e⟩ := num_loop (w := w) (μ := μ) L n (v * 32 + n / 32 ^ L % 32) (some (.str (sgn (n / 32 ^ L % 32).toNat))) hn
    refine ⟨y, ?_⟩
    have g : (v * 32 + n / 32 ^ L % 32) * 32 ^ L + n % 32 ^ L = v * 32 ^ (L + 1) + n % 32 ^ (L + 1) := by
      rw [Int.pow_succ, emod_next n (32 ^ L) (p32_pos L), Int.add_mul, Int.mul_assoc, Int.mul_comm 32 (32 ^ L), Int.add_assoc]
    rw [g] at e
    rw [digs_cons, List.map_cons]
    refine forM_cons (τ' := [some w, some (.int v), some (.str (sgn (n / 32 ^ L % 32).toNat))]) (τ2 := [some w, some (.int (v * 32 + n / 32 ^ L % 32)), some (.str (sgn (n / 32 ^ L % 32).toNat))]) (μ2 := μ) rfl ?_ e
    have ec : (((n / 32 ^ L % 32).toNat : Nat) : Int) = n / 32 ^ L % 32 := Int.toNat_of_nonneg hd.1
    refine xss_cons (seq_nx (ex_set (μ1 := μ) (i := 1) (t := .int (v * 32 + n / 32 ^ L % 32)) rfl ?_) rfl)
    refine ev_bin (y := .int (n / 32 ^ L % 32)) (ev_bin rfl rfl (mul_r (by decide))) ?_ rfl
    rw [← ec]
    exact ev_index rfl rfl (index_sg (by omega))
theorem number_of_is {n : Int} {L : Nat} {μ : Mem} (h0 : 0 ≤ n) (h1 : n < 32 ^ L) : m_number_of [.str (wd n L)] μ = .ok (.int n) μ := by
  obtain ⟨y, e⟩ := num_loop (w := .str (wd n L)) (μ := μ) L n 0 none h0
  have g : (0 : Int) * 32 ^ L + n % 32 ^ L = n := by rw [Int.zero_mul, Int.zero_add, Int.emod_eq_of_lt h0 h1]
  rw [g] at e
  exact runG_is (o := .rt (.int n) μ) rfl (xss_cons (seq_nx (ex_set (μ1 := μ) (i := 1) (t := .int 0) rfl rfl) (xss_cons (seq_nx (ex_For (xs := (digs n L).map fun c => T.str ⟨#[c]⟩) rfl rfl rfl e) (xss_cons (seq_rt (ex_ret (μ1 := μ) rfl)))))))
theorem width_is {a b c : Int} {L : Nat} {μ : Mem} (z : Sz a b c) (w : Wd (a * b * c) L) : m_width [shp a b c] μ = .ok (.int L) μ :=
  runG_is (o := .rt (.int L) μ) rfl (xss_cons (seq_rt (ex_ret (μ1 := μ) (CL (length_for_is w) (evL_cons (CL (names_in_is z)) rfl)))))
theorem show_name_is {a b c n : Int} {L : Nat} {μ : Mem} (z : Sz a b c) (w : Wd (a * b * c) L) (h0 : 0 ≤ n) (h1 : n < a * b * c) : m_show_name [shp a b c, .int n] μ = .ok (.str (wd n L)) μ := by
  have C : m_check_name [shp a b c, .int n] μ = .ok .non μ := by rw [check_name_is z rfl, if_pos (below_int h0 h1)]
  exact runG_is (o := .rt (.str (wd n L)) μ) rfl (xss_cons (seq_nx (ex_expr (t := .non) (fun _ _ _ _ q => by cases q) (CL C)) (xss_cons (seq_rt (ex_ret (μ1 := μ) (CL (word_of_is w.l2) (evL_cons rfl (evL_cons (CL (width_is z w)) rfl))))))))
theorem read_name_is {a b c n : Int} {L : Nat} {μ : Mem} (z : Sz a b c) (w : Wd (a * b * c) L) (h0 : 0 ≤ n) (h1 : n < a * b * c) : m_read_name [shp a b c, .str (wd n L)] μ = .ok (.int n) μ := by
  have N : m_is_name [shp a b c, .int n] μ = .ok (.bl true) μ := by rw [is_name_is z rfl, below_int h0 h1]
  exact runG_is (o := .rt (.int n) μ) rfl (xss_cons (seq_nx (ex_IfF (μ1 := μ) (evT_NotF (evT_call (CL (is_word_is w.l2) (evL_cons rfl (evL_cons (CL (width_is z w)) rfl))))) rfl) (xss_cons (seq_nx (ex_set (μ1 := μ) (i := 2) (t := .int n) rfl (CL (number_of_is h0 (Int.lt_of_lt_of_le h1 w.up)))) (xss_cons (seq_nx (ex_IfF (μ1 := μ) (evT_NotF (evT_call (CL N))) rfl) (xss_cons (seq_rt (ex_ret (μ1 := μ) rfl)))))))))
end NH.K11
end
section
set_option linter.all false
set_option maxRecDepth 100000
set_option maxHeartbeats 4000000
namespace NH.K11
open PySem PySem.Spec PyProof.Rows L2 NH
/-! the store's last list -/
theorem get_last {μ : Mem} {x : MO} : (μ ++ [x])[μ.length]? = some x := by rw [List.getElem?_append_right (Nat.le_refl _)]; simp
theorem set_last {x y : MO} : ∀ {μ : List MO}, (μ ++ [x]).set μ.length y = μ ++ [y]
  | [] => rfl
  | m :: μ => congrArg (m :: ·) (set_last (μ := μ))
theorem item_mut {μ : Mem} {i : Nat} {ts : List T} {k : Int} {t : T} (h : μ[i]? = some (.lst ts)) (h2 : ixAt ts k = some t) : itemT (.mut i) (.int k) μ = .ok t μ := by
  show (match μ[i]? with | some (.lst ts) => (match ixAt ts k with | some v => RE.ok v μ | none => .st) | _ => .st) = _
  rw [h]
  show (match ixAt ts k with | some v => RE.ok v μ | none => RE.st) = _
  rw [h2]
theorem ex_putM {n : Nat} {Γ : Cn} {τ : Sl} {μ μ1 : Mem} {o : Str} {p p1 p2 : Pos} {b e : Expr} {t it ot : T} (hb : plainIx b = true) (h1 : ev n Γ e τ μ = .ok t μ) (h2 : ev n Γ (.Name o p) τ μ = .ok ot μ) (h3 : ev n Γ b τ μ = .ok it μ) (h4 : putAt ot it t μ = some μ1) : ex (n + 1) Γ (.Assign [.Subscript (.Name o p) b p1] e p2) τ μ = .nx τ μ1 := by
  show (if plainIx b = true then (ev n Γ e τ μ).out τ _ else .st) = _
  rw [if_pos hb]
  refine out_ok h1 (out_ok h2 (out_ok h3 ?_))
  simp only [h4]
theorem put_last {μ : Mem} {ts : List T} {t : T} {k : Int} (h0 : 0 ≤ k) (h1 : k < ts.length) (h2 : ts.length ≤ 1000) : putAt (.mut μ.length) (.int k) t (μ ++ [.lst ts]) = some (μ ++ [.lst (ts.set k.toNat t)]) := by
  have e : putAt (.mut μ.length) (.int k) t (μ ++ [.lst ts]) = if 0 ≤ k ∧ k < ts.length ∧ k < 9223372036854775808 then some ((μ ++ [MO.lst ts]).set μ.length (.lst (ts.set k.toNat t))) else none := by
    unfold putAt
    simp only [get_last]
  rw [e, if_pos ⟨h0, h1, by omega⟩, set_last]
section
variable {n : Nat} {Γ : Cn} {τ : Sl} {μ μ1 μ2 : Mem}
theorem binM {op : Operator} {a b : Expr} {p : Pos} {x y : T} {r : RE T} (h1 : ev n Γ a τ μ = .ok x μ1) (h2 : ev n Γ b τ μ1 = .ok y μ2) (h3 : binT op x y μ2 = r) : ev (n + 1) Γ (.BinOp a op b p) τ μ = r := bind_ok h1 (bind_ok h2 h3)
theorem consM {f : Expr → Sl → Mem → RE T} {e : Expr} {r : List Expr} {t : T} {ts : List T} (h1 : f e τ μ = .ok t μ1) (h2 : evL f r τ μ1 = .ok ts μ2) : evL f (e :: r) τ μ = .ok (t :: ts) μ2 := bind_ok h1 (bind_ok h2 rfl)
theorem lstM {es : List Expr} {p : Pos} {ts : List T} (hs : (es.all noStar && decide (es.length ≤ room)) = true) (ha : evL (ev n Γ) es τ μ = .ok ts μ1) : ev (n + 1) Γ (.List es p) τ μ = .ok (.lst ts) μ1 := by
  show (if (es.all noStar && decide (es.length ≤ room)) = true then (evL (ev n Γ) es τ μ).bind _ else .st) = _
  rw [hs]
  exact bind_ok ha rfl
theorem ixM {a b : Expr} {p : Pos} {x y : T} {r : RE T} (hb : plainIx b = true) (hs : ∀ lo hi st q, b ≠ .Slice lo hi st q) (h1 : ev n Γ a τ μ = .ok x μ1) (h2 : ev n Γ b τ μ1 = .ok y μ2) (h3 : itemT x y μ2 = r) : ev (n + 1) Γ (.Subscript a b p) τ μ = r := by
  have e : ev (n + 1) Γ (.Subscript a b p) τ μ = if plainIx b = true then (ev n Γ a τ μ).bind fun x μ1 => (ev n Γ b τ μ1).bind fun y μ2 => itemT x y μ2 else .st := by
    cases b <;> first | rfl | exact absurd rfl (hs _ _ _ _)
  rw [e, if_pos hb]
  exact bind_ok h1 (bind_ok h2 h3)
theorem cmpM {op : CmpOp} {a b : Expr} {p : Pos} {x y : T} {k : Bool} {m : Nat} (hp : okCmp op b = true) (h1 : ev n Γ a τ μ = .ok x μ1) (h2 : ev n Γ b τ μ1 = .ok y μ2) (h3 : cmpT op x y μ2 = .ok (.bl k) μ2) : evT (ev (n + 1) Γ) (m + 1) (.Compare a [op] [b] p) τ μ = .ok k μ2 := by
  show (ev (n + 1) Γ (.Compare a [op] [b] p) τ μ).bind truT = _
  have e : ev (n + 1) Γ (.Compare a [op] [b] p) τ μ = .ok (.bl k) μ2 := by
    show (if (!okCmp op b) = true then .st else (ev n Γ a τ μ).bind _) = _
    rw [hp]
    exact bind_ok h1 (bind_ok h2 h3)
  exact bind_ok e rfl
theorem compM_stepM {asgn : T → Sl → Option Sl} {f : Sl → Mem → RE T} {x y : T} {r ys : List T} {τ' : Sl} (h1 : asgn x τ = some τ') (h2 : f τ' μ = .ok y μ1) (h3 : compM asgn f τ r μ1 = .ok ys μ2) : compM asgn f τ (x :: r) μ = .ok (y :: ys) μ2 := by
  simp only [compM, h1]
  exact bind_ok h2 (bind_ok h3 rfl)
theorem ev_compM {elt tg iter : Expr} {sc : Scope} {p : Pos} {xs ys : List T} (hc : (Γ.calm && compOk Γ.N Γ.cel tg sc) = true) (hi : evIter Γ (ev n Γ) iter τ μ = .ok xs μ) (hr : xs.length ≤ room)
    (h : compM (asg (tgNames tg ++ frees sc) tg) (ev n (inComp Γ tg sc) elt) ((tgNames tg).map (fun _ => none) ++ selT Γ.N τ (frees sc)) xs μ = .ok ys μ1) : ev (n + 1) Γ (.ListComp elt [⟨tg, iter, [], 0⟩] sc p) τ μ = .ok (.lst ys) μ1 := by
  show (if (Γ.calm && compOk Γ.N Γ.cel tg sc) = true then (evIter Γ (ev n Γ) iter τ μ).bind _ else RE.st) = _
  rw [hc]
  refine bind_ok hi ?_
  show (if xs.length ≤ room then _ else RE.st) = _
  rw [if_pos hr, h]
  rfl
theorem ex_retO {e : Expr} {p : Pos} {t : T} (h : evO n Γ "return" e τ μ = .ok t μ1) : ex (n + 1) Γ (.Return (some e) p) τ μ = .rt t μ1 := by
  show (evO n Γ "return" e τ μ).out τ _ = _
  exact out_ok h rfl
theorem evM_lst {x : Str} {es : List Expr} {p : Pos} {ts : List T} (ha : evL (ev n Γ) es τ μ = .ok ts μ) (ho : Γ.own.contains x = true := by rfl) (hs : (es.all noStar && decide (es.length ≤ room)) = true := by rfl) : evO n Γ x (.List es p) τ μ = .ok (.mut μ.length) (μ ++ [.lst ts]) := by
  rw [evO_own ho]
  show (if (es.all noStar && decide (es.length ≤ room)) = true then (evL (ev n Γ) es τ μ).bind _ else .st) = _
  rw [hs]
  exact bind_ok ha rfl
end
/-- what draws are told from -/
def S (μ : Mem) (a b c : Int) : Mem := μ ++ [.lst [.int a, .int b, .int c]]
theorem S0 {μ : Mem} {a b c : Int} : itemT (.mut μ.length) (.int 0) (S μ a b c) = .ok (.int a) (S μ a b c) := item_mut get_last rfl
theorem S1 {μ : Mem} {a b c : Int} : itemT (.mut μ.length) (.int 1) (S μ a b c) = .ok (.int b) (S μ a b c) := item_mut get_last rfl
theorem S2 {μ : Mem} {a b c : Int} : itemT (.mut μ.length) (.int 2) (S μ a b c) = .ok (.int c) (S μ a b c) := item_mut get_last rfl
theorem P0 {μ : Mem} {a b c v : Int} : putAt (.mut μ.length) (.int 0) (.int v) (S μ a b c) = some (S μ v b c) := put_last (by decide) (by simp) (by simp)
theorem P2 {μ : Mem} {a b c v : Int} : putAt (.mut μ.length) (.int 2) (.int v) (S μ a b c) = some (S μ a b v) := put_last (by decide) (by simp) (by simp)
theorem md_nn (x : Int) {m : Int} (h : 0 < m) : 0 ≤ x % m := Int.emod_nonneg _ (by omega)
theorem md_lt (x : Int) {m : Int} (h : 0 < m) : x % m < m := Int.emod_lt_of_pos _ h
theorem begin_is {c : Int} {μ : Mem} : m_l_begin [.int c] μ = .ok (.mut μ.length) (S μ (c / 2 * (1 - c % 2)) (c % 2147483647) 0) := by
  have h0 := md_nn c (show (0 : Int) < 2 by decide)
  have h1 := md_lt c (show (0 : Int) < 2 by decide)
  refine runG_is (o := .rt (.mut μ.length) (S μ (c / 2 * (1 - c % 2)) (c % 2147483647) 0)) rfl (xss_cons (seq_rt (ex_retO (evM_lst (evL_cons ?_ (evL_cons rfl (evL_cons rfl rfl)))))))
  exact ev_bin (ev_bin rfl rfl (div_is (by decide))) (ev_bin rfl (ev_bin rfl rfl rfl) rfl) (mul_r (by omega))
def e1 (b c : Int) : Int := (b + 7919 * (c + 1) + 1) * 48271 % 2147483647
def e2 (n : Int) : Int := n * (n / 1009 + 69621) % 2147483647
def e3 (n : Int) : Int := n * (n / 2003 + 40692) % 2147483399
theorem next_is (μ : Mem) (a b c base : Int) (h0 : 0 < base) (h1 : base < 1073741824) : ∃ v a' b' c', (0 ≤ v ∧ v < base) ∧ m_l_next [.mut μ.length, .int base] (S μ a b c) = .ok (.int v) (S μ a' b' c') := by
  by_cases ha : 0 < a
  · refine ⟨a % base, a / base, b, c, ⟨md_nn _ h0, md_lt _ h0⟩, runG_is (o := .rt (.int (a % base)) (S μ (a / base) b c)) rfl (xss_cons (seq_rt (ex_IfT (μ1 := S μ a b c) (evT_cmp (ev_cmp rfl (ev_ix rfl (fun _ _ _ _ q => by cases q) rfl rfl S0) rfl (gt_is (decide_eq_true ha)))) (xss_cons (seq_nx (ex_set (μ1 := S μ a b c) (i := 2) (t := .int (a % base)) rfl ?_) (xss_cons (seq_nx (ex_putM (μ1 := S μ (a / base) b c) rfl ?_ rfl rfl P0) (xss_cons (seq_rt (ex_ret (μ1 := S μ (a / base) b c) rfl))))))))))⟩
    · exact ev_bin (ev_ix rfl (fun _ _ _ _ q => by cases q) rfl rfl S0) rfl (mod_is h0)
    · exact ev_bin (ev_ix rfl (fun _ _ _ _ q => by cases q) rfl rfl S0) rfl (div_is ⟨h0, h1⟩)
  · have q1 : 0 ≤ e1 b c ∧ e1 b c < 2147483647 := ⟨md_nn _ (by decide), md_lt _ (by decide)⟩
    have q2 : 0 ≤ e2 (e1 b c) ∧ e2 (e1 b c) < 2147483647 := ⟨md_nn _ (by decide), md_lt _ (by decide)⟩
    refine ⟨e3 (e2 (e1 b c)) / 7 % base, a, b, c + 1, ⟨md_nn _ h0, md_lt _ h0⟩, runG_is (o := .rt (.int (e3 (e2 (e1 b c)) / 7 % base)) (S μ a b (c + 1))) rfl (xss_cons (seq_nx (ex_IfF (μ1 := S μ a b c) (evT_cmp (ev_cmp rfl (ev_ix rfl (fun _ _ _ _ q => by cases q) rfl rfl S0) rfl (gt_is (decide_eq_false ha)))) rfl) (xss_cons (seq_nx (ex_putM (μ1 := S μ a b (c + 1)) rfl ?_ rfl rfl P2) (xss_cons (seq_nx (ex_set (μ1 := S μ a b (c + 1)) (i := 3) (t := .int (e1 b c)) rfl ?_) (xss_cons (seq_nx (ex_set (μ1 := S μ a b (c + 1)) (i := 3) (t := .int (e2 (e1 b c))) rfl ?_) (xss_cons (seq_nx (ex_set (μ1 := S μ a b (c + 1)) (i := 3) (t := .int (e3 (e2 (e1 b c)))) rfl ?_) (xss_cons (seq_rt (ex_ret (μ1 := S μ a b (c + 1)) ?_)))))))))))))⟩
    · exact ev_bin (ev_ix rfl (fun _ _ _ _ q => by cases q) rfl rfl S2) rfl rfl
    · exact ev_bin (ev_bin (ev_bin (ev_bin (ev_ix rfl (fun _ _ _ _ q => by cases q) rfl rfl S1) (ev_bin rfl (ev_ix rfl (fun _ _ _ _ q => by cases q) rfl rfl S2) (mul_l (by decide))) rfl) rfl rfl) rfl (mul_r (by decide))) rfl rfl
    · exact ev_bin (ev_bin rfl rfl (mul_l (by omega))) rfl rfl
    · exact ev_bin (ev_bin rfl rfl (mul_l (by omega))) rfl rfl
    · exact ev_bin (ev_bin rfl rfl (div_is (by decide))) rfl (mod_is h0)
theorem pick3 (x y z : Int) {i : Int} (h0 : 0 ≤ i) (h1 : i < 3) : ∃ v, ixAt [T.int x, .int y, .int z] i = some (.int v) ∧ (v = x ∨ v = y ∨ v = z) := by
  have : i = 0 ∨ i = 1 ∨ i = 2 := by omega
  rcases this with rfl | rfl | rfl
  · exact ⟨x, rfl, .inl rfl⟩
  · exact ⟨y, rfl, .inr (.inl rfl)⟩
  · exact ⟨z, rfl, .inr (.inr rfl)⟩
theorem m6 : (10 : Int) ^ (6 : Int).toNat = 1000000 := rfl
theorem big_is (μ : Mem) (a b c : Int) : ∃ v a' b' c', (0 ≤ v ∧ v < 1000000000000) ∧ m_l_big [.mut μ.length] (S μ a b c) = .ok (.int v) (S μ a' b' c') := by
  obtain ⟨v1, a1, b1, c1, h1, e1⟩ := next_is μ a b c (10 ^ (6 : Int).toNat) (by decide) (by decide)
  obtain ⟨v2, a2, b2, c2, h2, e2⟩ := next_is μ a1 b1 c1 (10 ^ (6 : Int).toNat) (by decide) (by decide)
  obtain ⟨v3, a3, b3, c3, h3, e3⟩ := next_is μ a2 b2 c2 40 (by decide) (by decide)
  obtain ⟨v4, a4, b4, c4, h4, e4⟩ := next_is μ a3 b3 c3 (10 ^ (6 : Int).toNat) (by decide) (by decide)
  obtain ⟨v5, a5, b5, c5, h5, e5⟩ := next_is μ a4 b4 c4 3 (by decide) (by decide)
  rw [m6] at h1 h2 h4
  obtain ⟨v, ev, qv⟩ := pick3 v3 v4 (v1 * 10 ^ (6 : Int).toNat + v2) h5.1 h5.2
  rw [m6] at qv
  refine ⟨v, a5, b5, c5, by omega, runG_is (o := .rt (.int v) (S μ a5 b5 c5)) rfl (xss_cons (seq_nx (ex_set (μ1 := S μ a2 b2 c2) (i := 1) (t := .int (v1 * 10 ^ (6 : Int).toNat + v2)) rfl ?_) (xss_cons (seq_rt (ex_ret (μ1 := S μ a5 b5 c5) ?_)))))⟩
  · exact binM (binM (CL e1) rfl (mul_r (by decide))) (CL e2) rfl
  · exact ixM rfl (fun _ _ _ _ q => by cases q) (lstM rfl (consM (CL e3) (consM (CL e4) (consM rfl rfl)))) (CL e5) (item_lst ev)
theorem shape_is (μ : Mem) (a b c : Int) : ∃ x y z a' b' c', Sz x y z ∧ m_l_shape [.mut μ.length] (S μ a b c) = .ok (.lst [.int x, .int y, .int z]) (S μ a' b' c') := by
  obtain ⟨v1, a1, b1, c1, h1, e1⟩ := big_is μ a b c
  obtain ⟨v2, a2, b2, c2, h2, e2⟩ := big_is μ a1 b1 c1
  obtain ⟨v3, a3, b3, c3, h3, e3⟩ := big_is μ a2 b2 c2
  obtain ⟨v4, a4, b4, c4, h4, e4⟩ := next_is μ a3 b3 c3 5 (by decide) (by decide)
  have go : ∀ (o : Out), xss (ex 60 g_l_shape) ((defBody s_l_shape).drop 1) [some (.mut μ.length), some (.lst [.int (1 + v1), .int (1 + v2), .int (1 + v3)])] (S μ a3 b3 c3) = o → m_l_shape [.mut μ.length] (S μ a b c) = o.fin := fun o h =>
    runG_is rfl (xss_cons (seq_nx (ex_set (μ1 := S μ a3 b3 c3) (i := 1) (t := .lst [.int (1 + v1), .int (1 + v2), .int (1 + v3)]) rfl (lstM rfl (consM (binM rfl (CL e1) rfl) (consM (binM rfl (CL e2) rfl) (consM (binM rfl (CL e3) rfl) rfl))))) h))
  by_cases hz : v4 = 0
  · obtain ⟨v5, a5, b5, c5, h5, e5⟩ := next_is μ a4 b4 c4 4 (by decide) (by decide)
    obtain ⟨v6, a6, b6, c6, h6, e6⟩ := next_is μ a5 b5 c5 2 (by decide) (by decide)
    have p5 : ∃ x, ixAt [T.int 1, .int 32, .int 1024, .int 32768] v5 = some (.int x) ∧ 1 ≤ x ∧ x ≤ 32768 := by
      have : v5 = 0 ∨ v5 = 1 ∨ v5 = 2 ∨ v5 = 3 := by omega
      rcases this with rfl | rfl | rfl | rfl
      · exact ⟨1, rfl, by decide, by decide⟩
      · exact ⟨32, rfl, by decide, by decide⟩
      · exact ⟨1024, rfl, by decide, by decide⟩
      · exact ⟨32768, rfl, by decide, by decide⟩
    have p6 : ∃ x, ixAt [T.int 1, .int 32] v6 = some (.int x) ∧ 1 ≤ x ∧ x ≤ 32 := by
      have : v6 = 0 ∨ v6 = 1 := by omega
      rcases this with rfl | rfl
      · exact ⟨1, rfl, by decide, by decide⟩
      · exact ⟨32, rfl, by decide, by decide⟩
    obtain ⟨x, ex, x1, x2⟩ := p5
    obtain ⟨y, ey, y1, y2⟩ := p6
    refine ⟨x, y, 1, a6, b6, c6, ⟨x1, by omega, y1, by omega, by decide, by decide⟩, go (.rt (.lst [.int x, .int y, .int 1]) (S μ a6 b6 c6)) (xss_cons (seq_nx (ex_IfT (μ1 := S μ a4 b4 c4) (cmpM rfl (CL e4) rfl (eqi_is (decide_eq_true hz))) (xss_cons (seq_nx (ex_set (μ1 := S μ a6 b6 c6) (i := 1) (t := .lst [.int x, .int y, .int 1]) rfl ?_) rfl))) (xss_cons (seq_rt (ex_ret (μ1 := S μ a6 b6 c6) rfl)))))⟩
    exact lstM rfl (consM (ixM rfl (fun _ _ _ _ q => by cases q) rfl (CL e5) (item_lst ex)) (consM (ixM rfl (fun _ _ _ _ q => by cases q) rfl (CL e6) (item_lst ey)) (consM rfl rfl)))
  · refine ⟨1 + v1, 1 + v2, 1 + v3, a4, b4, c4, ⟨by omega, by omega, by omega, by omega, by omega, by omega⟩, go (.rt (.lst [.int (1 + v1), .int (1 + v2), .int (1 + v3)]) (S μ a4 b4 c4)) (xss_cons (seq_nx (ex_IfF (μ1 := S μ a4 b4 c4) (cmpM rfl (CL e4) rfl (eqi_is (decide_eq_false hz))) rfl) (xss_cons (seq_rt (ex_ret (μ1 := S μ a4 b4 c4) rfl)))))⟩
theorem many_is {n : Nat} {Γ : Cn} {τ : Sl} {μ : Mem} {x y z : Int} (w : Sz x y z) {s : Str} {p1 p2 p3 p4 p5 p6 p7 p8 p9 p10 p11 : Pos} {k0 k1 k2 : Nat} (h : ∀ p, ev (n + 1) Γ (.Name s p) τ μ = .ok (.lst [.int x, .int y, .int z]) μ) :
    ev (n + 4) Γ (.BinOp (.BinOp (.Subscript (.Name s p1) (.Constant (.int 0) k0 p2) p3) .Mult (.Subscript (.Name s p4) (.Constant (.int 1) k1 p5) p6) p7) .Mult (.Subscript (.Name s p8) (.Constant (.int 2) k2 p9) p10) p11) τ μ = .ok (.int (x * y * z)) μ := by
  have h' : ∀ p, ev (n + 2) Γ (.Name s p) τ μ = .ok (.lst [.int x, .int y, .int z]) μ := fun p => h p
  have := w.b1; have := w.b2; have := w.c1; have := w.c2
  exact ev_bin (ev_bin (x := .int x) (y := .int y) (ev_ix rfl (fun _ _ _ _ q => by cases q) (h _) rfl rfl) (ev_ix rfl (fun _ _ _ _ q => by cases q) (h _) rfl rfl) (mul_r (by omega))) (ev_ix rfl (fun _ _ _ _ q => by cases q) (h' _) rfl rfl) (mul_r (by omega))
theorem name_is (μ : Mem) (a b c x y z : Int) (w : Sz x y z) : ∃ n a' b' c', (0 ≤ n ∧ n < x * y * z) ∧ m_l_name [.mut μ.length, .lst [.int x, .int y, .int z]] (S μ a b c) = .ok (.int n) (S μ a' b' c') := by
  have hp := names_pos w
  obtain ⟨v, a1, b1, c1, h1, e1⟩ := next_is μ a b c 5 (by decide) (by decide)
  have go : ∀ (o : Out), xss (ex 60 g_l_name) ((defBody s_l_name).drop 2) [some (.mut μ.length), some (.lst [.int x, .int y, .int z]), some (.int (x * y * z)), some (.int v)] (S μ a1 b1 c1) = o → m_l_name [.mut μ.length, .lst [.int x, .int y, .int z]] (S μ a b c) = o.fin := fun o h =>
    runG_is rfl (xss_cons (seq_nx (ex_set (μ1 := S μ a b c) (i := 2) (t := .int (x * y * z)) rfl (many_is w fun _ => rfl)) (xss_cons (seq_nx (ex_set (μ1 := S μ a1 b1 c1) (i := 3) (t := .int v) rfl (CL e1)) h))))
  by_cases hv : v < 2
  · have p : ∃ n, ixAt [T.int 0, .int (x * y * z - 1)] v = some (.int n) ∧ 0 ≤ n ∧ n < x * y * z := by
      have : v = 0 ∨ v = 1 := by omega
      rcases this with rfl | rfl
      · exact ⟨0, rfl, by decide, hp⟩
      · exact ⟨x * y * z - 1, rfl, by omega, by omega⟩
    obtain ⟨n, en, n0, n1⟩ := p
    exact ⟨n, a1, b1, c1, ⟨n0, n1⟩, go (.rt (.int n) (S μ a1 b1 c1)) (xss_cons (seq_rt (ex_IfT (μ1 := S μ a1 b1 c1) (evT_cmp (ev_cmp rfl rfl rfl (lt_is (decide_eq_true hv)))) (xss_cons (seq_rt (ex_ret (μ1 := S μ a1 b1 c1) (ixM rfl (fun _ _ _ _ q => by cases q) (lstM rfl (consM rfl (consM (ev_bin rfl rfl rfl) rfl))) rfl (item_lst en))))))))⟩
  · obtain ⟨v2, a2, b2, c2, h2, e2⟩ := big_is μ a1 b1 c1
    obtain ⟨v3, a3, b3, c3, h3, e3⟩ := big_is μ a2 b2 c2
    obtain ⟨v4, a4, b4, c4, h4, e4⟩ := big_is μ a3 b3 c3
    refine ⟨(v2 * 10 ^ (24 : Int).toNat + v3 * 10 ^ (12 : Int).toNat + v4) % (x * y * z), a4, b4, c4, ⟨md_nn _ hp, md_lt _ hp⟩, go (.rt (.int ((v2 * 10 ^ (24 : Int).toNat + v3 * 10 ^ (12 : Int).toNat + v4) % (x * y * z))) (S μ a4 b4 c4)) (xss_cons (seq_nx (ex_IfF (μ1 := S μ a1 b1 c1) (evT_cmp (ev_cmp rfl rfl rfl (lt_is (decide_eq_false hv)))) rfl) (xss_cons (seq_rt (ex_ret (μ1 := S μ a4 b4 c4) ?_)))))⟩
    exact binM (binM (binM (binM (CL e2) rfl (mul_l (by omega))) (binM (CL e3) rfl (mul_l (by omega))) rfl) (CL e4) rfl) rfl (mod_is hp)
end NH.K11
end
section
set_option linter.all false
set_option maxRecDepth 100000
set_option maxHeartbeats 4000000
namespace NH.K11
open PySem PySem.Spec PyProof.Rows L2 NH
def cW : Expr := match (defBody s_l_width).drop 2 with | .While c _ _ _ :: _ => c | _ => .Constant .none 0 ⟨0, 0, 0, 0⟩
def bW : List Stmt := match (defBody s_l_width).drop 2 with | .While _ b _ _ :: _ => b | _ => []
theorem w_loop {M : Int} {s : T} {μ : Mem} (h0 : 0 ≤ M) (hm : M < 32 ^ 24) : ∀ (d fuel j : Nat), j + 1 + d = 24 → d < fuel → (j = 0 ∨ 32 ^ j ≤ M) → ∃ F x, Wd (M + 1) F ∧ whileM (evT (ev 59 g_l_width) 59 cW) (xss (ex 59 g_l_width) bW) fuel [some s, some (.int (M / 32 ^ j)), some (.int ((j + 1 : Nat) : Int))] μ = .nx [some s, x, some (.int F)] μ
  | d, 0, j, _, h, _ => absurd h (by omega)
  | d, fuel + 1, j, h2, h3, h4 => by
    by_cases q : 32 ≤ M / 32 ^ j
    · have q' : 32 ^ (j + 1) ≤ M := by
        rw [Int.le_ediv_iff_mul_le (p32_pos j)] at q
        rw [Int.pow_succ, Int.mul_comm]; exact q
      cases d with
      | zero => have : j = 23 := by omega
                subst this; exact absurd q' (by omega)
      | succ d =>
        obtain ⟨F, x, w, e⟩ := w_loop h0 hm d fuel (j + 1) (by omega) (by omega) (.inr q')
        refine ⟨F, x, w, whileT (τ2 := [some s, some (.int (M / 32 ^ (j + 1))), some (.int ((j + 1 + 1 : Nat) : Int))]) (μ2 := μ) (evT_cmp (ev_cmp rfl rfl rfl (ge_is (decide_eq_true q)))) ?_ e⟩
        refine xss_cons (seq_nx (ex_set (μ1 := μ) (i := 1) (t := .int (M / 32 ^ (j + 1))) rfl ?_) (xss_cons (seq_nx (ex_set (μ1 := μ) (i := 2) (t := .int ((j + 1 + 1 : Nat) : Int)) rfl ?_) rfl)))
        · have g : M / 32 ^ (j + 1) = M / 32 ^ j / 32 := by rw [Int.ediv_ediv_of_nonneg (Int.le_of_lt (p32_pos j)), Int.pow_succ]
          rw [g]; exact ev_bin rfl rfl (div_is (by decide))
        · exact ev_bin rfl rfl rfl
    · refine ⟨j + 1, some (.int (M / 32 ^ j)), ⟨by omega, by omega, ?_, ?_⟩, whileF (evT_cmp (ev_cmp rfl rfl rfl (ge_is (decide_eq_false q))))⟩
      · have q2 : M / 32 ^ j < 32 := by omega
        have q3 : M < 32 * 32 ^ j := (Int.ediv_lt_iff_lt_mul (p32_pos j)).mp q2
        rw [Int.pow_succ, Int.mul_comm]; omega
      · rcases h4 with h | h
        · left; omega
        · right; simpa using Int.lt_add_one_of_le h
theorem lwidth_is {x y z : Int} {L : Nat} {μ : Mem} (w : Sz x y z) (wd : Wd (x * y * z) L) : m_l_width [.lst [.int x, .int y, .int z]] μ = .ok (.int L) μ := by
  have hp := names_pos w
  have up : x * y * z ≤ 32 ^ 24 := Int.le_trans wd.up (p32 wd.l2)
  obtain ⟨F, r, v, e⟩ := w_loop (M := x * y * z - 1) (s := .lst [.int x, .int y, .int z]) (μ := μ) (by omega) (by omega) 23 1000000 0 (by decide) (by decide) (.inl rfl)
  rw [show x * y * z - 1 + 1 = x * y * z by omega] at v
  rw [wd.eq v]
  have g : (x * y * z - 1) / 32 ^ 0 = x * y * z - 1 := by simp
  rw [g] at e
  exact runG_is (o := .rt (.int F) μ) rfl (xss_cons (seq_nx (ex_set (μ1 := μ) (i := 1) (t := .int (x * y * z - 1)) rfl (ev_bin (many_is w fun _ => rfl) rfl rfl)) (xss_cons (seq_nx (ex_set (μ1 := μ) (i := 2) (t := .int ((0 + 1 : Nat) : Int)) rfl rfl) (xss_cons (seq_nx e (xss_cons (seq_rt (ex_ret (μ1 := μ) rfl)))))))))
def bT : List Stmt := match (defBody s_l_text).drop 2 with | .For _ _ b _ _ :: _ => b | _ => []
theorem pow25 (k : Nat) : (2 : Int) ^ ((5 * (k : Int)).toNat) = 32 ^ k := by
  rw [show (5 * (k : Int)).toNat = 5 * k by omega, Int.pow_mul]; rfl
theorem wd_step (n : Int) (k : Nat) : sgn (n / 32 ^ k % 32).toNat ++ wd n k = wd n (k + 1) := by
  show (⟨#[code (n / 32 ^ k % 32).toNat] ++ (digs n k).toArray⟩ : Str) = ⟨(digs n (k + 1)).toArray⟩
  rw [digs_cons]
  simp
theorem text_loop {n : Int} {s : T} {μ : Mem} (h0 : 0 ≤ n) : ∀ (m k : Nat) (x : Option T), k + m ≤ 100 → ∃ y, forM (asg g_l_text.N (match (defBody s_l_text).drop 2 with | .For t _ _ _ _ :: _ => t | _ => .Constant .none 0 ⟨0, 0, 0, 0⟩)) (xss (ex 59 g_l_text) bT) ((List.range' k m).map fun (i : Nat) => T.int i) [some s, some (.int n), some (.str SG), some (.str (wd n k)), x] μ = .nx [some s, some (.int n), some (.str SG), some (.str (wd n (k + m))), y] μ
  | 0, k, x, _ => ⟨x, rfl⟩
  | m + 1, k, x, hk => by
    obtain ⟨y, e⟩ := text_loop (n := n) (s := s) (μ := μ) h0 m (k + 1) (some (.int k)) (by omega)
    refine ⟨y, ?_⟩
    rw [show k + (m + 1) = k + 1 + m by omega]
    rw [List.range'_succ, List.map_cons]
    refine forM_cons (τ' := [some s, some (.int n), some (.str SG), some (.str (wd n k)), some (.int k)]) (τ2 := [some s, some (.int n), some (.str SG), some (.str (wd n (k + 1))), some (.int k)]) (μ2 := μ) rfl ?_ e
    refine xss_cons (seq_nx (ex_set (μ1 := μ) (i := 3) (t := .str (wd n (k + 1))) rfl ?_) rfl)
    have hd := m32 (n / 32 ^ k)
    have add : binT .Add (.str (sgn (n / 32 ^ k % 32).toNat)) (.str (wd n k)) μ = .ok (.str (wd n (k + 1))) μ := by
      rw [← wd_step]
      exact if_pos (by rw [wd_len]; show 1 + k ≤ 1000000; omega)
    refine ev_bin (ev_ix rfl (fun _ _ _ _ q => by cases q) rfl (ev_bin (ev_bin rfl (ev_bin rfl rfl (mul_l (by decide))) (shr_is (by omega))) rfl ?_) (sg_item hd.1 hd.2)) rfl add
    show RE.ok (T.int (Builtin.bitAnd (n / 2 ^ (5 * (k : Int)).toNat) 31)) μ = _
    rw [bitAnd_m5, pow25]
theorem ltext_is {x y z n : Int} {L : Nat} {μ : Mem} (w : Sz x y z) (wd' : Wd (x * y * z) L) (h0 : 0 ≤ n) : m_l_text [.lst [.int x, .int y, .int z], .int n] μ = .ok (.str (wd n L)) μ := by
  have l2 := wd'.l2
  obtain ⟨r, e⟩ := text_loop (n := n) (s := .lst [.int x, .int y, .int z]) (μ := μ) h0 L 0 none (by omega)
  rw [Nat.zero_add, ← List.range_eq_range'] at e
  exact runG_is (o := .rt (.str (wd n L)) μ) rfl (xss_cons (seq_nx (ex_set (μ1 := μ) (i := 2) (t := .str SG) rfl rfl) (xss_cons (seq_nx (ex_set (μ1 := μ) (i := 3) (t := .str (wd n 0)) rfl rfl) (xss_cons (seq_nx (ex_For (xs := (List.range L).map fun (i : Nat) => T.int i) rfl rfl (ev_rng (CL (lwidth_is w wd')) (by omega)) e) (xss_cons (seq_rt (ex_ret (μ1 := μ) rfl)))))))))
theorem nes_is {x : Str} {μ : Mem} : cmpT .NotEq (.str x) (.str x) μ = .ok (.bl false) μ := by
  show RE.ok (T.bl (!decide (x = x))) μ = _
  simp
def bR : List Stmt := match (defBody s_l_right).drop 2 with | .For _ _ b _ _ :: _ => b | _ => []
theorem right_loop {x y z : Int} {L : Nat} {nsT : T} {x3 : Option T} {μ : Mem} (w : Sz x y z) (wd' : Wd (x * y * z) L) : ∀ (ns : List Int) (x4 x5 x6 : Option T), (∀ n ∈ ns, 0 ≤ n ∧ n < x * y * z) → ∃ y4 y5 y6, forM (asg g_l_right.N (match (defBody s_l_right).drop 2 with | .For t _ _ _ _ :: _ => t | _ => .Constant .none 0 ⟨0, 0, 0, 0⟩)) (xss (ex 59 g_l_right) bR) (ns.map T.int) [some (shp x y z), some (.lst [.int x, .int y, .int z]), some nsT, x3, x4, x5, x6] μ = .nx [some (shp x y z), some (.lst [.int x, .int y, .int z]), some nsT, x3, y4, y5, y6] μ
  | [], x4, x5, x6, _ => ⟨x4, x5, x6, rfl⟩
  | n :: ns, x4, x5, x6, h => by
    obtain ⟨n0, n1⟩ := h n List.mem_cons_self
    obtain ⟨y4, y5, y6, e⟩ := right_loop (nsT := nsT) (x3 := x3) (μ := μ) w wd' ns (some (.int n)) (some (.str (wd n L))) (some (.int n)) fun k hk => h k (List.mem_cons_of_mem _ hk)
    refine ⟨y4, y5, y6, ?_⟩
    rw [List.map_cons]
    refine forM_cons (τ' := [some (shp x y z), some (.lst [.int x, .int y, .int z]), some nsT, x3, some (.int n), x5, x6]) (τ2 := [some (shp x y z), some (.lst [.int x, .int y, .int z]), some nsT, x3, some (.int n), some (.str (wd n L)), some (.int n)]) (μ2 := μ) rfl ?_ e
    exact xss_cons (seq_nx (ex_set (μ1 := μ) (i := 5) (t := .str (wd n L)) rfl (CL (ltext_is w wd' n0))) (xss_cons (seq_nx (ex_IfF (μ1 := μ) (evT_cmp (ev_cmp rfl (CL (show_name_is w wd' n0 n1)) rfl nes_is)) rfl) (xss_cons (seq_nx (ex_set (μ1 := μ) (i := 6) (t := .int n) rfl (CL (read_name_is w wd' n0 n1))) (xss_cons (seq_nx (ex_IfF (μ1 := μ) (evT_OrF (evT_NotF (evT_call rfl)) (evT_OrF (evT_call rfl) (evT_Or1 (evT_cmp (ev_cmp rfl rfl rfl (nei_is (by simp))))))) rfl) rfl)))))))
theorem right_is {x y z : Int} {L : Nat} {μ : Mem} (w : Sz x y z) (wd' : Wd (x * y * z) L) (ns : List Int) (h : ∀ n ∈ ns, 0 ≤ n ∧ n < x * y * z) : m_l_right [shp x y z, .lst [.int x, .int y, .int z], .lst (ns.map T.int)] μ = .ok (.bl true) μ := by
  obtain ⟨y4, y5, y6, e⟩ := right_loop (nsT := .lst (ns.map T.int)) (x3 := some (.int L)) (μ := μ) w wd' ns none none none h
  exact runG_is (o := .rt (.bl true) μ) rfl (xss_cons (seq_nx (ex_set (μ1 := μ) (i := 3) (t := .int L) rfl (CL (width_is w wd'))) (xss_cons (seq_nx (ex_IfF (μ1 := μ) (evT_OrF (evT_NotF (evT_call rfl)) (evT_OrF (evT_call rfl) (evT_Or1 (evT_cmp (ev_cmp rfl rfl (CL (lwidth_is w wd')) (nei_is (by simp))))))) rfl) (xss_cons (seq_nx (ex_For (xs := ns.map T.int) rfl rfl rfl e) (xss_cons (seq_rt (ex_ret (μ1 := μ) rfl)))))))))
/-- what is kept of the shape ahead -/
def Good (t : T) : Prop := t = .non ∨ ∃ x y z L ns, t = .tup [shp x y z, .lst [.int x, .int y, .int z], .lst (List.map T.int ns)] ∧ Sz x y z ∧ Wd (x * y * z) L ∧ ∀ n ∈ ns, 0 ≤ n ∧ n < x * y * z
theorem wd_of {x y z : Int} (w : Sz x y z) : ∃ L, Wd (x * y * z) L := by
  refine wd_some ?_
  have h1 : x * y ≤ 1000000000000 * 1000000000000 := Int.mul_le_mul w.a2 w.b2 (by have := w.b1; omega) (by decide)
  have h2 : x * y * z ≤ 1000000000000 * 1000000000000 * 1000000000000 := Int.mul_le_mul h1 w.c2 (by have := w.c1; omega) (by decide)
  exact Int.le_trans h2 (by decide)
def bL : List Stmt := match (defBody s_law).drop 1 with | .For _ _ b _ _ :: _ => b | _ => []
def bK : List Stmt := match bL.drop 4 with | .For _ _ b _ _ :: _ => b | _ => []
theorem turn_is {x y z : Int} {L : Nat} {ns : List Int} {sc t : T} {x2 x3 x6 : Option T} {μ : Mem} (g : Good t) (w : Sz x y z) (v : Wd (x * y * z) L) (h : ∀ n ∈ ns, 0 ≤ n ∧ n < x * y * z) :
    xss (ex 58 g_law) bK [some sc, some t, x2, x3, some (.lst [.int x, .int y, .int z]), some (shp x y z), x6, some (.lst (List.map T.int ns))] μ = .nx [some sc, some t, x2, x3, some (.lst [.int x, .int y, .int z]), some (shp x y z), x6, some (.lst (List.map T.int ns))] μ := by
  refine xss_cons (seq_nx (ex_IfF (μ1 := μ) (evT_NotF (evT_call (CL (right_is w v ns h)))) rfl) (xss_cons (seq_nx (ex_IfF (μ1 := μ) ?_ rfl) rfl)))
  rcases g with rfl | ⟨x', y', z', L', ns', rfl, w', v', h'⟩
  · exact evT_AndF (evT_cmp (ev_cmp rfl rfl rfl rfl))
  · exact evT_AndT (evT_cmp (ev_cmp rfl rfl rfl rfl)) (evT_And1 (evT_NotF (evT_call (CL (right_is w' v' ns' h')))))
theorem cell_is {c : Int} {sc t : T} {x3 x4 x5 x6 x7 : Option T} {μ : Mem} (g : Good t) :
    ∃ t' y3 y4 y5 y6 y7 μ', Good t' ∧ xss (ex 59 g_law) bL [some sc, some t, some (.int c), x3, x4, x5, x6, x7] μ = .nx [some sc, some t', some (.int c), y3, y4, y5, y6, y7] μ' := by
  obtain ⟨x, y, z, a1, b1, c1, w, e1⟩ := shape_is μ (c / 2 * (1 - c % 2)) (c % 2147483647) 0
  obtain ⟨L, v⟩ := wd_of w
  have hp := names_pos w
  obtain ⟨n1, a2, b2, c2, h2, e2⟩ := name_is μ a1 b1 c1 x y z w
  obtain ⟨n2, a3, b3, c3, h3, e3⟩ := name_is μ a2 b2 c2 x y z w
  obtain ⟨n3, a4, b4, c4, h4, e4⟩ := name_is μ a3 b3 c3 x y z w
  obtain ⟨n4, a5, b5, c5, h5, e5⟩ := name_is μ a4 b4 c4 x y z w
  have hn : ∀ n ∈ [0, x * y * z - 1, n1, n2, n3, n4], 0 ≤ n ∧ n < x * y * z := by
    intro n hn
    simp only [List.mem_cons, List.not_mem_nil, or_false] at hn
    rcases hn with rfl | rfl | rfl | rfl | rfl | rfl <;> omega
  have K := fun k => turn_is (sc := sc) (t := t) (x2 := some (.int c)) (x3 := some (.mut μ.length)) (x6 := some (.int k)) (μ := S μ a5 b5 c5) g w v hn
  refine ⟨.tup [shp x y z, .lst [.int x, .int y, .int z], .lst (List.map T.int [0, x * y * z - 1, n1, n2, n3, n4])], some (.mut μ.length), some (.lst [.int x, .int y, .int z]), some (shp x y z), some (.int 1), some (.lst (List.map T.int [0, x * y * z - 1, n1, n2, n3, n4])), S μ a5 b5 c5, .inr ⟨x, y, z, L, _, rfl, w, v, hn⟩, ?_⟩
  refine xss_cons (seq_nx (ex_set (μ1 := S μ (c / 2 * (1 - c % 2)) (c % 2147483647) 0) (i := 3) (t := .mut μ.length) rfl (CL begin_is)) (xss_cons (seq_nx (ex_set (μ1 := S μ a1 b1 c1) (i := 4) (t := .lst [.int x, .int y, .int z]) rfl (CL e1)) (xss_cons (seq_nx (ex_set (μ1 := S μ a1 b1 c1) (i := 5) (t := shp x y z) rfl (ev_mk rfl rfl rfl rfl rfl (mk_shp w.a1 w.b1 w.c1))) (xss_cons (seq_nx (ex_set (μ1 := S μ a5 b5 c5) (i := 7) (t := .lst (List.map T.int [0, x * y * z - 1, n1, n2, n3, n4])) rfl ?_) (xss_cons (seq_nx (τ := [some sc, some t, some (.int c), some (.mut μ.length), some (.lst [.int x, .int y, .int z]), some (shp x y z), some (.int 1), some (.lst (List.map T.int [0, x * y * z - 1, n1, n2, n3, n4]))]) (μ := S μ a5 b5 c5) (ex_For (xs := [.int 0, .int 1]) rfl rfl rfl ?_) (xss_cons (seq_nx (ex_set (μ1 := S μ a5 b5 c5) (i := 1) (t := .tup [shp x y z, .lst [.int x, .int y, .int z], .lst (List.map T.int [0, x * y * z - 1, n1, n2, n3, n4])]) rfl rfl) rfl)))))))))))
  · refine binM (μ1 := S μ a1 b1 c1) (μ2 := S μ a5 b5 c5) (x := .lst [.int 0, .int (x * y * z - 1)]) (y := .lst [.int n1, .int n2, .int n3, .int n4]) (lstM rfl (consM rfl (consM (ev_bin (many_is w fun _ => rfl) rfl rfl) rfl))) ?_ rfl
    exact ev_compM (xs := [.int 0, .int 1, .int 2, .int 3]) rfl rfl (by decide) (compM_stepM rfl (CL e2) (compM_stepM rfl (CL e3) (compM_stepM rfl (CL e4) (compM_stepM rfl (CL e5) rfl))))
  · refine forM_cons (τ' := [some sc, some t, some (.int c), some (.mut μ.length), some (.lst [.int x, .int y, .int z]), some (shp x y z), some (.int 0), some (.lst (List.map T.int [0, x * y * z - 1, n1, n2, n3, n4]))]) (τ2 := [some sc, some t, some (.int c), some (.mut μ.length), some (.lst [.int x, .int y, .int z]), some (shp x y z), some (.int 0), some (.lst (List.map T.int [0, x * y * z - 1, n1, n2, n3, n4]))]) (μ2 := S μ a5 b5 c5) rfl (K 0) ?_
    refine forM_cons (τ' := [some sc, some t, some (.int c), some (.mut μ.length), some (.lst [.int x, .int y, .int z]), some (shp x y z), some (.int 1), some (.lst (List.map T.int [0, x * y * z - 1, n1, n2, n3, n4]))]) (τ2 := [some sc, some t, some (.int c), some (.mut μ.length), some (.lst [.int x, .int y, .int z]), some (shp x y z), some (.int 1), some (.lst (List.map T.int [0, x * y * z - 1, n1, n2, n3, n4]))]) (μ2 := S μ a5 b5 c5) rfl (K 1) ?_
    exact forM_nil
theorem loop_is {sc : T} : ∀ (xs : List Int) (μ : Mem) (t : T) (x2 x3 x4 x5 x6 x7 : Option T), Good t → ∃ t' y2 y3 y4 y5 y6 y7 μ', forM (asg g_law.N (match (defBody s_law).drop 1 with | .For t _ _ _ _ :: _ => t | _ => .Constant .none 0 ⟨0, 0, 0, 0⟩)) (xss (ex 59 g_law) bL) (xs.map T.int) [some sc, some t, x2, x3, x4, x5, x6, x7] μ = .nx [some sc, some t', y2, y3, y4, y5, y6, y7] μ'
  | [], μ, t, x2, x3, x4, x5, x6, x7, _ => ⟨t, x2, x3, x4, x5, x6, x7, μ, rfl⟩
  | c :: xs, μ, t, x2, x3, x4, x5, x6, x7, g => by
    obtain ⟨t1, y3, y4, y5, y6, y7, μ1, g1, e⟩ := cell_is (sc := sc) (c := c) (t := t) (x3 := x3) (x4 := x4) (x5 := x5) (x6 := x6) (x7 := x7) (μ := μ) g
    obtain ⟨t2, w2, w3, w4, w5, w6, w7, μ2, e2⟩ := loop_is xs μ1 t1 (some (.int c)) y3 y4 y5 y6 y7 g1
    exact ⟨t2, w2, w3, w4, w5, w6, w7, μ2, forM_cons rfl e e2⟩
theorem tells : Tells m_law := by
  intro ns hn
  have hcut : ∃ xs : List Int, cutL (ns.map T.int) none (some 8) = xs.map T.int ∧ xs.length ≤ 63 := ⟨(ns.drop (sIxN ns.length 0 none)).take (sIxN ns.length ns.length (some 8) - sIxN ns.length 0 none), by simp [cutL, List.map_take, List.map_drop], by simp; omega⟩
  obtain ⟨xs, hcut, hx⟩ := hcut
  obtain ⟨t', y2, y3, y4, y5, y6, y7, μ, e⟩ := loop_is (sc := .lst (ns.map T.int)) (0 :: xs) [] .non none none none none none none (.inl rfl)
  have add : binT .Add (.lst [.int 0]) (.lst (xs.map T.int)) [] = .ok (.lst (List.map T.int (0 :: xs))) [] := by
    exact if_pos (by simp; exact Nat.le_trans (Nat.add_le_add_left hx 1) (by decide))
  refine ⟨μ, ?_⟩
  refine runG_is (o := .rt (.bl true) μ) rfl (xss_cons (seq_nx (ex_set (μ1 := []) (i := 1) (t := .non) rfl rfl) (xss_cons (seq_nx (ex_For (xs := List.map T.int (0 :: xs)) rfl rfl ?_ e) (xss_cons (seq_rt (ex_ret (μ1 := μ) rfl)))))))
  refine bind_ok (a := T.lst (List.map T.int (0 :: xs))) (μ := []) (ev_bin (y := .lst (xs.map T.int)) rfl ?_ add) rfl
  rw [← hcut]; rfl
end NH.K11
end
section
set_option linter.all false
set_option maxRecDepth 100000
set_option maxHeartbeats 4000000
namespace NH.K11
open PySem PySem.Spec PyProof.Rows L2 NH
theorem all_mk {l : PySem.W.OpenLaw} {w : World} {K : PySem.W.Frag} {h : Heap} {mg : Str → Option Value} {fa : Addr} {C0 : Addr} {C1 : Addr} {C2 : Addr} {f0 : Addr} {od0 an0 : Option Addr} {sl0 : Array (Option Value)} {oc0 kV0 dc0 pm0 cd0 ct0 : Value} {f1 : Addr} {od1 an1 : Option Addr} {sl1 : Array (Option Value)} {oc1 kV1 dc1 pm1 cd1 ct1 : Value} {f2 : Addr} {od2 an2 : Option Addr} {sl2 : Array (Option Value)} {oc2 kV2 dc2 pm2 cd2 ct2 : Value} {f3 : Addr} {od3 an3 : Option Addr} {sl3 : Array (Option Value)} {oc3 kV3 dc3 pm3 cd3 ct3 : Value} {CC3 : Addr} {f4 : Addr} {od4 an4 : Option Addr} {sl4 : Array (Option Value)} {oc4 kV4 dc4 pm4 cd4 ct4 : Value} {f5 : Addr} {od5 an5 : Option Addr} {sl5 : Array (Option Value)} {oc5 kV5 dc5 pm5 cd5 ct5 : Value} {f6 : Addr} {od6 an6 : Option Addr} {sl6 : Array (Option Value)} {oc6 kV6 dc6 pm6 cd6 ct6 : Value} {tk7 : Tok} {tk8 : Tok} {f9 : Addr} {od9 an9 : Option Addr} {sl9 : Array (Option Value)} {oc9 kV9 dc9 pm9 cd9 ct9 : Value} {f10 : Addr} {od10 an10 : Option Addr} {sl10 : Array (Option Value)} {oc10 kV10 dc10 pm10 cd10 ct10 : Value} {f11 : Addr} {od11 an11 : Option Addr} {sl11 : Array (Option Value)} {oc11 kV11 dc11 pm11 cd11 ct11 : Value} {f12 : Addr} {od12 an12 : Option Addr} {sl12 : Array (Option Value)} {oc12 kV12 dc12 pm12 cd12 ct12 : Value} {f13 : Addr} {od13 an13 : Option Addr} {sl13 : Array (Option Value)} {oc13 kV13 dc13 pm13 cd13 ct13 : Value} {f14 : Addr} {od14 an14 : Option Addr} {sl14 : Array (Option Value)} {oc14 kV14 dc14 pm14 cd14 ct14 : Value} {f15 : Addr} {od15 an15 : Option Addr} {sl15 : Array (Option Value)} {oc15 kV15 dc15 pm15 cd15 ct15 : Value} {f16 : Addr} {od16 an16 : Option Addr} {sl16 : Array (Option Value)} {oc16 kV16 dc16 pm16 cd16 ct16 : Value} {f17 : Addr} {od17 an17 : Option Addr} {sl17 : Array (Option Value)} {oc17 kV17 dc17 pm17 cd17 ct17 : Value} {f18 : Addr} {od18 an18 : Option Addr} {sl18 : Array (Option Value)} {oc18 kV18 dc18 pm18 cd18 ct18 : Value} {f19 : Addr} {od19 an19 : Option Addr} {sl19 : Array (Option Value)} {oc19 kV19 dc19 pm19 cd19 ct19 : Value} {f20 : Addr} {od20 an20 : Option Addr} {sl20 : Array (Option Value)} {oc20 kV20 dc20 pm20 cd20 ct20 : Value} {f21 : Addr} {od21 an21 : Option Addr} {sl21 : Array (Option Value)} {oc21 kV21 dc21 pm21 cd21 ct21 : Value} {f22 : Addr} {od22 an22 : Option Addr} {sl22 : Array (Option Value)} {oc22 kV22 dc22 pm22 cd22 ct22 : Value} {f23 : Addr} {od23 an23 : Option Addr} {sl23 : Array (Option Value)} {oc23 kV23 dc23 pm23 cd23 ct23 : Value} {f24 : Addr} {od24 an24 : Option Addr} {sl24 : Array (Option Value)} {oc24 kV24 dc24 pm24 cd24 ct24 : Value} (X : K.In h) (G : h.Ns mainGlobals mg) (hfa : mg "law" = some (.ref fa))
    (e0 : PySem.W.nsIn K mainGlobals "HouseError" = some (some (.ref C0)))
    (e1 : PySem.W.nsIn K mainGlobals "NoShape" = some (some (.ref C1)))
    (e2 : PySem.W.nsIn K mainGlobals "NoName" = some (some (.ref C2)))
    (a0 : PySem.W.nsIn K mainGlobals "is_whole" = some (some (.ref f0)))
    (l0 : K.lookup f0 = some ⟨oc0, od0, .func (PySem.W.fnOf "is_whole" "is_whole" (defArgs s_is_whole) (defBody s_is_whole) (defScope s_is_whole) .none kV0 dc0 pm0 an0 cd0 ct0), sl0⟩)
    (c0 : PySem.W.codeIn K cd0 "is_whole" = true)
    (k0 : PySem.W.keepIn K (.ref f0) = true)
    (a1 : PySem.W.nsIn K mainGlobals "is_size" = some (some (.ref f1)))
    (l1 : K.lookup f1 = some ⟨oc1, od1, .func (PySem.W.fnOf "is_size" "is_size" (defArgs s_is_size) (defBody s_is_size) (defScope s_is_size) .none kV1 dc1 pm1 an1 cd1 ct1), sl1⟩)
    (c1 : PySem.W.codeIn K cd1 "is_size" = true)
    (k1 : PySem.W.keepIn K (.ref f1) = true)
    (a2 : PySem.W.nsIn K mainGlobals "is_below" = some (some (.ref f2)))
    (l2 : K.lookup f2 = some ⟨oc2, od2, .func (PySem.W.fnOf "is_below" "is_below" (defArgs s_is_below) (defBody s_is_below) (defScope s_is_below) .none kV2 dc2 pm2 an2 cd2 ct2), sl2⟩)
    (c2 : PySem.W.codeIn K cd2 "is_below" = true)
    (k2 : PySem.W.keepIn K (.ref f2) = true)
    (q3 : PySem.W.nsIn K mainGlobals "Shape" = some (some (.ref CC3)))
    (i3 : PySem.W.findIn K (.ref CC3) "__init__" = some (some (.ref f3)))
    (j3 : PySem.W.isFn K (.ref f3) = true)
    (l3 : K.lookup f3 = some ⟨oc3, od3, .func (PySem.W.fnOf "__init__" "Shape.__init__" (defArgs s_Shape) (defBody s_Shape) (defScope s_Shape) .none kV3 dc3 pm3 an3 cd3 ct3), sl3⟩)
    (c3 : PySem.W.codeIn K cd3 "Shape.__init__" = true)
    (k3 : PySem.W.keepIn K (.ref f3) = true)
    (mk3 : PySem.W.makesIn K CC3 = true)
    (kk3 : PySem.W.keepIn K (.ref CC3) = true)
    (a4 : PySem.W.nsIn K mainGlobals "names_in" = some (some (.ref f4)))
    (l4 : K.lookup f4 = some ⟨oc4, od4, .func (PySem.W.fnOf "names_in" "names_in" (defArgs s_names_in) (defBody s_names_in) (defScope s_names_in) .none kV4 dc4 pm4 an4 cd4 ct4), sl4⟩)
    (c4 : PySem.W.codeIn K cd4 "names_in" = true)
    (k4 : PySem.W.keepIn K (.ref f4) = true)
    (a5 : PySem.W.nsIn K mainGlobals "is_name" = some (some (.ref f5)))
    (l5 : K.lookup f5 = some ⟨oc5, od5, .func (PySem.W.fnOf "is_name" "is_name" (defArgs s_is_name) (defBody s_is_name) (defScope s_is_name) .none kV5 dc5 pm5 an5 cd5 ct5), sl5⟩)
    (c5 : PySem.W.codeIn K cd5 "is_name" = true)
    (k5 : PySem.W.keepIn K (.ref f5) = true)
    (a6 : PySem.W.nsIn K mainGlobals "check_name" = some (some (.ref f6)))
    (l6 : K.lookup f6 = some ⟨oc6, od6, .func (PySem.W.fnOf "check_name" "check_name" (defArgs s_check_name) (defBody s_check_name) (defScope s_check_name) .none kV6 dc6 pm6 an6 cd6 ct6), sl6⟩)
    (c6 : PySem.W.codeIn K cd6 "check_name" = true)
    (k6 : PySem.W.keepIn K (.ref f6) = true)
    (v7 : PySem.W.nsIn K mainGlobals "SIGNS" = some (some (.str "0123456789abcdefghjkmnpqrstvwxyz" tk7)))
    (v8 : PySem.W.nsIn K mainGlobals "BASE" = some (some (.int 32 tk8)))
    (a9 : PySem.W.nsIn K mainGlobals "length_for" = some (some (.ref f9)))
    (l9 : K.lookup f9 = some ⟨oc9, od9, .func (PySem.W.fnOf "length_for" "length_for" (defArgs s_length_for) (defBody s_length_for) (defScope s_length_for) .none kV9 dc9 pm9 an9 cd9 ct9), sl9⟩)
    (c9 : PySem.W.codeIn K cd9 "length_for" = true)
    (k9 : PySem.W.keepIn K (.ref f9) = true)
    (a10 : PySem.W.nsIn K mainGlobals "word_of" = some (some (.ref f10)))
    (l10 : K.lookup f10 = some ⟨oc10, od10, .func (PySem.W.fnOf "word_of" "word_of" (defArgs s_word_of) (defBody s_word_of) (defScope s_word_of) .none kV10 dc10 pm10 an10 cd10 ct10), sl10⟩)
    (c10 : PySem.W.codeIn K cd10 "word_of" = true)
    (k10 : PySem.W.keepIn K (.ref f10) = true)
    (a11 : PySem.W.nsIn K mainGlobals "is_word" = some (some (.ref f11)))
    (l11 : K.lookup f11 = some ⟨oc11, od11, .func (PySem.W.fnOf "is_word" "is_word" (defArgs s_is_word) (defBody s_is_word) (defScope s_is_word) .none kV11 dc11 pm11 an11 cd11 ct11), sl11⟩)
    (c11 : PySem.W.codeIn K cd11 "is_word" = true)
    (k11 : PySem.W.keepIn K (.ref f11) = true)
    (a12 : PySem.W.nsIn K mainGlobals "number_of" = some (some (.ref f12)))
    (l12 : K.lookup f12 = some ⟨oc12, od12, .func (PySem.W.fnOf "number_of" "number_of" (defArgs s_number_of) (defBody s_number_of) (defScope s_number_of) .none kV12 dc12 pm12 an12 cd12 ct12), sl12⟩)
    (c12 : PySem.W.codeIn K cd12 "number_of" = true)
    (k12 : PySem.W.keepIn K (.ref f12) = true)
    (a13 : PySem.W.nsIn K mainGlobals "width" = some (some (.ref f13)))
    (l13 : K.lookup f13 = some ⟨oc13, od13, .func (PySem.W.fnOf "width" "width" (defArgs s_width) (defBody s_width) (defScope s_width) .none kV13 dc13 pm13 an13 cd13 ct13), sl13⟩)
    (c13 : PySem.W.codeIn K cd13 "width" = true)
    (k13 : PySem.W.keepIn K (.ref f13) = true)
    (a14 : PySem.W.nsIn K mainGlobals "show_name" = some (some (.ref f14)))
    (l14 : K.lookup f14 = some ⟨oc14, od14, .func (PySem.W.fnOf "show_name" "show_name" (defArgs s_show_name) (defBody s_show_name) (defScope s_show_name) .none kV14 dc14 pm14 an14 cd14 ct14), sl14⟩)
    (c14 : PySem.W.codeIn K cd14 "show_name" = true)
    (k14 : PySem.W.keepIn K (.ref f14) = true)
    (a15 : PySem.W.nsIn K mainGlobals "read_name" = some (some (.ref f15)))
    (l15 : K.lookup f15 = some ⟨oc15, od15, .func (PySem.W.fnOf "read_name" "read_name" (defArgs s_read_name) (defBody s_read_name) (defScope s_read_name) .none kV15 dc15 pm15 an15 cd15 ct15), sl15⟩)
    (c15 : PySem.W.codeIn K cd15 "read_name" = true)
    (k15 : PySem.W.keepIn K (.ref f15) = true)
    (a16 : PySem.W.nsIn K mainGlobals "_law_begin" = some (some (.ref f16)))
    (l16 : K.lookup f16 = some ⟨oc16, od16, .func (PySem.W.fnOf "_law_begin" "_law_begin" (defArgs s_l_begin) (defBody s_l_begin) (defScope s_l_begin) .none kV16 dc16 pm16 an16 cd16 ct16), sl16⟩)
    (c16 : PySem.W.codeIn K cd16 "_law_begin" = true)
    (k16 : PySem.W.keepIn K (.ref f16) = true)
    (a17 : PySem.W.nsIn K mainGlobals "_law_next" = some (some (.ref f17)))
    (l17 : K.lookup f17 = some ⟨oc17, od17, .func (PySem.W.fnOf "_law_next" "_law_next" (defArgs s_l_next) (defBody s_l_next) (defScope s_l_next) .none kV17 dc17 pm17 an17 cd17 ct17), sl17⟩)
    (c17 : PySem.W.codeIn K cd17 "_law_next" = true)
    (k17 : PySem.W.keepIn K (.ref f17) = true)
    (a18 : PySem.W.nsIn K mainGlobals "_law_big" = some (some (.ref f18)))
    (l18 : K.lookup f18 = some ⟨oc18, od18, .func (PySem.W.fnOf "_law_big" "_law_big" (defArgs s_l_big) (defBody s_l_big) (defScope s_l_big) .none kV18 dc18 pm18 an18 cd18 ct18), sl18⟩)
    (c18 : PySem.W.codeIn K cd18 "_law_big" = true)
    (k18 : PySem.W.keepIn K (.ref f18) = true)
    (a19 : PySem.W.nsIn K mainGlobals "_law_shape" = some (some (.ref f19)))
    (l19 : K.lookup f19 = some ⟨oc19, od19, .func (PySem.W.fnOf "_law_shape" "_law_shape" (defArgs s_l_shape) (defBody s_l_shape) (defScope s_l_shape) .none kV19 dc19 pm19 an19 cd19 ct19), sl19⟩)
    (c19 : PySem.W.codeIn K cd19 "_law_shape" = true)
    (k19 : PySem.W.keepIn K (.ref f19) = true)
    (a20 : PySem.W.nsIn K mainGlobals "_law_name" = some (some (.ref f20)))
    (l20 : K.lookup f20 = some ⟨oc20, od20, .func (PySem.W.fnOf "_law_name" "_law_name" (defArgs s_l_name) (defBody s_l_name) (defScope s_l_name) .none kV20 dc20 pm20 an20 cd20 ct20), sl20⟩)
    (c20 : PySem.W.codeIn K cd20 "_law_name" = true)
    (k20 : PySem.W.keepIn K (.ref f20) = true)
    (a21 : PySem.W.nsIn K mainGlobals "_law_width" = some (some (.ref f21)))
    (l21 : K.lookup f21 = some ⟨oc21, od21, .func (PySem.W.fnOf "_law_width" "_law_width" (defArgs s_l_width) (defBody s_l_width) (defScope s_l_width) .none kV21 dc21 pm21 an21 cd21 ct21), sl21⟩)
    (c21 : PySem.W.codeIn K cd21 "_law_width" = true)
    (k21 : PySem.W.keepIn K (.ref f21) = true)
    (a22 : PySem.W.nsIn K mainGlobals "_law_text" = some (some (.ref f22)))
    (l22 : K.lookup f22 = some ⟨oc22, od22, .func (PySem.W.fnOf "_law_text" "_law_text" (defArgs s_l_text) (defBody s_l_text) (defScope s_l_text) .none kV22 dc22 pm22 an22 cd22 ct22), sl22⟩)
    (c22 : PySem.W.codeIn K cd22 "_law_text" = true)
    (k22 : PySem.W.keepIn K (.ref f22) = true)
    (a23 : PySem.W.nsIn K mainGlobals "_law_right" = some (some (.ref f23)))
    (l23 : K.lookup f23 = some ⟨oc23, od23, .func (PySem.W.fnOf "_law_right" "_law_right" (defArgs s_l_right) (defBody s_l_right) (defScope s_l_right) .none kV23 dc23 pm23 an23 cd23 ct23), sl23⟩)
    (c23 : PySem.W.codeIn K cd23 "_law_right" = true)
    (k23 : PySem.W.keepIn K (.ref f23) = true)
    (a24 : PySem.W.nsIn K mainGlobals "law" = some (some (.ref f24)))
    (l24 : K.lookup f24 = some ⟨oc24, od24, .func (PySem.W.fnOf "law" "law" (defArgs s_law) (defBody s_law) (defScope s_law) .none kV24 dc24 pm24 an24 cd24 ct24), sl24⟩)
    (c24 : PySem.W.codeIn K cd24 "law" = true)
    (k24 : PySem.W.keepIn K (.ref f24) = true)
    (x0 : PySem.W.excIn K C0 veMro "ValueError.__new__" = true)
    (x1 : PySem.W.excIn K C1 veMro "ValueError.__new__" = true)
    (x2 : PySem.W.excIn K C2 veMro "ValueError.__new__" = true)
    (zl : noLs K = true)
    (zc : chk K [("HouseError", C0), ("NoShape", C1), ("NoName", C2), ("Shape", CC3)] tab = true)
    (zg : chkGs K [("HouseError", C0), ("NoShape", C1), ("NoName", C2), ("Shape", CC3)] ["ValueError", "all", "bool", "int", "isinstance", "len", "range", "reversed", "str"] ["HouseError", "NoShape", "NoName"] = true) :
    ∃ fd : FuncData, (∀ (s : Shared) (v : Value), BindsTo s fd ⟨[v], []⟩ [("_law_script", v)]) ∧ ∀ base : Heap, K.In base → base.Ns mainGlobals mg → FnOk l.prog w K mg base (CX1 l.prog w) 24 fa fd ["_law_script"] (spLaw K) := by
  have e := hfa.symm.trans (PySem.W.mg_of X G a24)
  cases e
  have F0 := fun_mk (st := s_is_whole) l0 c0 k0
  have b0 := F0.binds (ps := ["thing"]) fun _ _ _ _ _ _ us hl => match us, hl with | [_], _ => rfl
  have F1 := fun_mk (st := s_is_size) l1 c1 k1
  have b1 := F1.binds (ps := ["thing"]) fun _ _ _ _ _ _ us hl => match us, hl with | [_], _ => rfl
  have F2 := fun_mk (st := s_is_below) l2 c2 k2
  have b2 := F2.binds (ps := ["thing", "bound"]) fun _ _ _ _ _ _ us hl => match us, hl with | [_, _], _ => rfl
  have F3 := fun_mk (st := s_Shape) l3 c3 k3
  have b3 := F3.binds (ps := ["self", "moments", "houses", "counts"]) fun _ _ _ _ _ _ us hl => match us, hl with | [_, _, _, _], _ => rfl
  have F4 := fun_mk (st := s_names_in) l4 c4 k4
  have b4 := F4.binds (ps := ["shape"]) fun _ _ _ _ _ _ us hl => match us, hl with | [_], _ => rfl
  have F5 := fun_mk (st := s_is_name) l5 c5 k5
  have b5 := F5.binds (ps := ["shape", "thing"]) fun _ _ _ _ _ _ us hl => match us, hl with | [_, _], _ => rfl
  have F6 := fun_mk (st := s_check_name) l6 c6 k6
  have b6 := F6.binds (ps := ["shape", "thing"]) fun _ _ _ _ _ _ us hl => match us, hl with | [_, _], _ => rfl
  have F9 := fun_mk (st := s_length_for) l9 c9 k9
  have b9 := F9.binds (ps := ["many"]) fun _ _ _ _ _ _ us hl => match us, hl with | [_], _ => rfl
  have F10 := fun_mk (st := s_word_of) l10 c10 k10
  have b10 := F10.binds (ps := ["number", "length"]) fun _ _ _ _ _ _ us hl => match us, hl with | [_, _], _ => rfl
  have F11 := fun_mk (st := s_is_word) l11 c11 k11
  have b11 := F11.binds (ps := ["thing", "length"]) fun _ _ _ _ _ _ us hl => match us, hl with | [_, _], _ => rfl
  have F12 := fun_mk (st := s_number_of) l12 c12 k12
  have b12 := F12.binds (ps := ["word"]) fun _ _ _ _ _ _ us hl => match us, hl with | [_], _ => rfl
  have F13 := fun_mk (st := s_width) l13 c13 k13
  have b13 := F13.binds (ps := ["shape"]) fun _ _ _ _ _ _ us hl => match us, hl with | [_], _ => rfl
  have F14 := fun_mk (st := s_show_name) l14 c14 k14
  have b14 := F14.binds (ps := ["shape", "name"]) fun _ _ _ _ _ _ us hl => match us, hl with | [_, _], _ => rfl
  have F15 := fun_mk (st := s_read_name) l15 c15 k15
  have b15 := F15.binds (ps := ["shape", "text"]) fun _ _ _ _ _ _ us hl => match us, hl with | [_, _], _ => rfl
  have F16 := fun_mk (st := s_l_begin) l16 c16 k16
  have b16 := F16.binds (ps := ["_law_cell"]) fun _ _ _ _ _ _ us hl => match us, hl with | [_], _ => rfl
  have F17 := fun_mk (st := s_l_next) l17 c17 k17
  have b17 := F17.binds (ps := ["_law_state", "_law_base"]) fun _ _ _ _ _ _ us hl => match us, hl with | [_, _], _ => rfl
  have F18 := fun_mk (st := s_l_big) l18 c18 k18
  have b18 := F18.binds (ps := ["_law_state"]) fun _ _ _ _ _ _ us hl => match us, hl with | [_], _ => rfl
  have F19 := fun_mk (st := s_l_shape) l19 c19 k19
  have b19 := F19.binds (ps := ["_law_state"]) fun _ _ _ _ _ _ us hl => match us, hl with | [_], _ => rfl
  have F20 := fun_mk (st := s_l_name) l20 c20 k20
  have b20 := F20.binds (ps := ["_law_state", "_law_sizes"]) fun _ _ _ _ _ _ us hl => match us, hl with | [_, _], _ => rfl
  have F21 := fun_mk (st := s_l_width) l21 c21 k21
  have b21 := F21.binds (ps := ["_law_sizes"]) fun _ _ _ _ _ _ us hl => match us, hl with | [_], _ => rfl
  have F22 := fun_mk (st := s_l_text) l22 c22 k22
  have b22 := F22.binds (ps := ["_law_sizes", "_law_name_here"]) fun _ _ _ _ _ _ us hl => match us, hl with | [_, _], _ => rfl
  have F23 := fun_mk (st := s_l_right) l23 c23 k23
  have b23 := F23.binds (ps := ["_law_shape_here", "_law_sizes", "_law_names"]) fun _ _ _ _ _ _ us hl => match us, hl with | [_, _, _], _ => rfl
  have F24 := fun_mk (st := s_law) l24 c24 k24
  have b24 := F24.binds (ps := ["_law_script"]) fun _ _ _ _ _ _ us hl => match us, hl with | [_], _ => rfl
  refine ⟨PySem.W.fnOf "law" "law" (defArgs s_law) (defBody s_law) (defScope s_law) .none kV24 dc24 pm24 an24 cd24 ct24, fun s v => .of_eq rfl, fun base kb nb => ?_⟩
  have g0 : GsOk l.prog w K mg base [("HouseError", C0), ("NoShape", C1), ("NoName", C2), ("Shape", CC3)] 0 gs0 := plainGs_ok kb nb zg fun x hx C hC => by
    simp only [List.mem_cons, List.not_mem_nil, or_false] at hx
    rcases hx with rfl | rfl | rfl
    · cases hC; exact x0
    · cases hC; exact x1
    · cases hC; exact x2
  have W0 := fn_rule (n := 60) (ps := ["thing"]) (md_of (N := ["thing"]) (G := ["isinstance", "int", "bool"]) (cel := []) kb nb zc g0) l0 c0 rfl
  have g1 : GsOk l.prog w K mg base [("HouseError", C0), ("NoShape", C1), ("NoName", C2), ("Shape", CC3)] 1 gs1 := GsOk.add (g0.mono (by decide)) ⟨f0, _, _, 1, PySem.W.mg_of kb nb a0, k0, b0, by decide, W0, fun ts μ h => runG_len h⟩ rfl
  have W1 := fn_rule (n := 60) (ps := ["thing"]) (md_of (N := ["thing"]) (G := ["is_whole"]) (cel := []) kb nb zc g1) l1 c1 rfl
  have g2 : GsOk l.prog w K mg base [("HouseError", C0), ("NoShape", C1), ("NoName", C2), ("Shape", CC3)] 2 gs2 := GsOk.add (g1.mono (by decide)) ⟨f1, _, _, 2, PySem.W.mg_of kb nb a1, k1, b1, by decide, W1, fun ts μ h => runG_len h⟩ rfl
  have W2 := fn_rule (n := 60) (ps := ["thing", "bound"]) (md_of (N := ["thing", "bound"]) (G := ["is_whole"]) (cel := []) kb nb zc g2) l2 c2 rfl
  have g3 : GsOk l.prog w K mg base [("HouseError", C0), ("NoShape", C1), ("NoName", C2), ("Shape", CC3)] 3 gs3 := GsOk.add (g2.mono (by decide)) ⟨f2, _, _, 3, PySem.W.mg_of kb nb a2, k2, b2, by decide, W2, fun ts μ h => runG_len h⟩ rfl
  have W3 := fn_rule (n := 60) (ps := ["self", "moments", "houses", "counts"]) (md_of (N := ["self", "moments", "houses", "counts"]) (G := ["is_size", "NoShape"]) (cel := []) kb nb zc g3) l3 c3 rfl
  have g4 : GsOk l.prog w K mg base [("HouseError", C0), ("NoShape", C1), ("NoName", C2), ("Shape", CC3)] 5 gs4 := GsOk.add (g3.mono (by decide)) ⟨CC3, f3, _, _, 4, rfl, PySem.W.mg_of kb nb q3, ⟨mk3, i3, j3, kk3⟩, b3, by decide, W3, fun ts μ h => runG_len h⟩ rfl
  have W4 := fn_rule (n := 60) (ps := ["shape"]) (md_of (N := ["shape"]) (G := []) (cel := []) kb nb zc g4) l4 c4 rfl
  have g5 : GsOk l.prog w K mg base [("HouseError", C0), ("NoShape", C1), ("NoName", C2), ("Shape", CC3)] 6 gs5 := GsOk.add (g4.mono (by decide)) ⟨f4, _, _, 6, PySem.W.mg_of kb nb a4, k4, b4, by decide, W4, fun ts μ h => runG_len h⟩ rfl
  have W5 := fn_rule (n := 60) (ps := ["shape", "thing"]) (md_of (N := ["shape", "thing"]) (G := ["is_below", "names_in"]) (cel := []) kb nb zc g5) l5 c5 rfl
  have g6 : GsOk l.prog w K mg base [("HouseError", C0), ("NoShape", C1), ("NoName", C2), ("Shape", CC3)] 7 gs6 := GsOk.add (g5.mono (by decide)) ⟨f5, _, _, 7, PySem.W.mg_of kb nb a5, k5, b5, by decide, W5, fun ts μ h => runG_len h⟩ rfl
  have W6 := fn_rule (n := 60) (ps := ["shape", "thing"]) (md_of (N := ["shape", "thing"]) (G := ["is_name", "NoName"]) (cel := []) kb nb zc g6) l6 c6 rfl
  have g7 : GsOk l.prog w K mg base [("HouseError", C0), ("NoShape", C1), ("NoName", C2), ("Shape", CC3)] 8 gs7 := GsOk.add (g6.mono (by decide)) ⟨f6, _, _, 8, PySem.W.mg_of kb nb a6, k6, b6, by decide, W6, fun ts μ h => runG_len h⟩ rfl
  have g8 : GsOk l.prog w K mg base [("HouseError", C0), ("NoShape", C1), ("NoName", C2), ("Shape", CC3)] 8 gs8 := GsOk.add (g7.mono (by decide)) ⟨_, .str "0123456789abcdefghjkmnpqrstvwxyz", PySem.W.mg_of kb nb v7, ⟨_, rfl⟩, fun _ _ _ => rfl⟩ rfl
  have g9 : GsOk l.prog w K mg base [("HouseError", C0), ("NoShape", C1), ("NoName", C2), ("Shape", CC3)] 8 gs9 := GsOk.add (g8.mono (by decide)) ⟨_, .int 32, PySem.W.mg_of kb nb v8, ⟨_, rfl⟩, fun _ _ _ => rfl⟩ rfl
  have W9 := fn_rule (n := 60) (ps := ["many"]) (md_of (N := ["many", "length", "room"]) (G := ["BASE"]) (cel := []) kb nb zc g9) l9 c9 rfl
  have g10 : GsOk l.prog w K mg base [("HouseError", C0), ("NoShape", C1), ("NoName", C2), ("Shape", CC3)] 9 gs10 := GsOk.add (g9.mono (by decide)) ⟨f9, _, _, 9, PySem.W.mg_of kb nb a9, k9, b9, by decide, W9, fun ts μ h => runG_len h⟩ rfl
  have W10 := fn_rule (n := 60) (ps := ["number", "length"]) (md_ofO (o := ["signs"]) (N := ["number", "length", "signs", "rest", "place"]) (G := ["range", "SIGNS", "BASE", "reversed"]) (cel := []) kb nb zc g10) l10 c10 rfl
  have g11 : GsOk l.prog w K mg base [("HouseError", C0), ("NoShape", C1), ("NoName", C2), ("Shape", CC3)] 10 gs11 := GsOk.add (g10.mono (by decide)) ⟨f10, _, _, 10, PySem.W.mg_of kb nb a10, k10, b10, by decide, fn_pure W10, fun ts μ h => pureFn_len h⟩ rfl
  have W11 := fn_rule (n := 60) (ps := ["thing", "length"]) (md_of (N := ["thing", "length"]) (G := ["isinstance", "str", "len", "all"]) (cel := []) kb nb zc g11) l11 c11 rfl
  have g12 : GsOk l.prog w K mg base [("HouseError", C0), ("NoShape", C1), ("NoName", C2), ("Shape", CC3)] 11 gs12 := GsOk.add (g11.mono (by decide)) ⟨f11, _, _, 11, PySem.W.mg_of kb nb a11, k11, b11, by decide, W11, fun ts μ h => runG_len h⟩ rfl
  have W12 := fn_rule (n := 60) (ps := ["word"]) (md_of (N := ["word", "number", "sign"]) (G := ["BASE", "SIGNS"]) (cel := []) kb nb zc g12) l12 c12 rfl
  have g13 : GsOk l.prog w K mg base [("HouseError", C0), ("NoShape", C1), ("NoName", C2), ("Shape", CC3)] 12 gs13 := GsOk.add (g12.mono (by decide)) ⟨f12, _, _, 12, PySem.W.mg_of kb nb a12, k12, b12, by decide, W12, fun ts μ h => runG_len h⟩ rfl
  have W13 := fn_rule (n := 60) (ps := ["shape"]) (md_of (N := ["shape"]) (G := ["length_for", "names_in"]) (cel := []) kb nb zc g13) l13 c13 rfl
  have g14 : GsOk l.prog w K mg base [("HouseError", C0), ("NoShape", C1), ("NoName", C2), ("Shape", CC3)] 13 gs14 := GsOk.add (g13.mono (by decide)) ⟨f13, _, _, 13, PySem.W.mg_of kb nb a13, k13, b13, by decide, W13, fun ts μ h => runG_len h⟩ rfl
  have W14 := fn_rule (n := 60) (ps := ["shape", "name"]) (md_of (N := ["shape", "name"]) (G := ["check_name", "word_of", "width"]) (cel := []) kb nb zc g14) l14 c14 rfl
  have g15 : GsOk l.prog w K mg base [("HouseError", C0), ("NoShape", C1), ("NoName", C2), ("Shape", CC3)] 14 gs15 := GsOk.add (g14.mono (by decide)) ⟨f14, _, _, 14, PySem.W.mg_of kb nb a14, k14, b14, by decide, W14, fun ts μ h => runG_len h⟩ rfl
  have W15 := fn_rule (n := 60) (ps := ["shape", "text"]) (md_of (N := ["shape", "text", "name"]) (G := ["is_word", "width", "number_of", "is_name"]) (cel := []) kb nb zc g15) l15 c15 rfl
  have g16 : GsOk l.prog w K mg base [("HouseError", C0), ("NoShape", C1), ("NoName", C2), ("Shape", CC3)] 15 gs16 := GsOk.add (g15.mono (by decide)) ⟨f15, _, _, 15, PySem.W.mg_of kb nb a15, k15, b15, by decide, W15, fun ts μ h => runG_len h⟩ rfl
  have W16 := fn_rule (n := 60) (ps := ["_law_cell"]) (md_ofO (o := ["return"]) (N := ["_law_cell"]) (G := []) (cel := []) kb nb zc g16) l16 c16 rfl
  have g17 : GsOk l.prog w K mg base [("HouseError", C0), ("NoShape", C1), ("NoName", C2), ("Shape", CC3)] 16 gs17 := GsOk.add (g16.mono (by decide)) ⟨f16, _, _, 16, PySem.W.mg_of kb nb a16, k16, b16, by decide, W16, fun ts μ h => runG_len h⟩ rfl
  have W17 := fn_rule (n := 60) (ps := ["_law_state", "_law_base"]) (md_of (N := ["_law_state", "_law_base", "_law_found", "_law_number"]) (G := []) (cel := []) kb nb zc g17) l17 c17 rfl
  have g18 : GsOk l.prog w K mg base [("HouseError", C0), ("NoShape", C1), ("NoName", C2), ("Shape", CC3)] 17 gs18 := GsOk.add (g17.mono (by decide)) ⟨f17, _, _, 17, PySem.W.mg_of kb nb a17, k17, b17, by decide, W17, fun ts μ h => runG_len h⟩ rfl
  have W18 := fn_rule (n := 60) (ps := ["_law_state"]) (md_of (N := ["_law_state", "_law_far"]) (G := ["_law_next"]) (cel := []) kb nb zc g18) l18 c18 rfl
  have g19 : GsOk l.prog w K mg base [("HouseError", C0), ("NoShape", C1), ("NoName", C2), ("Shape", CC3)] 18 gs19 := GsOk.add (g18.mono (by decide)) ⟨f18, _, _, 18, PySem.W.mg_of kb nb a18, k18, b18, by decide, W18, fun ts μ h => runG_len h⟩ rfl
  have W19 := fn_rule (n := 60) (ps := ["_law_state"]) (md_of (N := ["_law_state", "_law_sizes"]) (G := ["_law_big", "_law_next"]) (cel := []) kb nb zc g19) l19 c19 rfl
  have g20 : GsOk l.prog w K mg base [("HouseError", C0), ("NoShape", C1), ("NoName", C2), ("Shape", CC3)] 19 gs20 := GsOk.add (g19.mono (by decide)) ⟨f19, _, _, 19, PySem.W.mg_of kb nb a19, k19, b19, by decide, W19, fun ts μ h => runG_len h⟩ rfl
  have W20 := fn_rule (n := 60) (ps := ["_law_state", "_law_sizes"]) (md_of (N := ["_law_state", "_law_sizes", "_law_many", "_law_way"]) (G := ["_law_next", "_law_big"]) (cel := []) kb nb zc g20) l20 c20 rfl
  have g21 : GsOk l.prog w K mg base [("HouseError", C0), ("NoShape", C1), ("NoName", C2), ("Shape", CC3)] 20 gs21 := GsOk.add (g20.mono (by decide)) ⟨f20, _, _, 20, PySem.W.mg_of kb nb a20, k20, b20, by decide, W20, fun ts μ h => runG_len h⟩ rfl
  have W21 := fn_rule (n := 60) (ps := ["_law_sizes"]) (md_of (N := ["_law_sizes", "_law_many", "_law_found"]) (G := []) (cel := []) kb nb zc g21) l21 c21 rfl
  have g22 : GsOk l.prog w K mg base [("HouseError", C0), ("NoShape", C1), ("NoName", C2), ("Shape", CC3)] 21 gs22 := GsOk.add (g21.mono (by decide)) ⟨f21, _, _, 21, PySem.W.mg_of kb nb a21, k21, b21, by decide, W21, fun ts μ h => runG_len h⟩ rfl
  have W22 := fn_rule (n := 60) (ps := ["_law_sizes", "_law_name_here"]) (md_of (N := ["_law_sizes", "_law_name_here", "_law_signs", "_law_text_here", "_law_place"]) (G := ["range", "_law_width"]) (cel := []) kb nb zc g22) l22 c22 rfl
  have g23 : GsOk l.prog w K mg base [("HouseError", C0), ("NoShape", C1), ("NoName", C2), ("Shape", CC3)] 22 gs23 := GsOk.add (g22.mono (by decide)) ⟨f22, _, _, 22, PySem.W.mg_of kb nb a22, k22, b22, by decide, W22, fun ts μ h => runG_len h⟩ rfl
  have W23 := fn_rule (n := 60) (ps := ["_law_shape_here", "_law_sizes", "_law_names"]) (md_of (N := ["_law_shape_here", "_law_sizes", "_law_names", "_law_told", "_law_name_here", "_law_text_here", "_law_found"]) (G := ["width", "isinstance", "int", "bool", "_law_width", "_law_text", "show_name", "read_name"]) (cel := []) kb nb zc g23) l23 c23 rfl
  have g24 : GsOk l.prog w K mg base [("HouseError", C0), ("NoShape", C1), ("NoName", C2), ("Shape", CC3)] 23 gs24 := GsOk.add (g23.mono (by decide)) ⟨f23, _, _, 23, PySem.W.mg_of kb nb a23, k23, b23, by decide, W23, fun ts μ h => runG_len h⟩ rfl
  have W24 := fn_rule (n := 60) (ps := ["_law_script"]) (md_of (N := ["_law_script", "_law_ahead", "_law_cell", "_law_state", "_law_sizes", "_law_shape_here", "_law_k", "_law_names"]) (G := ["_law_begin", "_law_shape", "Shape", "range", "_law_right"]) (cel := ["_law_state", "_law_sizes"]) kb nb zc g24) l24 c24 rfl
  exact law_of (f := m_law) zl tells W24
end NH.K11
end
section
open PySem PySem.W PyProof.Rows
set_option maxRecDepth 100000 in
set_option maxHeartbeats 0 in
theorem PySem.Challenge.cw_namehouses_k11_names_as_texts_holds : PySem.Challenge.rw_namehouses_k11_names_as_texts.Holds := by
  w_on; o_law; k_head; (case hw => w_witness2)
  k_fill
  refine NH.walk (l := PySem.Challenge.rw_namehouses_k11_names_as_texts) (k := 24) (x := "_law_script") (by decide) rfl rfl (fun w h Y => PySem.W.kIn_of Y) ?F
  case F =>
    intro w mg fa h KX G hmg
    refine' NH.K11.all_mk KX G hmg ?ze0 ?ze1 ?ze2 ?za0 ?zl0 ?zc0 ?zk0 ?za1 ?zl1 ?zc1 ?zk1 ?za2 ?zl2 ?zc2 ?zk2 ?zq3 ?zi3 ?zj3 ?zl3 ?zc3 ?zk3 ?zmk3 ?zkk3 ?za4 ?zl4 ?zc4 ?zk4 ?za5 ?zl5 ?zc5 ?zk5 ?za6 ?zl6 ?zc6 ?zk6 ?zv7 ?zv8 ?za9 ?zl9 ?zc9 ?zk9 ?za10 ?zl10 ?zc10 ?zk10 ?za11 ?zl11 ?zc11 ?zk11 ?za12 ?zl12 ?zc12 ?zk12 ?za13 ?zl13 ?zc13 ?zk13 ?za14 ?zl14 ?zc14 ?zk14 ?za15 ?zl15 ?zc15 ?zk15 ?za16 ?zl16 ?zc16 ?zk16 ?za17 ?zl17 ?zc17 ?zk17 ?za18 ?zl18 ?zc18 ?zk18 ?za19 ?zl19 ?zc19 ?zk19 ?za20 ?zl20 ?zc20 ?zk20 ?za21 ?zl21 ?zc21 ?zk21 ?za22 ?zl22 ?zc22 ?zk22 ?za23 ?zl23 ?zc23 ?zk23 ?za24 ?zl24 ?zc24 ?zk24 ?zx0 ?zx1 ?zx2 ?zzl ?zzc ?zzg
    (case ze0 => k_is)
    (case ze1 => k_is)
    (case ze2 => k_is)
    (case za0 => k_is)
    (case zl0 => k_is)
    (case zc0 => k_is)
    (case zk0 => k_is)
    (case za1 => k_is)
    (case zl1 => k_is)
    (case zc1 => k_is)
    (case zk1 => k_is)
    (case za2 => k_is)
    (case zl2 => k_is)
    (case zc2 => k_is)
    (case zk2 => k_is)
    (case zq3 => k_is)
    (case zi3 => k_is)
    (case zj3 => k_is)
    (case zl3 => k_is)
    (case zc3 => k_is)
    (case zk3 => k_is)
    (case zmk3 => k_is)
    (case zkk3 => k_is)
    (case za4 => k_is)
    (case zl4 => k_is)
    (case zc4 => k_is)
    (case zk4 => k_is)
    (case za5 => k_is)
    (case zl5 => k_is)
    (case zc5 => k_is)
    (case zk5 => k_is)
    (case za6 => k_is)
    (case zl6 => k_is)
    (case zc6 => k_is)
    (case zk6 => k_is)
    (case zv7 => k_is)
    (case zv8 => k_is)
    (case za9 => k_is)
    (case zl9 => k_is)
    (case zc9 => k_is)
    (case zk9 => k_is)
    (case za10 => k_is)
    (case zl10 => k_is)
    (case zc10 => k_is)
    (case zk10 => k_is)
    (case za11 => k_is)
    (case zl11 => k_is)
    (case zc11 => k_is)
    (case zk11 => k_is)
    (case za12 => k_is)
    (case zl12 => k_is)
    (case zc12 => k_is)
    (case zk12 => k_is)
    (case za13 => k_is)
    (case zl13 => k_is)
    (case zc13 => k_is)
    (case zk13 => k_is)
    (case za14 => k_is)
    (case zl14 => k_is)
    (case zc14 => k_is)
    (case zk14 => k_is)
    (case za15 => k_is)
    (case zl15 => k_is)
    (case zc15 => k_is)
    (case zk15 => k_is)
    (case za16 => k_is)
    (case zl16 => k_is)
    (case zc16 => k_is)
    (case zk16 => k_is)
    (case za17 => k_is)
    (case zl17 => k_is)
    (case zc17 => k_is)
    (case zk17 => k_is)
    (case za18 => k_is)
    (case zl18 => k_is)
    (case zc18 => k_is)
    (case zk18 => k_is)
    (case za19 => k_is)
    (case zl19 => k_is)
    (case zc19 => k_is)
    (case zk19 => k_is)
    (case za20 => k_is)
    (case zl20 => k_is)
    (case zc20 => k_is)
    (case zk20 => k_is)
    (case za21 => k_is)
    (case zl21 => k_is)
    (case zc21 => k_is)
    (case zk21 => k_is)
    (case za22 => k_is)
    (case zl22 => k_is)
    (case zc22 => k_is)
    (case zk22 => k_is)
    (case za23 => k_is)
    (case zl23 => k_is)
    (case zc23 => k_is)
    (case zk23 => k_is)
    (case za24 => k_is)
    (case zl24 => k_is)
    (case zc24 => k_is)
    (case zk24 => k_is)
    (case zx0 => k_exc)
    (case zx1 => k_exc)
    (case zx2 => k_exc)
    (case zzl => exact rfl)
    (case zzc => exact rfl)
    (case zzg => exact rfl)
end
