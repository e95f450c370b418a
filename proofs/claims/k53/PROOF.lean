import PyProof.Rows.All
import Wide.All
import OpenK.AllK
import Wide.FinOn
import Lean
import PyProof.EqAt
import PyProof.EqKinds
import PyProof.TupleCall
import PyProof.StationsW
import PySem.Syntax
import KE.KLam
import PyProof.StrBlockH
import KE.KRevIter
import PyProof.JoinWalk
import PyProof.CollectIter
import PyProof.StrCalls
import PyProof.DictStraight
import PyProof.Rows.Range3
import PyProof.StrWalks
import PyProof.LongRange
import KE.KTryMore
import KE.KItem
import PyProof.NsDelKeeps
import PyProof.DictTable
import PyProof.WalkInts
import PyProof.Rows.SortStr
import PyProof.Rows.SortWalk
import PyProof.EnumMake
import PyProof.EnumFor
import KE.KRevSl
import PyProof.Rows.StrNews
import KE.KMinBuiltin
import KE.KSortKey
import PyProof.ZipIter
import PyProof.ExcInit
import PyProof.ExcClass2
import PyProof.InstStoreFacts
import PyProof.FString
import KE.LcSums
import KE.KSortTup
import PyProof.Rows.SortRev
import PySem.Challenge.RW_namehouses_k53_how_far_a_book_is_back
set_option Elab.async false
namespace PySem.W.Fast
theorem tw12189451580004594562 : True := ⟨⟩
theorem tw16370706498275040506 : True := ⟨⟩
theorem tw10720685135255044733 : True := ⟨⟩
theorem tw13134711793325278247 : True := ⟨⟩
theorem tw5300833726823241331 : True := ⟨⟩
theorem tw5699563938438453668 : True := ⟨⟩
theorem tw7407423179558763034 : True := ⟨⟩
theorem tw15152107227079308697 : True := ⟨⟩
theorem tw2943765552758671072 : True := ⟨⟩
theorem tw13268134551551063659 : True := ⟨⟩
theorem tw12472287572350026155 : True := ⟨⟩
theorem tw17539965104132906770 : True := ⟨⟩
theorem tw8400769667640381889 : True := ⟨⟩
theorem tw13876191977531534225 : True := ⟨⟩
theorem tw13536777344443339026 : True := ⟨⟩
theorem tw8367340388068090923 : True := ⟨⟩
theorem tw4144435506429249207 : True := ⟨⟩
theorem tw10575658432797097408 : True := ⟨⟩
theorem tw3883967434085898611 : True := ⟨⟩
theorem tw5111119785390633905 : True := ⟨⟩
theorem tw9200167353830695897 : True := ⟨⟩
theorem tw9025753276842198224 : True := ⟨⟩
theorem tw7888706256554891880 : True := ⟨⟩
theorem tw9419702688328324252 : True := ⟨⟩
theorem tw14975524268240782385 : True := ⟨⟩
theorem tw1312284374820461101 : True := ⟨⟩
theorem tw17688074700316512006 : True := ⟨⟩
theorem tw5485759104018895308 : True := ⟨⟩
theorem tw13929738223585110745 : True := ⟨⟩
theorem tw373785418248781555 : True := ⟨⟩
theorem tw17840869553110999516 : True := ⟨⟩
theorem tw8520857208570848013 : True := ⟨⟩
theorem tw12507166107621344399 : True := ⟨⟩
theorem tw18249969528038958091 : True := ⟨⟩
theorem tw64282551467078252 : True := ⟨⟩
theorem tw14954526891792710783 : True := ⟨⟩
theorem tw6065509528235008039 : True := ⟨⟩
theorem tw13673277063502704417 : True := ⟨⟩
theorem tw15841709766110512374 : True := ⟨⟩
theorem tw8289733776254937835 : True := ⟨⟩
theorem tw9876527857352064533 : True := ⟨⟩
theorem tw15389067165088146122 : True := ⟨⟩
theorem tw7451569991410229102 : True := ⟨⟩
theorem tw12986734048035509222 : True := ⟨⟩
theorem tw779337928831460826 : True := ⟨⟩
theorem tw6582039244247900466 : True := ⟨⟩
theorem tw8325892108015637280 : True := ⟨⟩
end PySem.W.Fast
section
set_option Elab.async false
set_option linter.all false
set_option maxRecDepth 100000
namespace L2
open PySem PySem.Spec PyProof.Rows
abbrev Key := Sum Int Str
def keyIs : Key → Value → Bool
  | .inl k, v => Value.isInt k v
  | .inr x, v => Value.isStrOf x v
def keyH (w : World) : Key → Int
  | .inl k => hashInt k
  | .inr x => hashStr w x
theorem keyIs_shape : ∀ {k : Key} {v : Value}, keyIs k v = true → (∃ i t, k = Sum.inl i ∧ v = Value.int i t) ∨ (∃ x t, k = Sum.inr x ∧ v = Value.str x t)
  | .inl i, v, h => by
    obtain ⟨t, e⟩ := Value.isInt_shape (k := i) (v := v) h
    exact .inl ⟨i, t, rfl, e⟩
  | .inr x, v, h => by
    obtain ⟨t, e⟩ := Value.isStrOf_shape (x := x) (v := v) h
    exact .inr ⟨x, t, rfl, e⟩
theorem key_ll (a b : Int) : decide ((Sum.inl a : Key) = Sum.inl b) = (a == b) := by
  by_cases e : a = b
  · subst e; simp
  · have h : ¬ (Sum.inl a : Key) = Sum.inl b := fun q => e (Sum.inl.inj q)
    rw [decide_eq_false h]
    exact (beq_eq_false_iff_ne.mpr e).symm
theorem key_rr (a b : Str) : decide ((Sum.inr a : Key) = Sum.inr b) = decide (a = b) := by
  by_cases e : a = b
  · subst e; simp
  · have h : ¬ (Sum.inr a : Key) = Sum.inr b := fun q => e (Sum.inr.inj q)
    rw [decide_eq_false h, decide_eq_false e]
theorem key_lr (a : Int) (b : Str) : decide ((Sum.inl a : Key) = Sum.inr b) = false := decide_eq_false (fun q => nomatch q)
theorem key_rl (a : Str) (b : Int) : decide ((Sum.inr a : Key) = Sum.inl b) = false := decide_eq_false (fun q => nomatch q)
def mixKind (prog : Program) (w : World) : PySem.KeyKind prog w Key where
  is := keyIs
  hash := keyH w
  inj := fun v a b ha hb => by
    rcases keyIs_shape ha with ⟨i, t, rfl, rfl⟩ | ⟨x, t, rfl, rfl⟩
    · rcases keyIs_shape hb with ⟨j, u, rfl, e⟩ | ⟨y, u, rfl, e⟩
      · injection e with e1 _; rw [e1]
      · exact nomatch e
    · rcases keyIs_shape hb with ⟨j, u, rfl, e⟩ | ⟨y, u, rfl, e⟩
      · exact nomatch e
      · injection e with e1 _; rw [e1]
  byValue := fun k v h => by
    rcases keyIs_shape h with ⟨i, t, rfl, rfl⟩ | ⟨x, t, rfl, rfl⟩ <;> rfl
  pyHash := fun hv h => by
    rcases keyIs_shape hv with ⟨i, t, rfl, rfl⟩ | ⟨x, t, rfl, rfl⟩
    · exact wpAny_pyHash_int h
    · exact wpAny_pyHash_str h
  eqBool := fun hu hv h => by
    rcases keyIs_shape hu with ⟨i, t, rfl, rfl⟩ | ⟨x, t, rfl, rfl⟩
    · rcases keyIs_shape hv with ⟨j, u, rfl, rfl⟩ | ⟨y, u, rfl, rfl⟩
      · rw [key_ll] at h; exact wpAny_eqBool_int h
      · rw [key_lr] at h; exact SeqAt.EqAt.int_str i t y u _ _ _ _ h
    · rcases keyIs_shape hv with ⟨j, u, rfl, rfl⟩ | ⟨y, u, rfl, rfl⟩
      · rw [key_rl] at h; exact SeqAt.EqAt.str_int x t j u _ _ _ _ h
      · rw [key_rr] at h; exact wpAny_eqBool_str h
  «strs» := fun k x t v h => by
    rcases keyIs_shape h with ⟨i, u, rfl, e⟩ | ⟨y, u, rfl, e⟩
    · exact nomatch e
    · injection e with e1 _
      subst e1
      cases v <;> rfl
end L2
namespace L2
open PySem PySem.Spec PyProof.Rows
inductive V where
  | non | bl (b : Bool) | int (i : Int) | str (x : Str) | byt (b : Array UInt8) | flt (b : UInt64) | ref (a : Addr) | ty (n : String)
  deriving DecidableEq
def RelV : V → Value → Prop
  | .non, u => u = Value.none
  | .bl b, u => u = Value.bool b
  | .int i, u => ∃ t, u = Value.int i t
  | .str x, u => ∃ t, u = Value.str x t
  | .byt b, u => ∃ t, u = Value.bytes b t
  | .flt b, u => ∃ t, u = Value.float b t
  | .ref a, u => u = Value.ref a
  | .ty n, u => u = Value.type n
abbrev Vals : List V → List Value → Prop := Paired RelV
theorem Vals.length {xs : List V} {us : List Value} (r : Vals xs us) : xs.length = us.length := Paired.length r
theorem Vals.get : ∀ {xs : List V} {us : List Value} {i : Nat} {x : V}, Vals xs us → xs[i]? = some x → ∃ u, us[i]? = some u ∧ RelV x u
  | _, _, _, _, .nil, e => by simp at e
  | _, _, 0, _, .cons r _, e => by simp at e; subst e; exact ⟨_, rfl, r⟩
  | _, _, i + 1, x, .cons _ t, e => by
    obtain ⟨u, h1, h2⟩ := Vals.get (i := i) (x := x) t (by simpa using e)
    exact ⟨u, by simpa using h1, h2⟩
theorem Vals.set {x : V} {u : Value} (r : RelV x u) : ∀ {xs : List V} {us : List Value} (i : Nat), Vals xs us → Vals (xs.set i x) (us.set i u)
  | _, _, _, .nil => .nil
  | _, _, 0, .cons _ t => .cons r t
  | _, _, i + 1, .cons q t => .cons q (Vals.set r i t)
theorem Vals.append : ∀ {xs ys : List V} {us ws : List Value}, Vals xs us → Vals ys ws → Vals (xs ++ ys) (us ++ ws)
  | _, _, _, _, .nil, s => s
  | _, _, _, _, .cons r t, s => .cons r (Vals.append t s)
theorem Vals.take : ∀ {xs : List V} {us : List Value} (n : Nat), Vals xs us → Vals (xs.take n) (us.take n)
  | _, _, 0, _ => .nil
  | _, _, _ + 1, .nil => .nil
  | _, _, n + 1, .cons r t => .cons r (Vals.take n t)
theorem Vals.drop : ∀ {xs : List V} {us : List Value} (n : Nat), Vals xs us → Vals (xs.drop n) (us.drop n)
  | _, _, 0, r => r
  | _, _, _ + 1, .nil => .nil
  | _, _, n + 1, .cons _ t => Vals.drop n t
def RelO : Option V → Option Value → Prop
  | some v, some u => RelV v u
  | none, none => True
  | _, _ => False
def KV {κ : Type} : List (κ × V) → List (κ × Value) → Prop := Paired fun (p : κ × V) (q : κ × Value) => p.1 = q.1 ∧ RelV p.2 q.2
def kV : Key → V
  | .inl i => .int i
  | .inr x => .str x
inductive HO where
  | lst (xs : List V)
  | tup (xs : List V)
  | dK (kvs : List (Key × V)) | dT (kvs : List (List Key × V))
  | set (S : Int → Bool) (n : Nat)
  | ins (C dx : Addr) (fs : List (Str × V))
  | own (x : Addr)
  | xd (fs : List (Str × V))
  | met (f x : Addr)
  | rng (lo hi : Int)
  | frz (o : Obj) (u : HO)
  | tbl (ps : Array Value)
  | ext (φ : Heap → Prop)
abbrev Hp := Addr → Option HO
def upd (H : Hp) (a : Addr) (o : HO) : Hp := fun b => if b = a then some o else H b
theorem upd_same {H : Hp} {a : Addr} {o : HO} : upd H a o a = some o := by unfold upd; rw [if_pos rfl]
theorem upd_ne {H : Hp} {a b : Addr} {o : HO} (h : b ≠ a) : upd H a o b = H b := by unfold upd; rw [if_neg h]
theorem ne_of_none {H : Hp} {a b : Addr} {o : HO} (h : H a = some o) (h' : H b = none) : a ≠ b := by
  intro e; subst e; rw [h] at h'; cases h'
section
variable (P : Program) (w : World)
def ObjOk (H : Hp) (h : Heap) (a : Addr) : HO → Prop
  | .lst xs => xs.length ≤ sizeLine ∧ ∃ (its : List Value) (n : Nat), Vals xs its ∧ h.get? a = some { cls := .type "list", data := .seq its.toArray n }
  | .tup xs => xs.length ≤ sizeLine ∧ ∃ its : List Value, Vals xs its ∧ IsTup h a its.toArray
  | .dK kvs => kvs.length ≤ sizeLine ∧ (a == sysModules) = false ∧ ∃ vs, KV kvs vs ∧ h.DictOf (mixKind P w) a vs
  | .dT kvs => kvs.length ≤ sizeLine ∧ (a == sysModules) = false ∧ ∃ xs : List (List Key × Addr × Value),
      Paired (fun (p : List Key × V) (q : List Key × Addr × Value) => p.1 = q.1 ∧ H q.2.1 = some (.tup (p.1.map kV)) ∧ RelV p.2 q.2.2) kvs xs ∧
      ∃ o es ep, h.get? a = some o ∧ o.ExactDict ∧ o.data = .dict es ep ∧ es.toList = xs.map (entryOfKey (tupleKind (mixKind P w))) ∧ (xs.map (·.1)).Nodup
  | .set S n => h.SetOf (intKind P w) a S n
  | .ins C dx fs => H dx = some (.own a) ∧ fs.length ≤ 1000 ∧ dx ≠ a ∧ h.get? a = some (PySem.W.instObj C dx) ∧
      ∃ mA, h.Ns1 dx mA ∧ (∀ f, RelO (fs.lookup f) (mA f)) ∧ PySem.Within mA (fs.map (·.1))
  | .own _ => ∃ o, h.get? a = some o
  | .xd fs => ∃ mA, h.Ns1 a mA ∧ ∀ f, RelO (fs.lookup f) (mA f)
  | .rng lo hi => ∃ t u v, h.get? a = some { cls := .type "range", data := .fields #[.int lo t, .int hi u, .int 1 v] }
  | .frz o u => h.get? a = some o ∧ ObjOk H h a u
  | .tbl ps => h.get? a = some { cls := .none, data := .fields ps }
  | .met f x => h.get? a = some (PySem.W.methodObj (.ref f) (.ref x))
  | .ext φ => φ h ∧ (∃ o, h.get? a = some o) ∧ ∀ h1 h2 : Heap, φ h1 → (∀ o, h1.get? a = some o → h2.get? a = some o) → φ h2
def HOk (H : Hp) (h : Heap) : Prop := ∀ a o, H a = some o → ObjOk P w H h a o
end
section
variable {P : Program} {w : World} {H H' : Hp} {h h' : Heap} {a : Addr} {o : HO}
theorem ObjOk.lt (x : ObjOk P w H h a o) : a < h.objs.size := by
  cases o with
  | lst xs => obtain ⟨_, _, _, _, e⟩ := x; exact Heap.lt_size e
  | tup xs => obtain ⟨_, _, _, p⟩ := x; exact p.lt
  | dK kvs => obtain ⟨_, _, _, _, o, _, _, e, _⟩ := x; exact Heap.lt_size e
  | dT kvs => obtain ⟨_, _, _, _, o, _, _, e, _⟩ := x; exact Heap.lt_size e
  | set S n => obtain ⟨o, _, _, _, e, _⟩ := x; exact Heap.lt_size e
  | ins C dx fs => obtain ⟨_, _, _, e, _⟩ := x; exact Heap.lt_size e
  | own y => obtain ⟨_, e⟩ := x; exact Heap.lt_size e
  | xd fs => obtain ⟨_, ⟨_, _, _, e, _⟩, _⟩ := x; exact Heap.lt_size e
  | rng lo hi => obtain ⟨_, _, _, e⟩ := x; exact Heap.lt_size e
  | frz ob u => obtain ⟨e, _⟩ := x; exact Heap.lt_size e
  | tbl ps => exact Heap.lt_size (show h.get? a = some _ from x)
  | met f y => exact Heap.lt_size (show h.get? a = some _ from x)
  | ext φ => obtain ⟨_, ⟨_, e⟩, _⟩ := x; exact Heap.lt_size e
theorem Paired.mapP {α β : Type} {F G : α → β → Prop} : ∀ {l₁ : List α} {l₂ : List β}, Paired F l₁ l₂ → (∀ a b, F a b → G a b) → Paired G l₁ l₂
  | _, _, .nil, _ => .nil
  | _, _, .cons r t, f => .cons (f _ _ r) (Paired.mapP t f)
theorem ObjOk.stay (x : ObjOk P w H h a o) (k : ∀ b u, (b = a ∨ H b = some (.own a)) → h.get? b = some u → h'.get? b = some u)
    (ho : ∀ b, H b = some (.own a) → H' b = some (.own a)) (ht : ∀ b xs, H b = some (.tup xs) → H' b = some (.tup xs)) : ObjOk P w H' h' a o := by
  induction o with
  | lst xs => obtain ⟨z, its, n, r, e⟩ := x; exact ⟨z, its, n, r, k _ _ (.inl rfl) e⟩
  | tup xs => obtain ⟨z, its, r, ob, e, c⟩ := x; exact ⟨z, its, r, ob, k _ _ (.inl rfl) e, c⟩
  | dK kvs => obtain ⟨z, y, vs, r, ob, es, ep, e, c⟩ := x; exact ⟨z, y, vs, r, ob, es, ep, k _ _ (.inl rfl) e, c⟩
  | dT kvs =>
    obtain ⟨z, y, xs, r, ob, es, ep, e, c⟩ := x
    exact ⟨z, y, xs, Paired.mapP r fun p q z => ⟨z.1, ht _ _ z.2.1, z.2.2⟩, ob, es, ep, k _ _ (.inl rfl) e, c⟩
  | set S n => obtain ⟨ob, es, ep, t, e, c⟩ := x; exact ⟨ob, es, ep, t, k _ _ (.inl rfl) e, c⟩
  | ins C dx fs =>
    obtain ⟨d, z, ne, e, mA, ⟨od, es, ep, e2, c⟩, r⟩ := x
    exact ⟨ho _ d, z, ne, k _ _ (.inl rfl) e, mA, ⟨od, es, ep, k _ _ (.inr d) e2, c⟩, r⟩
  | own y => obtain ⟨ob, e⟩ := x; exact ⟨ob, k _ _ (.inl rfl) e⟩
  | xd fs => obtain ⟨mA, ⟨od, es, ep, e, c⟩, r⟩ := x; exact ⟨mA, ⟨od, es, ep, k _ _ (.inl rfl) e, c⟩, r⟩
  | rng lo hi => obtain ⟨t, u, v, e⟩ := x; exact ⟨t, u, v, k _ _ (.inl rfl) e⟩
  | frz ob u ih => obtain ⟨e, q⟩ := x; exact ⟨k _ _ (.inl rfl) e, ih q⟩
  | tbl ps =>
    have e : h.get? a = some { cls := .none, data := .fields ps } := x
    show h'.get? a = some { cls := .none, data := .fields ps }
    exact k a _ (.inl rfl) e
  | met f y =>
    have e : h.get? a = some (PySem.W.methodObj (.ref f) (.ref y)) := x
    show h'.get? a = some (PySem.W.methodObj (.ref f) (.ref y))
    exact k a _ (.inl rfl) e
  | ext φ => obtain ⟨p, ⟨o, e⟩, st⟩ := x; exact ⟨st _ _ p fun o q => k _ _ (.inl rfl) q, ⟨o, k _ _ (.inl rfl) e⟩, st⟩
theorem HOk.lt (x : HOk P w H h) (e : H a = some o) : a < h.objs.size := (x a o e).lt
theorem HOk.fresh (x : HOk P w H h) (e : h.objs.size ≤ a) : H a = none := by
  cases q : H a with
  | none => rfl
  | some u => exact absurd (Nat.lt_of_lt_of_le (x.lt q) e) (Nat.lt_irrefl _)
theorem HOk.kept (x : HOk P w H h) (k : ∀ b u, h.get? b = some u → h'.get? b = some u) : HOk P w H h' := fun a o e =>
  (x a o e).stay (fun b u _ q => k b u q) (fun _ q => q) fun _ _ q => q
theorem HOk.laid (x : HOk P w H h) (k : ∀ b u, h.get? b = some u → h'.get? b = some u) (hp : h.objs.size ≤ a) (new : ObjOk P w (upd H a o) h' a o) : HOk P w (upd H a o) h' := fun b u e => by
  have hn := x.fresh hp
  by_cases hb : b = a
  · subst hb; rw [upd_same] at e; cases e; exact new
  · rw [upd_ne hb] at e
    exact (x b u e).stay (fun c v _ q => k c v q) (fun c q => by rw [upd_ne (ne_of_none q hn)]; exact q) fun c xs q => by rw [upd_ne (ne_of_none q hn)]; exact q
end
def Rd (H : Hp) (a : Addr) (u : HO) : Prop := H a = some u ∨ ∃ o, H a = some (.frz o u)
theorem Rd.ok {P : Program} {w : World} {H : Hp} {h : Heap} {a : Addr} {u : HO} (r : Rd H a u) (x : HOk P w H h) : ObjOk P w H h a u := by
  rcases r with r | ⟨o, r⟩
  · exact x a u r
  · obtain ⟨_, q⟩ := x a _ r
    exact q
def Mut : Option HO → Prop
  | some (.lst _) => True
  | some (.dK _) => True
  | some (.dT _) => True
  | some (.set _ _) => True
  | some (.ins _ _ _) => True
  | some (.ext _) => True
  | _ => False
section
variable {P : Program} {w : World} {H : Hp} {h h' : Heap} {x e : Addr} {o' : HO}
theorem HOk.write (ok : HOk P w H h) (mu : Mut (H x)) (he : e = x ∨ H e = some (.own x)) (k : ∀ b u, b ≠ e → h.get? b = some u → h'.get? b = some u) (heo : ∃ u, h'.get? e = some u)
    (new : ObjOk P w (upd H x o') h' x o') : HOk P w (upd H x o') h' := fun b u q => by
  have nown : ∀ c y, H c = some (.own y) → c ≠ x := fun c y r z => by subst z; rw [r] at mu; exact mu
  have ntup : ∀ c xs, H c = some (.tup xs) → c ≠ x := fun c xs r z => by subst z; rw [r] at mu; exact mu
  by_cases hb : b = x
  · subst hb; rw [upd_same] at q; cases q; exact new
  · rw [upd_ne hb] at q
    by_cases hbe : b = e
    · have q' : H b = some (.own x) := by
        rcases he with z | z
        · exact absurd (hbe.trans z) hb
        · rw [hbe]; exact z
      rw [q] at q'; cases q'
      obtain ⟨v, hv⟩ := heo
      exact ⟨v, by rw [hbe]; exact hv⟩
    · refine (ok b u q).stay (fun c v hc r => k c v ?_ r) (fun c r => by rw [upd_ne (nown c b r)]; exact r) fun c xs r => by rw [upd_ne (ntup c xs r)]; exact r
      rcases hc with rfl | hc
      · exact hbe
      · rintro rfl
        rcases he with z | z
        · exact nown c b hc z
        · rw [hc] at z; cases z; exact hb rfl
end
structure Un (fs ex : List Addr) (H H' : Hp) (h h' : Heap) : Prop where
  keep : ∀ b o, h.get? b = some o → H b = none → b ∉ fs → b ∉ ex → h'.get? b = some o
  slot : ∀ b o, h.get? b = some o → H b = none → b ∈ fs → b ∉ ex → ∃ sl, h'.get? b = some { o with slots := sl }
  free : ∀ b o, h.get? b = some o → H b = none → b ∉ ex → H' b = none
  there : ∀ b o, h.get? b = some o → b ∉ ex → ∃ o', h'.get? b = some o'
  tups : ∀ b xs, H b = some (.tup xs) → H' b = some (.tup xs)
  frzs : ∀ b o u, H b = some (.frz o u) → H' b = some (.frz o u)
  tbls : ∀ b ps, H b = some (.tbl ps) → ∃ more, H' b = some (.tbl (ps ++ more))
section
variable {fs fs' ex ex' : List Addr} {H H1 H2 : Hp} {h h1 h2 h' : Heap} {a x e : Addr} {o : HO}
theorem Un.any (u : Un fs ex H H1 h h1) {b : Addr} {ob : Obj} (q : h.get? b = some ob) (n : H b = none) (hx : b ∉ ex) : ∃ sl, h1.get? b = some { ob with slots := sl } := by
  by_cases hb : b ∈ fs
  · exact u.slot b ob q n hb hx
  · exact ⟨ob.slots, u.keep b ob q n hb hx⟩
theorem Un.kept (k : ∀ b u, h.get? b = some u → h'.get? b = some u) : Un fs ex H H h h' :=
  ⟨fun b ob q _ _ _ => k b ob q, fun b ob q _ _ _ => ⟨ob.slots, k b ob q⟩, fun _ _ _ n _ => n, fun b ob q _ => ⟨ob, k b ob q⟩, fun _ _ q => q, fun _ _ _ q => q, fun _ ps q => ⟨#[], by rw [q]; simp⟩⟩
theorem Un.refl : Un fs ex H H h h := Un.kept fun _ _ q => q
theorem Un.laid (k : ∀ b u, h.get? b = some u → h'.get? b = some u) (hp : h.objs.size ≤ a) (hn : H a = none) : Un fs ex H (upd H a o) h h' where
  keep := fun b u q _ _ _ => k b u q
  slot := fun b u q _ _ _ => ⟨u.slots, k b u q⟩
  free := fun b u q n _ => by rw [upd_ne (Nat.ne_of_lt (Nat.lt_of_lt_of_le (Heap.lt_size q) hp))]; exact n
  there := fun b u q _ => ⟨u, k b u q⟩
  tups := fun b xs q => by rw [upd_ne (ne_of_none q hn)]; exact q
  frzs := fun b u xs q => by rw [upd_ne (ne_of_none q hn)]; exact q
  tbls := fun b ps q => ⟨#[], by rw [upd_ne (ne_of_none q hn), q]; simp⟩
theorem Un.write (mu : Mut (H x)) (he : e = x ∨ H e = some (.own x)) (k : ∀ b u, b ≠ e → h.get? b = some u → h'.get? b = some u) (heo : ∃ u, h'.get? e = some u) : Un fs ex H (upd H x o) h h' := by
  have hx : ∀ b, H b = none → b ≠ x := fun b n z => by subst z; rw [n] at mu; exact mu
  have hb : ∀ b, H b = none → b ≠ e := fun b n z => by
    subst z
    rcases he with r | r
    · exact hx b n r
    · rw [n] at r; cases r
  have hm : ∀ b u, H b = some u → ¬ Mut (some u) → b ≠ x := fun b u q nm z => by subst z; rw [q] at mu; exact nm mu
  refine ⟨fun b u q n _ _ => k b u (hb b n) q, fun b u q n _ _ => ⟨u.slots, k b u (hb b n) q⟩, fun b u q n _ => by rw [upd_ne (hx b n)]; exact n, fun b u q _ => ?_,
    fun b xs q => by rw [upd_ne (hm b _ q fun z => z)]; exact q, fun b u xs q => by rw [upd_ne (hm b _ q fun z => z)]; exact q, fun b ps q => ⟨#[], by rw [upd_ne (hm b _ q fun z => z), q]; simp⟩⟩
  by_cases hbe : b = e
  · subst hbe; exact heo
  · exact ⟨u, k b u hbe q⟩
end
def trk (h : Heap) (H : Hp) : List Addr := (List.range h.objs.size).filter fun a => (H a).isSome
def hidT (h : Heap) (H : Hp) : Heap := PySem.W.hideAll h (trk h H)
theorem hidT_size (h : Heap) (H : Hp) : (hidT h H).objs.size = h.objs.size := PySem.W.hideAll_size _ _
theorem hidT_get {h : Heap} {H : Hp} {b : Addr} {o : Obj} (e : h.get? b = some o) (n : H b = none) : (hidT h H).get? b = some o :=
  PySem.W.hideAll_get _ e fun hm => by
    have q : (H b).isSome = true := (List.mem_filter.mp hm).2
    rw [n] at q; simp at q
theorem of_hidT {h : Heap} {H : Hp} {b : Addr} {o : Obj} (e : (hidT h H).get? b = some o) : h.get? b = some o ∧ H b = none := by
  have e' : h.get? b = some o := PySem.W.of_hideAll (trk h H) e
  refine ⟨e', ?_⟩
  cases q : H b with
  | none => rfl
  | some x =>
    have hm : b ∈ trk h H := List.mem_filter.mpr ⟨List.mem_range.mpr (Heap.lt_size e'), by simp [q]⟩
    have z : (hidT h H).get? b = none := PySem.W.hideAll_none (trk h H) hm
    rw [z] at e; cases e
def allNews (g h : Heap) (L : Addr) : List (Addr × Obj) := (List.range h.objs.size).filterMap fun a => if a = L ∨ (g.get? a).isSome = true then none else (h.get? a).map fun o => (a, o)
def rest (g h : Heap) (L d : Addr) : List (Addr × Obj) := (allNews g h L).filter fun p => decide (p.1 ≠ d)
end L2
namespace L2
open PySem PySem.Spec PyProof.Rows
structure Mod (K : PySem.W.Frag) (mg : Str → Option Value) (base : Heap) : Prop where
  kin : K.In base
  glob : base.Ns mainGlobals mg
  blt : ∃ mb, base.Ns builtinsNs mb ∧ ∀ x : Str, x ≠ "__name__" → mb x = bootBuiltins x
  nolimit : base.NoLimit
structure Cx where
  prog : Program
  w : World
  K : PySem.W.Frag
  mg : Str → Option Value
  base : Heap
  A : Around
  N : List Str
  s₀ : Shared
  H₀ : Hp
  env : Env
  outer : List Env
  stack : List Env
  ex : List Addr
  fn : Str → Bool
  calm : Bool
  pn : List (Addr × Obj)
  xe : Value → Shared → Prop
def frs (l : List Env) : List Addr := l.filterMap (·.frame)
abbrev Cx.fs (X : Cx) : List Addr := frs X.outer
def Vis (sc : Scope) (x : Str) : Prop := sc.names.lookup x = some .local ∨ sc.names.lookup x = some .cell ∨ sc.names.lookup x = some .free
def Loc (sc : Scope) (x : Str) : Prop := sc.names.lookup x = some .local ∨ sc.names.lookup x = some .cell
def Look (env : Env) (h : Heap) (m : Str → Option Value) (x : Str) (u : Value) : Prop :=
  (env.kindOf x = some .local ∧ m x = some u) ∨ ((env.kindOf x = some .cell ∨ env.kindOf x = some .free) ∧ ∃ c, env.cells.lookup x = some c ∧ h.IsCell c (some u))
structure Cx.Ok (X : Cx) : Prop where
  mod : Mod X.K X.mg X.base
  kind : X.env.scope.kind = .function
  glob : X.env.globals = mainGlobals
  blt : X.env.builtins = builtinsNs
  above : X.s₀.heap.objs.size ≤ X.env.locals
  inj : ∀ x y c, X.env.cells.lookup x = some c → X.env.cells.lookup y = some c → x = y
  has : ∀ x, (X.env.kindOf x = some .cell ∨ X.env.kindOf x = some .free) → ∃ c, X.env.cells.lookup x = some c
  cab : ∀ x c, X.fn x = true → X.env.cells.lookup x = some c → X.s₀.heap.objs.size ≤ c
  hd : X.calm = true → X.A.handled = none
  frames : X.A.frames = some X.stack
  stk : X.stack = X.outer ∨ (X.stack = X.env :: X.outer ∧ X.env.frame = some X.env.locals)
  exf : ∀ b ∈ X.ex, b ≠ X.env.locals ∧ ∀ x c, X.env.cells.lookup x = some c → c ≠ b
  bs : ∀ b o, X.base.get? b = some o → X.s₀.heap.get? b = some o ∧ X.H₀ b = none
  bsz : X.base.objs.size ≤ X.s₀.heap.objs.size
  noex : ∀ b o, X.base.get? b = some o → b ∉ X.ex
  exfs : ∀ b ∈ X.ex, b ∉ X.fs
  funs : X.s₀.heap.FunFrames X.base X.outer
  frf : ∀ b ∈ X.fs, X.H₀ b = none
structure Inv (X : Cx) (pins : List (Addr × Obj)) (σ : List (Option V)) (H : Hp) (s : Shared) : Prop where
  ok : X.Ok
  os : s.os = X.s₀.os
  bare : AllBare s.gens
  base : Un X.fs X.ex X.H₀ H X.s₀.heap s.heap
  loc : ∃ m, s.heap.Ns X.env.locals m ∧ ∀ (i : Nat) (x : Str) (v : V), X.N[i]? = some x → σ[i]? = some (some v) → Vis X.env.scope x → ∃ u, RelV v u ∧ Look X.env s.heap m x u
  cell : ∀ x c, X.env.cells.lookup x = some c → ∃ v, s.heap.IsCell c v
  free : H X.env.locals = none
  freeC : ∀ x c, X.env.cells.lookup x = some c → H c = none
  pin : ∀ p ∈ X.pn ++ pins, s.heap.get? p.1 = some p.2 ∧ H p.1 = none ∧ p.1 ≠ X.env.locals ∧ p.1 ∉ X.fs ∧ ∀ v, p.2.data ≠ .cell v
  hok : HOk X.prog X.w H s.heap
  len : σ.length = X.N.length
section
variable {X : Cx} {pins : List (Addr × Obj)} {σ : List (Option V)} {H H' : Hp} {s : Shared} {h' : Heap}
theorem Cx.Ok.nofr (ok : X.Ok) {b : Addr} {o : Obj} (e : X.base.get? b = some o) : b ∉ X.fs := fun hb => by
  have := (ok.funs.mem hb).1
  rw [e] at this; cases this
theorem Inv.bs (I : Inv X pins σ H s) : ∀ b o, X.base.get? b = some o → s.heap.get? b = some o ∧ H b = none := fun b o e =>
  ⟨I.base.keep b o (I.ok.bs b o e).1 (I.ok.bs b o e).2 (I.ok.nofr e) (I.ok.noex b o e), I.base.free b o (I.ok.bs b o e).1 (I.ok.bs b o e).2 (I.ok.noex b o e)⟩
theorem Inv.bk (I : Inv X pins σ H s) : ∀ b o, X.base.get? b = some o → s.heap.get? b = some o := fun b o e => (I.bs b o e).1
theorem Inv.mod (I : Inv X pins σ H s) : Mod X.K X.mg X.base := I.ok.mod
theorem Inv.kIn (I : Inv X pins σ H s) : X.K.In s.heap := I.ok.mod.kin.keeps I.bk
theorem Inv.lt (I : Inv X pins σ H s) : X.env.locals < s.heap.objs.size := let ⟨_, hn, _⟩ := I.loc; hn.lt
theorem Inv.sz (I : Inv X pins σ H s) : X.s₀.heap.objs.size ≤ s.heap.objs.size := Nat.le_trans I.ok.above (Nat.le_of_lt I.lt)
theorem Inv.nofs (I : Inv X pins σ H s) {a : Addr} (h : s.heap.objs.size ≤ a) : a ∉ X.fs := fun hb => by
  obtain ⟨_, o, ho, _⟩ := I.ok.funs.mem hb
  exact absurd (Nat.lt_of_lt_of_le (Heap.lt_size ho) (Nat.le_trans I.sz h)) (Nat.lt_irrefl _)
theorem Inv.cne (I : Inv X pins σ H s) : ∀ x c, X.env.cells.lookup x = some c → c ≠ X.env.locals := fun x c e z => by
  obtain ⟨v, o, ho, hd⟩ := I.cell x c e
  obtain ⟨m, ⟨o', es, ep, ho', hd', _⟩, _⟩ := I.loc
  rw [z, ho'] at ho; cases ho; rw [hd'] at hd; cases hd
theorem Inv.funs (I : Inv X pins σ H s) : s.heap.FunFrames X.base X.outer := by
  have all : ∀ (l : List Env), (∀ b ∈ frs l, b ∈ X.fs) → X.s₀.heap.FunFrames X.base l → s.heap.FunFrames X.base l := by
    intro l
    induction l with
    | nil => intro _ _; trivial
    | cons env r ih =>
      intro hs hl
      obtain ⟨hk, ⟨L, o, hf, hn, ho, hd⟩, hr⟩ := hl
      have hL : L ∈ X.fs := hs L (by unfold frs; rw [List.filterMap_cons, hf]; exact List.mem_cons_self)
      obtain ⟨sl, e⟩ := I.base.slot L o ho (I.ok.frf L hL) hL fun z => I.ok.exfs L z hL
      exact ⟨hk, ⟨L, _, hf, hn, e, hd⟩, ih (fun b hb => hs b (by unfold frs; rw [List.filterMap_cons, hf]; exact List.mem_cons_of_mem _ hb)) hr⟩
  exact all X.outer (fun _ hb => hb) I.ok.funs
theorem Inv.stack (I : Inv X pins σ H s) : s.heap.FunFrames X.base X.stack := by
  rcases I.ok.stk with e | ⟨e, hf⟩
  · rw [e]; exact I.funs
  · rw [e]
    obtain ⟨m, hn, _⟩ := I.loc
    refine .cons (by rw [I.ok.kind]; decide) hf hn ?_ I.funs
    exact Heap.get?_none_of_le (Nat.le_trans I.ok.bsz I.ok.above)
theorem Inv.stkSub (I : Inv X pins σ H s) : ∀ b ∈ frs X.stack, b ∈ X.env.locals :: X.fs := fun b hb => by
  rcases I.ok.stk with e | ⟨e, hf⟩
  · rw [e] at hb; exact List.mem_cons_of_mem _ hb
  · rw [e] at hb
    unfold frs at hb
    rw [List.filterMap_cons, hf] at hb
    exact hb
theorem Inv.stkFree (I : Inv X pins σ H s) : ∀ b ∈ frs X.stack, H b = none := fun b hb => by
  rcases List.mem_cons.mp (I.stkSub b hb) with e | hb
  · rw [e]; exact I.free
  · obtain ⟨_, o, ho, _⟩ := I.ok.funs.mem hb
    exact I.base.free b o ho (I.ok.frf b hb) fun z => I.ok.exfs b z hb
theorem Inv.step {g' : Array GenState} {t' : Nat} {d' : Drawn} {ch : List Addr} (I : Inv X pins σ H s)
    (hch : ∀ b ∈ ch, (b ∈ X.ex ∨ X.s₀.heap.objs.size ≤ b) ∧ b ≠ X.env.locals ∧ (∀ x c, X.env.cells.lookup x = some c → c ≠ b) ∧ ∀ p ∈ X.pn ++ pins, p.1 ≠ b)
    (keep : ∀ b o, b ≠ X.env.locals → b ∉ X.fs → b ∉ ch → s.heap.get? b = some o → H b = none → h'.get? b = some o)
    (slot : ∀ b o, b ≠ X.env.locals → b ∈ X.fs → b ∉ ch → s.heap.get? b = some o → H b = none → ∃ sl, h'.get? b = some { o with slots := sl }) (free : ∀ b o, b ∉ ch → s.heap.get? b = some o → H b = none → H' b = none)
    (there : ∀ b o, b ∉ ch → s.heap.get? b = some o → ∃ o', h'.get? b = some o')
    (tups : ∀ b xs, H b = some (.tup xs) → H' b = some (.tup xs)) (frzs : ∀ b o u, H b = some (.frz o u) → H' b = some (.frz o u)) (tbls : ∀ b ps, H b = some (.tbl ps) → ∃ more, H' b = some (.tbl (ps ++ more)))
    (ns : ∀ m, s.heap.Ns X.env.locals m → h'.Ns X.env.locals m) (hok : HOk X.prog X.w H' h') (hg : AllBare g') :
    Inv X pins σ H' { s with heap := h', gens := g', drawn := d', toks := t' } := by
  have neL : ∀ b o, X.s₀.heap.get? b = some o → b ≠ X.env.locals := fun b o e => Nat.ne_of_lt (Nat.lt_of_lt_of_le (Heap.lt_size e) I.ok.above)
  have neC : ∀ b o, X.s₀.heap.get? b = some o → b ∉ X.ex → b ∉ ch := fun b o e hx hb => by
    rcases (hch b hb).1 with z | z
    · exact hx z
    · exact absurd (Nat.lt_of_lt_of_le (Heap.lt_size e) z) (Nat.lt_irrefl _)
  have cellK : ∀ x c, X.env.cells.lookup x = some c → ∀ v, s.heap.IsCell c v → h'.IsCell c v := fun x c e v ⟨o, ho, hd⟩ => by
    have nch : c ∉ ch := fun z => (hch c z).2.2.1 x c e rfl
    by_cases hc : c ∈ X.fs
    · obtain ⟨sl, q⟩ := slot c o (I.cne x c e) hc nch ho (I.freeC x c e)
      exact ⟨_, q, hd⟩
    · exact ⟨o, keep c o (I.cne x c e) hc nch ho (I.freeC x c e), hd⟩
  refine ⟨I.ok, I.os, hg, ⟨fun b o e n hb hx => ?_, fun b o e n hb hx => ?_, fun b o e n hx => ?_, fun b o e hx => ?_, fun b xs e => tups b xs (I.base.tups b xs e), fun b o xs e => frzs b o xs (I.base.frzs b o xs e), fun b ps e => ?_⟩, ?_, fun x c e => ?_, ?_, fun x c e => ?_, fun p hp => ?_, hok, I.len⟩
  · exact keep b o (neL b o e) hb (neC b o e hx) (I.base.keep b o e n hb hx) (I.base.free b o e n hx)
  · obtain ⟨sl, e1⟩ := I.base.slot b o e n hb hx
    obtain ⟨sl', e2⟩ := slot b _ (neL b o e) hb (neC b o e hx) e1 (I.base.free b o e n hx)
    exact ⟨sl', e2⟩
  · obtain ⟨o', e1⟩ := I.base.there b o e hx
    exact free b o' (neC b o e hx) e1 (I.base.free b o e n hx)
  · obtain ⟨o', e1⟩ := I.base.there b o e hx
    exact there b o' (neC b o e hx) e1
  · obtain ⟨m1, e1⟩ := I.base.tbls b ps e
    obtain ⟨m2, e2⟩ := tbls b _ e1
    exact ⟨m1 ++ m2, by rw [e2, Array.append_assoc]⟩
  · obtain ⟨m, hn, hl⟩ := I.loc
    refine ⟨m, ns m hn, fun i x v e1 e2 e3 => ?_⟩
    obtain ⟨u, r, l⟩ := hl i x v e1 e2 e3
    refine ⟨u, r, ?_⟩
    rcases l with l | ⟨k, c, e, z⟩
    · exact .inl l
    · exact .inr ⟨k, c, e, cellK x c e _ z⟩
  · obtain ⟨v, z⟩ := I.cell x c e
    exact ⟨v, cellK x c e v z⟩
  · obtain ⟨m, ⟨o, _, _, ho, _⟩, _⟩ := I.loc
    exact free _ o (fun z => (hch _ z).2.1 rfl) ho I.free
  · obtain ⟨v, o, ho, hd⟩ := I.cell x c e
    exact free c o (fun z => (hch c z).2.2.1 x c e rfl) ho (I.freeC x c e)
  · obtain ⟨e, n, ne, nf, d⟩ := I.pin p hp
    have nch : p.1 ∉ ch := fun z => (hch p.1 z).2.2.2 p hp rfl
    exact ⟨keep p.1 p.2 ne nf nch e n, free p.1 p.2 nch e n, ne, nf, d⟩
theorem Inv.un {t' : Nat} (I : Inv X pins σ H s) (u : Un X.fs [] H H' s.heap h') (hok : HOk X.prog X.w H' h') : Inv X pins σ H' { s with heap := h', toks := t' } := by
  obtain ⟨m, ⟨o, es, ep, ho, r⟩, _⟩ := id I.loc
  obtain ⟨sl, hL⟩ := u.any ho I.free (by simp)
  exact I.step (g' := s.gens) (d' := s.drawn) (ch := []) (fun _ z => nomatch z) (fun b o _ hb _ e n => u.keep b o e n hb (by simp)) (fun b o _ hb _ e n => u.slot b o e n hb (by simp)) (fun b o _ e n => u.free b o e n (by simp)) (fun b o _ e => u.there b o e (by simp)) u.tups u.frzs u.tbls (fun m' hm => by
    obtain ⟨o', es', ep', ho', r'⟩ := hm
    rw [ho] at ho'; cases ho'
    exact ⟨_, es', ep', hL, r'⟩) hok I.bare
theorem Inv.call {g' : Array GenState} {t' : Nat} {d' : Drawn} {ch : List Addr} (I : Inv X pins σ H s) (u : Un (frs X.stack) ch H H' s.heap h') (hok : HOk X.prog X.w H' h') (hg : AllBare g')
    (hch : ∀ b ∈ ch, (b ∈ X.ex ∨ X.s₀.heap.objs.size ≤ b) ∧ b ≠ X.env.locals ∧ (∀ x c, X.env.cells.lookup x = some c → c ≠ b) ∧ ∀ p ∈ X.pn ++ pins, p.1 ≠ b) :
    Inv X pins σ H' { s with heap := h', gens := g', drawn := d', toks := t' } := by
  obtain ⟨m, ⟨o, es, ep, ho, r⟩, _⟩ := id I.loc
  obtain ⟨sl, hL⟩ := u.any ho I.free fun z => (hch _ z).2.1 rfl
  exact I.step (ch := ch) hch (fun b o hL hb hc e n => u.keep b o e n (fun z => (List.mem_cons.mp (I.stkSub b z)).elim hL hb) hc) (fun b o _ _ hc e n => u.any e n hc) (fun b o hc e n => u.free b o e n hc) (fun b o hc e => u.there b o e hc) u.tups u.frzs u.tbls (fun m' hm => by
    obtain ⟨o', es', ep', ho', r'⟩ := hm
    rw [ho] at ho'; cases ho'
    exact ⟨_, es', ep', hL, r'⟩) hok hg
theorem Inv.turned {t' : Nat} {it : Addr} (I : Inv X pins σ H s) (k : ∀ b o, b ≠ it → s.heap.get? b = some o → h'.get? b = some o) (hn : H it = none) (hL : it ≠ X.env.locals)
    (h1 : it ∈ X.ex ∨ X.s₀.heap.objs.size ≤ it) (h2 : ∀ x c, X.env.cells.lookup x = some c → c ≠ it) (h3 : ∀ p ∈ X.pn ++ pins, p.1 ≠ it) : Inv X pins σ H { s with heap := h', toks := t' } := by
  have nit : ∀ b u, H b = some u → b ≠ it := fun b u e z => by rw [z, hn] at e; cases e
  refine I.step (g' := s.gens) (d' := s.drawn) (ch := [it]) (fun b hb => ?_) (fun b o _ _ hc e _ => k b o (fun z => hc (by simp [z])) e) (fun b o _ _ hc e _ => ⟨o.slots, k b o (fun z => hc (by simp [z])) e⟩) (fun _ _ _ _ n => n)
    (fun b o hc e => ⟨o, k b o (fun z => hc (by simp [z])) e⟩) (fun _ _ e => e) (fun _ _ _ e => e) (fun b ps e => ⟨#[], by rw [e]; simp⟩) (fun m hm => ?_) (fun b u e => ?_) I.bare
  · have e : b = it := by simpa using hb
    subst e
    exact ⟨h1, hL, h2, h3⟩
  · obtain ⟨o, es, ep, ho, r⟩ := hm
    exact ⟨o, es, ep, k _ o (Ne.symm hL) ho, r⟩
  · refine (I.hok b u e).stay (fun c v hc q => k c v ?_ q) (fun _ q => q) fun _ _ q => q
    rcases hc with z | z
    · rw [z]; exact nit b u e
    · exact nit c _ z
theorem Inv.tok (I : Inv X pins σ H s) (t : Nat) : Inv X pins σ H { s with toks := t } := I.un (h' := s.heap) (t' := t) Un.refl I.hok
theorem Inv.kept {t' : Nat} (I : Inv X pins σ H s) (k : ∀ b u, s.heap.get? b = some u → h'.get? b = some u) : Inv X pins σ H { s with heap := h', toks := t' } := I.un (Un.kept k) (I.hok.kept k)
theorem Inv.laid {a : Addr} {o : HO} {t' : Nat} (I : Inv X pins σ H s) (k : ∀ b u, s.heap.get? b = some u → h'.get? b = some u) (hp : s.heap.objs.size ≤ a) (new : ObjOk X.prog X.w (upd H a o) h' a o) :
    Inv X pins σ (upd H a o) { s with heap := h', toks := t' } := I.un (Un.laid k hp (I.hok.fresh hp)) (I.hok.laid k hp new)
theorem Inv.write {x e : Addr} {o : HO} {t' : Nat} (I : Inv X pins σ H s) (mu : Mut (H x)) (he : e = x ∨ H e = some (.own x)) (k : ∀ b u, b ≠ e → s.heap.get? b = some u → h'.get? b = some u) (heo : ∃ u, h'.get? e = some u)
    (new : ObjOk X.prog X.w (upd H x o) h' x o) : Inv X pins σ (upd H x o) { s with heap := h', toks := t' } := I.un (Un.write mu he k heo) (I.hok.write mu he k heo new)
theorem Inv.pins_of {pins' : List (Addr × Obj)} (I : Inv X pins σ H s) (h : ∀ p ∈ pins', s.heap.get? p.1 = some p.2 ∧ H p.1 = none ∧ p.1 ≠ X.env.locals ∧ p.1 ∉ X.fs ∧ ∀ v, p.2.data ≠ .cell v) : Inv X pins' σ H s :=
  ⟨I.ok, I.os, I.bare, I.base, I.loc, I.cell, I.free, I.freeC, fun p hp => (List.mem_append.mp hp).elim (fun z => I.pin p (List.mem_append_left _ z)) (h p), I.hok, I.len⟩
theorem nodup_ix {N : List Str} (hN : N.Nodup) {i j : Nat} {x : Str} (a : N[i]? = some x) (b : N[j]? = some x) : i = j := by
  obtain ⟨h1, e1⟩ := List.getElem?_eq_some_iff.mp a
  obtain ⟨h2, e2⟩ := List.getElem?_eq_some_iff.mp b
  exact (List.getElem_inj hN).mp (e1.trans e2.symm)
theorem store_ok2 {M : Model} {A : Around} {E : Value → Shared → Prop} {i : Nat} {x : Str} {v : V} {u : Value} {Q : Unit → Shared → Prop} (I : Inv X pins σ H s) (hN : X.N.Nodup) (hi : X.N[i]? = some x) (hx : Loc X.env.scope x) (r : RelV v u)
    (h : ∀ s', Inv X pins (σ.set i (some v)) H s' → (∃ a, Heap.SameBut a s.heap s'.heap ∧ (a = X.env.locals ∨ X.env.cells.lookup x = some a)) → Q () s') (hf : X.fn x = true ∨ X.env.scope.names.lookup x = some .local := by first | exact .inl rfl | exact .inr rfl | assumption) : wpAny M A (storeName X.env x u) Q E s := by
  obtain ⟨m, hn, hl⟩ := id I.loc
  have hcls : (X.env.scope.kind == .class || (X.env.scope.kind == .module && X.env.locals != X.env.globals)) = false := by rw [I.ok.kind]; rfl
  have hiσ : i < σ.length := by rw [I.len]; exact (List.getElem?_eq_some_iff.mp hi).1
  have cne := I.cne
  have tracked : ∀ {a : Addr} {h' : Heap}, (∃ o, s.heap.get? a = some o ∧ H a = none) → Heap.SameBut a s.heap h' → HOk X.prog X.w H h' := fun {a h'} ha hs b ob e => by
    obtain ⟨_, _, hfree⟩ := ha
    refine (I.hok b ob e).stay (fun c w' hc q => (hs.2 c ?_).trans q) (fun _ q => q) fun _ _ q => q
    rintro rfl
    rcases hc with rfl | hc
    · rw [hfree] at e; cases e
    · rw [hfree] at hc; cases hc
  rcases hx with hk | hk
  · refine wpAny_storeName_local hk hn (fun h' hn' hs => ?_) hcls
    obtain ⟨oL, _, _, hoL, _⟩ := id hn
    refine h _ ⟨I.ok, I.os, I.bare, ⟨fun b o e n hb hx => ?_, fun b o e n hb hx => ?_, I.base.free, fun b o e hx => ?_, I.base.tups, I.base.frzs, I.base.tbls⟩, ⟨_, hn', fun j y v' e1 e2 e3 => ?_⟩, fun y c e => ?_, I.free, I.freeC, fun p hp => ?_, tracked ⟨oL, hoL, I.free⟩ hs, by simpa using I.len⟩ ⟨_, hs, .inl rfl⟩
    · exact (hs.2 b (Nat.ne_of_lt (Nat.lt_of_lt_of_le (Heap.lt_size e) I.ok.above))).trans (I.base.keep b o e n hb hx)
    · obtain ⟨sl, e1⟩ := I.base.slot b o e n hb hx
      exact ⟨sl, (hs.2 b (Nat.ne_of_lt (Nat.lt_of_lt_of_le (Heap.lt_size e) I.ok.above))).trans e1⟩
    · obtain ⟨o', e1⟩ := I.base.there b o e hx
      exact ⟨o', (hs.2 b (Nat.ne_of_lt (Nat.lt_of_lt_of_le (Heap.lt_size e) I.ok.above))).trans e1⟩
    · by_cases hj : j = i
      · subst hj
        rw [hi] at e1; cases e1
        rw [List.getElem?_set_self hiσ] at e2
        cases e2
        exact ⟨u, r, .inl ⟨hk, by simp⟩⟩
      · rw [List.getElem?_set_ne (Ne.symm hj)] at e2
        obtain ⟨u', r', q⟩ := hl j y v' e1 e2 e3
        refine ⟨u', r', ?_⟩
        rcases q with ⟨k, e⟩ | ⟨k, c, e, z⟩
        · refine .inl ⟨k, ?_⟩
          have : y ≠ x := fun e => hj (nodup_ix hN e1 (e ▸ hi))
          simp [this, e]
        · exact .inr ⟨k, c, e, z.sameBut hs (cne y c e)⟩
    · obtain ⟨w', z⟩ := I.cell y c e
      exact ⟨w', z.sameBut hs (cne y c e)⟩
    · obtain ⟨e, n, ne, nf, d⟩ := I.pin p hp
      exact ⟨(hs.2 p.1 ne).trans e, n, ne, nf, d⟩
  · have hfn : X.fn x = true := by
      rcases hf with z | z
      · exact z
      · rw [z] at hk; cases hk
    obtain ⟨c, hc⟩ := I.ok.has x (.inl hk)
    obtain ⟨w', z⟩ := I.cell x c hc
    refine wpAny_storeName_cell I.ok.kind hk hc z (fun h' hc' hs => ?_)
    obtain ⟨oc, hoc, hocd⟩ := id z
    refine h { s with heap := h' } ⟨I.ok, I.os, I.bare, ⟨fun b o e n hb hx => ?_, fun b o e n hb hx => ?_, I.base.free, fun b o e hx => ?_, I.base.tups, I.base.frzs, I.base.tbls⟩, ⟨m, hn.sameBut hs (Ne.symm (cne x c hc)), fun j y v' e1 e2 e3 => ?_⟩, fun y c' e => ?_, I.free, I.freeC, fun p hp => ?_, tracked ⟨oc, hoc, I.freeC x c hc⟩ hs, by simpa using I.len⟩ ⟨c, hs, .inr hc⟩
    · exact (hs.2 b (Nat.ne_of_lt (Nat.lt_of_lt_of_le (Heap.lt_size e) (I.ok.cab x c hfn hc)))).trans (I.base.keep b o e n hb hx)
    · obtain ⟨sl, e1⟩ := I.base.slot b o e n hb hx
      exact ⟨sl, (hs.2 b (Nat.ne_of_lt (Nat.lt_of_lt_of_le (Heap.lt_size e) (I.ok.cab x c hfn hc)))).trans e1⟩
    · obtain ⟨o', e1⟩ := I.base.there b o e hx
      exact ⟨o', (hs.2 b (Nat.ne_of_lt (Nat.lt_of_lt_of_le (Heap.lt_size e) (I.ok.cab x c hfn hc)))).trans e1⟩
    · by_cases hj : j = i
      · subst hj
        rw [hi] at e1; cases e1
        rw [List.getElem?_set_self hiσ] at e2
        cases e2
        exact ⟨u, r, .inr ⟨.inl hk, c, hc, hc'⟩⟩
      · rw [List.getElem?_set_ne (Ne.symm hj)] at e2
        obtain ⟨u', r', q⟩ := hl j y v' e1 e2 e3
        refine ⟨u', r', ?_⟩
        rcases q with q | ⟨k, c', e, z'⟩
        · exact .inl q
        · refine .inr ⟨k, c', e, z'.sameBut hs ?_⟩
          rintro rfl
          exact hj (nodup_ix hN e1 (I.ok.inj _ _ _ e hc ▸ hi))
    · by_cases hcc : c' = c
      · subst hcc; exact ⟨_, hc'⟩
      · obtain ⟨w2, z2⟩ := I.cell y c' e
        exact ⟨w2, z2.sameBut hs hcc⟩
    · obtain ⟨e, n, ne, nf, d⟩ := I.pin p hp
      refine ⟨(hs.2 p.1 ?_).trans e, n, ne, nf, d⟩
      intro q
      rw [q, hoc] at e
      have q' : oc = p.2 := Option.some.inj e
      exact d w' (by rw [← q']; exact hocd)
theorem store_ok {M : Model} {A : Around} {E : Value → Shared → Prop} {i : Nat} {x : Str} {v : V} {u : Value} {Q : Unit → Shared → Prop} (I : Inv X pins σ H s) (hN : X.N.Nodup) (hi : X.N[i]? = some x) (hx : Loc X.env.scope x) (r : RelV v u)
    (h : ∀ s', Inv X pins (σ.set i (some v)) H s' → Q () s') (hf : X.fn x = true ∨ X.env.scope.names.lookup x = some .local := by first | exact .inl rfl | exact .inr rfl | assumption) : wpAny M A (storeName X.env x u) Q E s :=
  store_ok2 I hN hi hx r (fun s' I' _ => h s' I') hf
theorem Inv.call' {s' : Shared} {ch : List Addr} (I : Inv X pins σ H s) (ho : s'.os = s.os) (u : Un (frs X.stack) ch H H' s.heap s'.heap) (hok : HOk X.prog X.w H' s'.heap) (hg : AllBare s'.gens)
    (hch : ∀ b ∈ ch, (b ∈ X.ex ∨ X.s₀.heap.objs.size ≤ b) ∧ b ≠ X.env.locals ∧ (∀ x c, X.env.cells.lookup x = some c → c ≠ b) ∧ ∀ p ∈ X.pn ++ pins, p.1 ≠ b) : Inv X pins σ H' s' := by
  obtain ⟨h', g', d', t', o'⟩ := s'
  have e : o' = s.os := ho
  subst e
  exact I.call (g' := g') (t' := t') (d' := d') u hok hg hch
end
abbrev XK := Value → Option Addr → Hp → Prop
abbrev St := List (Option V)
abbrev VK := V → Hp → Prop
abbrev TE := St → Hp → VK → Prop
abbrev TT := St → Hp → (Bool → Hp → Prop) → Prop
abbrev TA := St → Hp → (List V → Hp → Prop) → Prop
structure Ends where
  nx : St → Hp → Prop
  rt : VK
  bk : St → Hp → Prop := fun _ _ => False
  ct : St → Hp → Prop := fun _ _ => False
abbrev TS := Ends → St → Hp → Prop
def EP (X : Cx) (pins : List (Addr × Obj)) (σ : St) (Q : VK) (u : Value) (s' : Shared) : Prop := ∃ v H', Inv X pins σ H' s' ∧ RelV v u ∧ Q v H'
def TP (X : Cx) (pins : List (Addr × Obj)) (σ : St) (Q : Bool → Hp → Prop) (b : Bool) (s' : Shared) : Prop := ∃ H', Inv X pins σ H' s' ∧ Q b H'
def AP (X : Cx) (pins : List (Addr × Obj)) (σ : St) (Q : List V → Hp → Prop) (us : List Value) (s' : Shared) : Prop := ∃ vs H', Inv X pins σ H' s' ∧ Vals vs us ∧ Q vs H'
def SP (X : Cx) (pins : List (Addr × Obj)) (D : Ends) (f : Flow) (s' : Shared) : Prop :=
  match f with
  | .next => ∃ σ' H', Inv X pins σ' H' s' ∧ D.nx σ' H'
  | .brk => ∃ σ' H', Inv X pins σ' H' s' ∧ D.bk σ' H'
  | .cont => ∃ σ' H', Inv X pins σ' H' s' ∧ D.ct σ' H'
  | .ret u => ∃ v σ' H', Inv X pins σ' H' s' ∧ RelV v u ∧ D.rt v H'
def PE (X : Cx) (e : Expr) (t : TE) : Prop :=
  ∀ (pins : List (Addr × Obj)) (s : Shared) (σ : St) (H : Hp) (Q : VK), Inv X pins σ H s → t σ H Q → wpAny (model X.prog X.w) X.A (eval e X.env) (EP X pins σ Q) X.xe s
def PT (X : Cx) (e : Expr) (t : TT) : Prop :=
  ∀ (pins : List (Addr × Obj)) (s : Shared) (σ : St) (H : Hp) (Q : Bool → Hp → Prop), Inv X pins σ H s → t σ H Q → wpAny (model X.prog X.w) X.A (isTrue e X.env (eval e X.env)) (TP X pins σ Q) X.xe s
def PW (X : Cx) (e : Expr) (t : TT) : Prop :=
  ∀ (whole : Sem Value) (pins : List (Addr × Obj)) (s : Shared) (σ : St) (H : Hp) (Q : Bool → Hp → Prop), Inv X pins σ H s → t σ H Q → wpAny (model X.prog X.w) X.A (isTrue e X.env whole) (TP X pins σ Q) X.xe s
theorem PW.pt {X : Cx} {e : Expr} {t : TT} (h : PW X e t) : PT X e t := h _
def PA (X : Cx) (es : List Expr) (t : TA) : Prop :=
  ∀ (pos : Pos) (pins : List (Addr × Obj)) (s : Shared) (σ : St) (H : Hp) (Q : List V → Hp → Prop), Inv X pins σ H s → t σ H Q → wpAny (model X.prog X.w) X.A (spliced (backTo pos (starEach es X.env))) (AP X pins σ Q) X.xe s
def PS (X : Cx) (st : Stmt) (t : TS) : Prop :=
  ∀ (pins : List (Addr × Obj)) (s : Shared) (σ : St) (H : Hp) (D : Ends), Inv X pins σ H s → t D σ H → wpAny (model X.prog X.w) X.A (exec st X.env) (SP X pins D) X.xe s
def PSs (X : Cx) (st : List Stmt) (t : TS) : Prop :=
  ∀ (pins : List (Addr × Obj)) (s : Shared) (σ : St) (H : Hp) (D : Ends), Inv X pins σ H s → t D σ H → wpAny (model X.prog X.w) X.A (execs st X.env) (SP X pins D) X.xe s
theorem thn {α : Type} {t : Sem α} {Q Q' : α → Shared → Prop} {M : Model} {A : Around} {E : Value → Shared → Prop} {s : Shared} (h : wpAny M A t Q E s) (hQ : ∀ a s, Q a s → Q' a s) : wpAny M A t Q' E s := wpAny_mono h hQ fun _ _ x => x
end L2
namespace L2
open PySem PySem.Spec PyProof.Rows
section
variable {X : Cx}
def tVar (i : Nat) : TE := fun σ H Q => ∃ v, σ[i]? = some (some v) ∧ Q v H
def tC (v : V) : TE := fun _ H Q => Q v H
theorem pe_var {i : Nat} {x : Str} {pos : Pos} (hN : X.N[i]? = some x) (hv : Vis X.env.scope x) (hd : (x == ("__debug__" : Str)) = false := by decide) (hcd : (x == ("__classdict__" : Str)) = false := by decide) : PE X (.Name x pos) (tVar i) := by
  intro pins s σ H Q I h
  obtain ⟨v, e, h⟩ := h
  obtain ⟨m, hn, hl⟩ := I.loc
  obtain ⟨u, r, l⟩ := hl i x v hN e hv
  have fin : EP X pins σ Q u s := ⟨v, H, I, r, h⟩
  rcases l with ⟨hk, hm⟩ | ⟨hk, c, hc, hcell⟩
  · exact wpAny_Name (wpAny_loadName_local I.ok.kind hk hn hm fin) hd
  · rcases hk with hk | hk
    · exact wpAny_Name (wpAny_loadName_cell I.ok.kind hk hc hcell fin) hd
    · exact wpAny_Name (wpAny_loadName_free I.ok.kind hk hc hcell fin hcd) hd
theorem pe_int {i j pos} : PE X (.Constant (.int i) j pos) (tC (.int i)) := fun _ _ _ H _ I h => wpAny_Constant_int ⟨.int i, H, I.tok _, ⟨_, rfl⟩, h⟩
theorem pe_bl {b j pos} : PE X (.Constant (.bool b) j pos) (tC (.bl b)) := fun _ _ _ H _ I h => Constant_bool ⟨.bl b, H, I, rfl, h⟩
theorem pe_non {j pos} : PE X (.Constant .none j pos) (tC .non) := fun _ _ _ H _ I h => Constant_none ⟨.non, H, I, rfl, h⟩
theorem pe_str {x j pos} : PE X (.Constant (.str x) j pos) (tC (.str x)) := fun _ _ _ H _ I h => Calls.Constant_str ⟨.str x, H, I.tok _, ⟨_, rfl⟩, h⟩
def Gl (X : Cx) (x : Str) : Prop := X.env.kindOf x = some .globalImplicit
theorem ld_glob {E : Value → Shared → Prop} {pins : List (Addr × Obj)} {s : Shared} {σ : St} {H : Hp} {x : Str} {u : Value} {pos : Pos} {Q : Value → Shared → Prop} (I : Inv X pins σ H s) (hg : Gl X x) (hm : X.mg x = some u) (h : Q u s)
    (hd : (x == ("__debug__" : Str)) = false := by decide) : wpAny (model X.prog X.w) X.A (eval (.Name x pos) X.env) Q E s :=
  Calls.Name_function_global I.ok.kind hg (Calls.loadGlobal_global (by rw [I.ok.glob]; exact I.mod.glob.keeps I.bk) hm h) hd
theorem ld_blt {E : Value → Shared → Prop} {pins : List (Addr × Obj)} {s : Shared} {σ : St} {H : Hp} {x : Str} {u : Value} {pos : Pos} {Q : Value → Shared → Prop} (I : Inv X pins σ H s) (hg : Gl X x) (hm : X.mg x = none) (hv : bootBuiltins x = some u) (h : Q u s)
    (hn : x ≠ "__name__" := by decide) (hd : (x == ("__debug__" : Str)) = false := by decide) : wpAny (model X.prog X.w) X.A (eval (.Name x pos) X.env) Q E s := by
  obtain ⟨mb, h1, h2⟩ := I.mod.blt
  exact Calls.Name_function_global I.ok.kind hg (Calls.loadGlobal_builtin (by rw [I.ok.glob]; exact I.mod.glob.keeps I.bk) hm (by rw [I.ok.blt]; exact h1.keeps I.bk) ((h2 x hn).trans hv) h) hd
theorem pe_glob {x : Str} {v : V} {u : Value} {pos : Pos} (hg : Gl X x) (hm : X.mg x = some u) (r : RelV v u) (hd : (x == ("__debug__" : Str)) = false := by decide) : PE X (.Name x pos) (tC v) :=
  fun _ _ _ H _ I h => ld_glob I hg hm ⟨v, H, I, r, h⟩ hd
theorem pe_bltn {x : Str} {v : V} {u : Value} {pos : Pos} (hg : Gl X x) (hm : X.mg x = none) (hv : bootBuiltins x = some u) (r : RelV v u) (hn : x ≠ "__name__" := by decide) (hd : (x == ("__debug__" : Str)) = false := by decide) : PE X (.Name x pos) (tC v) :=
  fun _ _ _ H _ I h => ld_blt I hg hm hv ⟨v, H, I, r, h⟩ hn hd
variable {a b : Expr} {ta tb : TE} {pos : Pos}
variable {tA tB' : TT} {rest : List Expr}
def tAnd (t u : TT) : TT := fun σ H Q => t σ H fun c H1 => if c = true then u σ H1 Q else Q false H1
def tOr (t u : TT) : TT := fun σ H Q => t σ H fun c H1 => if c = true then Q true H1 else u σ H1 Q
def tNot (t : TT) : TT := fun σ H Q => t σ H fun c H1 => Q (!c) H1
theorem pw_and1 (ha : PT X a tA) : PW X (.BoolOp .And [a] pos) tA := by
  intro wh pins s σ H Q I h
  refine isTrue_and (thn (ha pins s σ H Q I h) fun c s1 e => ?_)
  cases c with
  | true => exact isTrue_and_nil e
  | false => exact e
theorem pw_or1 (ha : PT X a tA) : PW X (.BoolOp .Or [a] pos) tA := by
  intro wh pins s σ H Q I h
  refine isTrue_or (thn (ha pins s σ H Q I h) fun c s1 e => ?_)
  cases c with
  | false => exact isTrue_or_nil e
  | true => exact e
theorem pw_and (ha : PT X a tA) (hb : PW X (.BoolOp .And (b :: rest) pos) tB') : PW X (.BoolOp .And (a :: b :: rest) pos) (tAnd tA tB') := by
  intro wh pins s σ H Q I h
  refine isTrue_and (thn (ha pins s σ H _ I h) fun c s1 ⟨H1, I1, q1⟩ => ?_)
  cases c with
  | true => exact hb wh pins s1 σ H1 Q I1 q1
  | false => exact ⟨H1, I1, q1⟩
theorem pw_or (ha : PT X a tA) (hb : PW X (.BoolOp .Or (b :: rest) pos) tB') : PW X (.BoolOp .Or (a :: b :: rest) pos) (tOr tA tB') := by
  intro wh pins s σ H Q I h
  refine isTrue_or (thn (ha pins s σ H _ I h) fun c s1 ⟨H1, I1, q1⟩ => ?_)
  cases c with
  | true => exact ⟨H1, I1, q1⟩
  | false => exact hb wh pins s1 σ H1 Q I1 q1
theorem pt_not (ha : PT X a tA) : PT X (.UnaryOp .Not a pos) (tNot tA) := by
  intro pins s σ H Q I h
  exact isTrue_not (ha pins s σ H (fun c H1 => Q (!c) H1) I h)
theorem pe_one {op} {t : TE} (h : PE X a t) : PE X (.BoolOp op [a] pos) t := fun pins s σ H Q I hw => BoolOp_one (h pins s σ H Q I hw)
end
end L2
namespace L2
open PySem PySem.Spec PyProof.Rows
def SqL (K : PySem.W.Frag) (H : Hp) (a : Addr) (xs : List V) : Prop :=
  Rd H a (.lst xs) ∨
    ∃ (o : Obj) (its : Array Value) (n : Nat), K.lookup a = some o ∧ o.cls = .type "list" ∧ o.dict = none ∧ o.data = .seq its n ∧ its.size ≤ sizeLine ∧ Vals xs its.toList
def SqT (K : PySem.W.Frag) (H : Hp) (a : Addr) (xs : List V) : Prop :=
  Rd H a (.tup xs) ∨
    ∃ (o : Obj) (its : Array Value) (n : Nat), K.lookup a = some o ∧ o.cls = .type "tuple" ∧ o.data = .seq its n ∧ its.size ≤ sizeLine ∧ Vals xs its.toList
def absV : Value → Option V
  | .none => some .non
  | .bool b => some (.bl b)
  | .int i _ => some (.int i)
  | .str x _ => some (.str x)
  | .bytes b _ => some (.byt b)
  | .float b _ => some (.flt b)
  | .ref a => some (.ref a)
  | .type n => some (.ty n)
  | _ => none
theorem RelV.abs {x : V} {u : Value} (r : RelV x u) : absV u = some x := by
  cases x with
  | non => cases r; rfl
  | bl _ => cases r; rfl
  | int _ => obtain ⟨t, rfl⟩ := r; rfl
  | str _ => obtain ⟨t, rfl⟩ := r; rfl
  | byt _ => obtain ⟨t, rfl⟩ := r; rfl
  | flt _ => obtain ⟨t, rfl⟩ := r; rfl
  | ref _ => cases r; rfl
  | ty _ => cases r; rfl
theorem RelV.inj {x y : V} {u : Value} (r : RelV x u) (q : RelV y u) : x = y := Option.some.inj (r.abs.symm.trans q.abs)
theorem Vals.inj : ∀ {xs ys : List V} {us : List Value}, Vals xs us → Vals ys us → xs = ys
  | _, _, _, .nil, .nil => rfl
  | _, _, _, .cons r t, .cons r' t' => by rw [r.inj r', Vals.inj t t']
section
variable {X : Cx} {pins : List (Addr × Obj)} {σ : St} {H : Hp} {s : Shared} {a : Addr} {xs ys : List V}
theorem Inv.list (I : Inv X pins σ H s) (h : SqL X.K H a xs) : ∃ its : List Value, Vals xs its ∧ PlainL s.heap a its.toArray ∧ xs.length ≤ sizeLine := by
  rcases h with h | ⟨o, its, n, hk, hc, hd, hs, hz, r⟩
  · obtain ⟨z, its, n, r, e⟩ := h.ok I.hok
    exact ⟨its, r, ⟨_, n, e, rfl, rfl, rfl⟩, z⟩
  · refine ⟨its.toList, r, ⟨o, n, I.kIn a o hk, hc, hd, by simpa using hs⟩, ?_⟩
    have e := r.length
    simp only [Array.length_toList] at e
    omega
theorem Inv.tuple (I : Inv X pins σ H s) (h : SqT X.K H a xs) : ∃ its : List Value, Vals xs its ∧ IsTup s.heap a its.toArray ∧ xs.length ≤ sizeLine := by
  rcases h with h | ⟨o, its, n, hk, hc, hs, hz, r⟩
  · obtain ⟨z, its, r, p⟩ := h.ok I.hok
    exact ⟨its, r, p, z⟩
  · refine ⟨its.toList, r, ⟨o, I.kIn a o hk, hc, n, by simpa using hs⟩, ?_⟩
    have e := r.length
    simp only [Array.length_toList] at e
    omega
theorem Inv.list_inj (I : Inv X pins σ H s) (h : SqL X.K H a xs) (h' : SqL X.K H a ys) : xs = ys := by
  obtain ⟨its, r, ⟨o, n, e, _, _, d⟩, _⟩ := I.list h
  obtain ⟨its', r', ⟨o', n', e', _, _, d'⟩, _⟩ := I.list h'
  rw [e] at e'; cases e'
  rw [d] at d'
  injection d' with d1 _
  have : its = its' := by simpa using congrArg Array.toList d1
  subst this
  exact r.inj r'
theorem Inv.tuple_inj (I : Inv X pins σ H s) (h : SqT X.K H a xs) (h' : SqT X.K H a ys) : xs = ys := by
  obtain ⟨its, r, ⟨o, e, _, n, d⟩, _⟩ := I.tuple h
  obtain ⟨its', r', ⟨o', e', _, n', d'⟩, _⟩ := I.tuple h'
  rw [e] at e'; cases e'
  rw [d] at d'
  injection d' with d1 _
  have : its = its' := by simpa using congrArg Array.toList d1
  subst this
  exact r.inj r'
end
abbrev Cx.wish (X : Cx) (E : Value → Shared → Prop) : Cx := { X with xe := E }
theorem Cx.Ok.wish {X : Cx} (ok : X.Ok) (E : Value → Shared → Prop) : (X.wish E).Ok :=
  ⟨ok.mod, ok.kind, ok.glob, ok.blt, ok.above, ok.inj, ok.has, ok.cab, ok.hd, ok.frames, ok.stk, ok.exf, ok.bs, ok.bsz, ok.noex, ok.exfs, ok.funs, ok.frf⟩
theorem Cx.Ok.unwish {X : Cx} {E : Value → Shared → Prop} (ok : (X.wish E).Ok) : X.Ok :=
  ⟨ok.mod, ok.kind, ok.glob, ok.blt, ok.above, ok.inj, ok.has, ok.cab, ok.hd, ok.frames, ok.stk, ok.exf, ok.bs, ok.bsz, ok.noex, ok.exfs, ok.funs, ok.frf⟩
section
variable {X : Cx} {pins : List (Addr × Obj)} {σ : St} {H : Hp} {s : Shared} {E : Value → Shared → Prop}
theorem Inv.wish (I : Inv X pins σ H s) (E : Value → Shared → Prop) : Inv (X.wish E) pins σ H s := ⟨I.ok.wish E, I.os, I.bare, I.base, I.loc, I.cell, I.free, I.freeC, I.pin, I.hok, I.len⟩
theorem Inv.unwish (I : Inv (X.wish E) pins σ H s) : Inv X pins σ H s := ⟨I.ok.unwish, I.os, I.bare, I.base, I.loc, I.cell, I.free, I.freeC, I.pin, I.hok, I.len⟩
theorem SP.unwish {D : Ends} {f : Flow} {s' : Shared} (h : SP (X.wish E) pins D f s') : SP X pins D f s' := by
  cases f with
  | next => obtain ⟨σ', H', I, q⟩ := h; exact ⟨σ', H', I.unwish, q⟩
  | brk => obtain ⟨σ', H', I, q⟩ := h; exact ⟨σ', H', I.unwish, q⟩
  | cont => obtain ⟨σ', H', I, q⟩ := h; exact ⟨σ', H', I.unwish, q⟩
  | ret u => obtain ⟨v, σ', H', I, r, q⟩ := h; exact ⟨v, σ', H', I.unwish, r, q⟩
end
section
variable {X : Cx} {st : Stmt} {rest : List Stmt} {t u : TS} {e : Expr} {te : TE} {pos : Pos}
def tNext : TS := fun D σ H => D.nx σ H
def tSeq (t u : TS) : TS := fun D σ H => t { D with nx := u D } σ H
theorem pss_nil : PSs X [] tNext := fun _ _ σ H _ I h => wpAny_execs_nil ⟨σ, H, I, h⟩
theorem pss_cons (h1 : PS X st t) (h2 : PSs X rest u) : PSs X (st :: rest) (tSeq t u) := by
  intro pins s σ H D I h
  refine wpAny_execs_cons (thn (h1 pins s σ H { D with nx := u D } I h) fun f s1 q => ?_)
  cases f with
  | next =>
    obtain ⟨σ', H', I', q⟩ := q
    exact h2 pins s1 σ' H' D I' q
  | ret v => exact q
  | brk => exact q
  | cont => exact q
theorem Inv.quiet {pins : List (Addr × Obj)} {σ : St} {H : Hp} {s : Shared} (I : Inv X pins σ H s) : interactive X.env = false := by simp [interactive, I.ok.kind]
def tDrop (te : TE) : TS := fun D σ H => te σ H fun _ H1 => D.nx σ H1
theorem ps_expr (he : PE X e te) (hs : swapsWith e none pos.line X.env = pure false := by rfl) : PS X (.Expr e pos) (tDrop te) := by
  intro pins s σ H D I h
  exact wpAny_Expr_any (thn (he pins s σ H _ I h) fun v s1 ⟨x, H1, I1, r1, q1⟩ => ⟨σ, H1, I1, q1⟩) I.quiet hs
def tRet (te : TE) : TS := fun D σ H => te σ H D.rt
theorem ps_ret (he : PE X e te) : PS X (.Return (some e) pos) (tRet te) := by
  intro pins s σ H D I h
  exact wpAny_Return_some (thn (he pins s σ H _ I h) fun v s1 ⟨x, H1, I1, r1, q1⟩ => ⟨x, σ, H1, I1, r1, q1⟩)
def tRetN : TS := fun D _ H => D.rt .non H
theorem ps_retN : PS X (.Return none pos) tRetN := fun _ _ σ H _ I h => wpAny_Return_none ⟨.non, σ, H, I, rfl, h⟩
def tIfS (c : TT) (t u : TS) : TS := fun D σ H => c σ H fun b H1 => if b = true then t D σ H1 else u D σ H1
theorem ps_if {c : Expr} {a b : List Stmt} {tc : TT} (hc : PT X c tc) (ha : PSs X a t) (hb : PSs X b u) : PS X (.If c a b pos) (tIfS tc t u) := by
  intro pins s σ H D I h
  refine wpAny_If (thn (hc pins s σ H _ I h) fun d s1 ⟨H1, I1, q1⟩ => ?_)
  cases d with
  | true => exact ha pins s1 σ H1 D I1 q1
  | false => exact hb pins s1 σ H1 D I1 q1
end
abbrev TG := V → St → Hp → (St → Hp → Prop) → Prop
abbrev TGs := List V → St → Hp → (St → Hp → Prop) → Prop
def PG (X : Cx) (target : Expr) (t : TG) : Prop :=
  ∀ (pins : List (Addr × Obj)) (s : Shared) (σ : St) (H : Hp) (v : V) (u : Value) (Q : St → Hp → Prop), Inv X pins σ H s → RelV v u → t v σ H Q →
    wpAny (model X.prog X.w) X.A (assign target X.env u) (fun _ s' => ∃ σ' H', Inv X pins σ' H' s' ∧ Q σ' H') X.xe s
def PGs (X : Cx) (ts : List Expr) (t : TGs) : Prop :=
  ∀ (pins : List (Addr × Obj)) (s : Shared) (σ : St) (H : Hp) (vs : List V) (us : List Value) (Q : St → Hp → Prop), Inv X pins σ H s → Vals vs us → t vs σ H Q →
    wpAny (model X.prog X.w) X.A (assignInOrder ((assignEach ts X.env).map (·.2)) us) (fun _ s' => ∃ σ' H', Inv X pins σ' H' s' ∧ Q σ' H') X.xe s
abbrev TSet := V → V → V → Hp → (Hp → Prop) → Prop
def PSet (X : Cx) (t : TSet) : Prop :=
  ∀ (pins : List (Addr × Obj)) (s : Shared) (σ : St) (H : Hp) (o i v : V) (ov iv u : Value) (Q : Hp → Prop), Inv X pins σ H s → RelV o ov → RelV i iv → RelV v u → t o i v H Q →
    wpAny (model X.prog X.w) X.A (setItem ov iv u) (fun _ s' => ∃ H', Inv X pins σ H' s' ∧ Q H') X.xe s
section
variable {X : Cx} {pos : Pos}
def gName (i : Nat) : TG := fun v σ H Q => Q (σ.set i (some v)) H
theorem pg_name {i : Nat} {x : Str} (hN : X.N.Nodup) (hi : X.N[i]? = some x) (hx : Loc X.env.scope x) (hf : X.fn x = true ∨ X.env.scope.names.lookup x = some .local := by first | exact .inl rfl | exact .inr rfl | assumption) : PG X (.Name x pos) (gName i) := by
  intro pins s σ H v u Q I r h
  exact wpAny_assign_Name (store_ok I hN hi hx r (fun s' I' => ⟨_, H, I', h⟩) hf)
def gNil : TGs := fun vs σ H Q => vs = [] ∧ Q σ H
def gCons (t : TG) (u : TGs) : TGs := fun vs σ H Q => ∃ v r, vs = v :: r ∧ t v σ H fun σ' H' => u r σ' H' Q
theorem pgs_nil : PGs X [] gNil := by
  intro pins s σ H vs us Q I r h
  obtain ⟨e, h⟩ := h
  subst e
  cases r
  exact assignInOrder_nil ⟨σ, H, I, h⟩
theorem pgs_cons {e : Expr} {es : List Expr} {t : TG} {u : TGs} (h1 : PG X e t) (h2 : PGs X es u)
    (hs : (assignEach (e :: es) X.env).map (·.2) = assign e X.env :: (assignEach es X.env).map (·.2) := by rfl) : PGs X (e :: es) (gCons t u) := by
  intro pins s σ H vs us Q I r h
  obtain ⟨v, vr, e1, h⟩ := h
  subst e1
  cases r with
  | cons r rr =>
    rw [hs]
    refine assignInOrder_cons (thn (h1 pins s σ H _ _ _ I r h) fun _ s1 ⟨σ1, H1, I1, q1⟩ => ?_)
    exact h2 pins s1 σ1 H1 _ _ Q I1 rr q1
def gTup (K : PySem.W.Frag) (n : Nat) (t : TGs) : TG := fun v σ H Q => ∃ a xs, v = .ref a ∧ SqT K H a xs ∧ xs.length = n ∧ t xs σ H Q
theorem pg_tup {es : List Expr} {k : Nat} {t : TGs} {n : Nat} (hc : X.calm = true) (h : PGs X es t)
    (hn : (assignEach es X.env).length = n := by rfl) (hst : (assignEach es X.env).findIdx? (·.1) = none := by rfl) : PG X (.Tuple es k pos) (gTup X.K n t) := by
  intro pins s σ H v u Q I r hw
  obtain ⟨a, xs, e1, hq, hl, hw⟩ := hw
  subst e1
  cases r
  obtain ⟨its, rv, ht, hz⟩ := I.tuple hq
  refine assign_Tuple_tuple (I.ok.hd hc) ht (by simp [hn, ← hl, rv.length]) hst fun h' hx => ?_
  have I1 : Inv X pins σ H { s with heap := h' } := I.kept (t' := s.toks) fun b o e => hx b o (Nat.ne_of_lt (Heap.lt_size e)) e
  exact h pins _ σ H xs _ Q I1 (by simpa using rv) hw
def gSub (to ti : TE) (t : TSet) : TG := fun v σ H Q => to σ H fun o H1 => ti σ H1 fun i H2 => t o i v H2 fun H3 => Q σ H3
theorem pg_sub {o i : Expr} {to ti : TE} {t : TSet} (ho : PE X o to) (hi : PE X i ti) (hs : PSet X t)
    (ha : ∀ v, assign (.Subscript o i pos) X.env v = (do
      let ov ← holding [v] (eval o X.env)
      let iv ← holding [v, ov] (eval i X.env)
      standAt pos
      holding [v, ov, iv] (setItem ov iv v)
      release [v, ov, iv] []) := by intro _; rfl) : PG X (.Subscript o i pos) (gSub to ti t) := by
  intro pins s σ H v u Q I r h
  rw [ha]
  refine wpAny_bind (wpAny_holding (thn (ho pins s σ H _ I h) fun ov s1 ⟨x, H1, I1, r1, q1⟩ => ?_))
  refine wpAny_bind (wpAny_holding (thn (hi pins s1 σ H1 _ I1 q1) fun iv s2 ⟨y, H2, I2, r2, q2⟩ => ?_))
  refine wpAny_bind (wpAny_standAt (wpAny_bind (wpAny_holding (thn (hs pins s2 σ H2 x y v ov iv u _ I2 r1 r2 r q2) fun _ s3 ⟨H3, I3, q3⟩ => ?_))))
  exact wpAny_release ⟨σ, H3, I3, q3⟩
def tAsg (te : TE) (g : TG) : TS := fun D σ H => te σ H fun x H1 => g x σ H1 D.nx
theorem ps_asg {tg e : Expr} {te : TE} {g : TG} (he : PE X e te) (hg : PG X tg g) (hs : swapsWithSole [tg] e pos.line X.env = pure false := by rfl) (hw : swappedStores [tg] e X.env = pure none := by rfl)
    (h1 : (assignEach [tg] X.env).map (·.2) = [assign tg X.env] := by rfl) : PS X (.Assign [tg] e pos) (tAsg te g) := by
  intro pins s σ H D I h
  refine wpAny_Assign_stores (thn (he pins s σ H _ I h) fun v s1 ⟨x, H1, I1, r1, q1⟩ => ?_) hs hw
  rw [h1]
  exact thn (hg pins s1 σ H1 x v _ I1 r1 q1) fun _ s2 q => q
theorem ps_set {i : Nat} {x : Str} {e : Expr} {te : TE} {pos' : Pos} (hN : X.N.Nodup) (hi : X.N[i]? = some x) (hx : Loc X.env.scope x) (he : PE X e te) (hs : swapsWith e (some (.Name x pos')) pos.line X.env = pure false := by rfl) (hf : X.fn x = true ∨ X.env.scope.names.lookup x = some .local := by first | exact .inl rfl | exact .inr rfl | assumption) :
    PS X (.Assign [.Name x pos'] e pos) (tAsg te (gName i)) := by
  intro pins s σ H D I h
  refine wpAny_Assign_Name (thn (he pins s σ H _ I h) fun v s1 ⟨y, H1, I1, r1, q1⟩ => ?_) hs
  exact store_ok I1 hN hi hx r1 (fun s2 I2 => ⟨_, H1, I2, q1⟩) hf
end
section
variable {X : Cx} {pos : Pos}
end
structure It where
  go : Nat → Hp → Prop
  yld : Nat → Hp → V → Hp → Prop
  stop : Nat → Hp → Prop
def FpOk (X : Cx) (pins : List (Addr × Obj)) (H : Hp) (b : Addr) : Prop :=
  H b = none ∧ b ≠ X.env.locals ∧ b ∉ X.fs ∧ (b ∈ X.ex ∨ X.s₀.heap.objs.size ≤ b) ∧ (∀ x c, X.env.cells.lookup x = some c → c ≠ b) ∧ ∀ p ∈ X.pn ++ pins, p.1 ≠ b
theorem Inv.fpOk {X : Cx} {pins : List (Addr × Obj)} {σ : St} {H H' : Hp} {s : Shared} {b : Addr} (I : Inv X pins σ H s) (hb : s.heap.objs.size ≤ b) (hn : H' b = none) : FpOk X pins H' b := by
  refine ⟨hn, Nat.ne_of_gt (Nat.lt_of_lt_of_le I.lt hb), I.nofs hb, .inr (Nat.le_trans I.sz hb), fun x c e z => ?_, fun p hp z => ?_⟩
  · obtain ⟨v, q⟩ := I.cell x c e
    exact absurd (Nat.lt_of_lt_of_le q.lt (by rw [z]; exact hb)) (Nat.lt_irrefl _)
  · exact absurd (Nat.lt_of_lt_of_le (Heap.lt_size (I.pin p hp).1) (by rw [z]; exact hb)) (Nat.lt_irrefl _)
structure Turn (P : Program) (w : World) (K : PySem.W.Frag) (tg : Expr) (J : It) (fp : List Addr) (it : Addr) (tn : Nat → Heap → Prop) : Prop where
  mem : it ∈ fp
  obj : ∀ i h, tn i h → ∀ b ∈ fp, ∃ o, h.get? b = some o ∧ ∀ v, o.data ≠ .cell v
  keep : ∀ i h h', tn i h → (∀ b ∈ fp, ∀ o, h.get? b = some o → h'.get? b = some o) → tn i h'
  item : ∀ (X : Cx), X.prog = P → X.w = w → X.K = K → X.calm = true → ∀ (i : Nat) (pins : List (Addr × Obj)) (s : Shared) (σ : St) (H : Hp) (E : Value → Shared → Prop), Inv X pins σ H s → (∀ b ∈ fp, FpOk X pins H b) → tn i s.heap → J.go i H →
    wpAny (model P w) X.A (pyNext (.ref it)) (fun r s1 => ∃ u, r = some u ∧
      wpAny (model P w) X.A (letOwnedTupleGo tg (.ref it) u) (fun _ s2 => ∃ x H', Inv X pins σ H' s2 ∧ RelV x u ∧ J.yld i H x H' ∧ tn (i + 1) s2.heap ∧ ∀ b ∈ fp, H' b = none) E s1) E s
  done : ∀ (X : Cx), X.prog = P → X.w = w → X.K = K → X.calm = true → ∀ (i : Nat) (pins : List (Addr × Obj)) (s : Shared) (σ : St) (H : Hp) (E : Value → Shared → Prop), Inv X pins σ H s → (∀ b ∈ fp, FpOk X pins H b) → tn i s.heap → J.stop i H →
    wpAny (model P w) X.A (pyNext (.ref it)) (fun r s1 => r = none ∧ Inv X pins σ H s1) E s
  self : ∀ (A : Around) (i : Nat) (s : Shared) (Q : Value → Shared → Prop) (E : Value → Shared → Prop), tn i s.heap → Q (.ref it) s → wpAny (model P w) A (pyIter (.ref it)) Q E s
abbrev TI := St → Hp → (It → Hp → Prop) → Prop
def PIE (X : Cx) (pins : List (Addr × Obj)) (σ : St) (tg : Expr) (R : It → Hp → Prop) (itv : Value) (s2 : Shared) : Prop :=
  ∃ (it : Addr) (fp : List Addr) (tn : Nat → Heap → Prop) (J : It) (H' : Hp), itv = .ref it ∧ Inv X pins σ H' s2 ∧ Turn X.prog X.w X.K tg J fp it tn ∧ tn 0 s2.heap ∧ (∀ b ∈ fp, FpOk X pins H' b) ∧ R J H'
def PI (X : Cx) (tg iter : Expr) (wi : TI) : Prop :=
  ∀ (pins : List (Addr × Obj)) (s : Shared) (σ : St) (H : Hp) (R : It → Hp → Prop), Inv X pins σ H s → wi σ H R →
    wpAny (model X.prog X.w) X.A (eval iter X.env) (fun v s1 => wpAny (model X.prog X.w) X.A (pyIter v) (PIE X pins σ tg R) X.xe s1) X.xe s
theorem go_of {M : Model} {A : Around} {E : Value → Shared → Prop} {s : Shared} {tg : Expr} {it : Addr} {u : Value} {o : Obj} {n : String} {vs : Array Value} {Q : Unit → Shared → Prop} (ho : s.heap.get? it = some o) (hc : o.cls = .type n) (hd : o.data = .fields vs)
    (hn : ["enumerate", "zip", "dict_itemiterator", "dict_reverseitemiterator", "odict_iterator", "itertools.zip_longest", "itertools.pairwise"].contains n = false) (hQ : Q () s) : wpAny M A (letOwnedTupleGo tg (.ref it) u) Q E s := by
  unfold letOwnedTupleGo
  cases tg <;> first
    | exact wpAny_pure hQ
    | (cases u <;> first
        | exact wpAny_pure hQ
        | (refine wpAny_bind (wpAny_load ho ?_)
           rw [hc, hd]
           show wpAny M A (if (["enumerate", "zip", "dict_itemiterator", "dict_reverseitemiterator", "odict_iterator", "itertools.zip_longest", "itertools.pairwise"].contains n && vs[0]? == some (rawInt _)) = true then _ else _) Q E s
           rw [if_neg (by intro h; rw [hn, Bool.false_and] at h; cases h)]
           exact wpAny_pure hQ))
def Itl (K : PySem.W.Frag) (a : Addr) : It :=
  ⟨fun i H => ∃ xs x, SqL K H a xs ∧ xs[i]? = some x, fun i H x H' => H' = H ∧ ∀ xs, SqL K H a xs → xs[i]? = some x, fun i H => ∃ xs, SqL K H a xs ∧ xs.length ≤ i⟩
def Itt (K : PySem.W.Frag) (a : Addr) : It :=
  ⟨fun i H => ∃ xs x, SqT K H a xs ∧ xs[i]? = some x, fun i H x H' => H' = H ∧ ∀ xs, SqT K H a xs → xs[i]? = some x, fun i H => ∃ xs, SqT K H a xs ∧ xs.length ≤ i⟩
def Itr (lo : Int) (n : Nat) : It := ⟨fun i _ => i < n, fun i H x H' => H' = H ∧ x = .int (lo + i), fun i _ => n ≤ i⟩
theorem turn_list {P : Program} {w : World} {K : PySem.W.Frag} {tg : Expr} (a it : Addr) : Turn P w K tg (Itl K a) [it] it (fun i h => h.IsListIter it a i) where
  mem := by simp
  obj := fun i h st b hb => by
    have e : b = it := by simpa using hb
    subst e
    obtain ⟨o, e, c, d⟩ := st
    exact ⟨o, e, fun v z => by rw [d] at z; cases z⟩
  keep := fun i h h' st k => st.at fun o e => k it (by simp) o e
  item := by
    intro X hP hw hK hc i pins s σ H E I hf st hg
    subst hP hw hK
    obtain ⟨xs, x, hq, hx⟩ := hg
    obtain ⟨its, rv, p, hz⟩ := I.list hq
    obtain ⟨u, hu, ru⟩ := rv.get hx
    obtain ⟨f0, f1, f2, f3, f4, f5⟩ := hf it (by simp)
    refine wpAny_pyNext_list_item st p.isList (x := u) (by simpa using hu) fun h' st' sb => ?_
    have I1 : Inv X pins σ H { s with heap := h' } := I.turned (t' := s.toks) (fun b o hb e => (sb.2 b hb).trans e) f0 f1 f3 f4 f5
    obtain ⟨o, e, c, d⟩ := id st'
    exact ⟨u, rfl, go_of (s := { s with heap := h' }) e c d (by decide) ⟨x, H, I1, ru, ⟨rfl, fun ys hy => by rw [I.list_inj hy hq]; exact hx⟩, st', fun b hb => (hf b hb).1⟩⟩
  done := by
    intro X hP hw hK hc i pins s σ H E I hf st hg
    subst hP hw hK
    obtain ⟨xs, hq, hx⟩ := hg
    obtain ⟨its, rv, p, hz⟩ := I.list hq
    obtain ⟨f0, f1, f2, f3, f4, f5⟩ := hf it (by simp)
    have hl := rv.length
    exact wpAny_pyNext_list_end (I.ok.hd hc) st p.isList (by simp; omega) fun h' eb => ⟨rfl, I.turned (t' := s.toks) (fun b o hb e => eb b o hb e) f0 f1 f3 f4 f5⟩
  self := fun _ _ _ _ _ st h => wpAny_pyIter_listiter st h
theorem turn_tuple {P : Program} {w : World} {K : PySem.W.Frag} {tg : Expr} (a it : Addr) : Turn P w K tg (Itt K a) [it] it (fun i h => h.IsTupleIter it a i) where
  mem := by simp
  obj := fun i h st b hb => by
    have e : b = it := by simpa using hb
    subst e
    obtain ⟨o, e, c, d⟩ := st
    exact ⟨o, e, fun v z => by rw [d] at z; cases z⟩
  keep := fun i h h' st k => st.at fun o e => k it (by simp) o e
  item := by
    intro X hP hw hK hc i pins s σ H E I hf st hg
    subst hP hw hK
    obtain ⟨xs, x, hq, hx⟩ := hg
    obtain ⟨its, rv, p, hz⟩ := I.tuple hq
    obtain ⟨u, hu, ru⟩ := rv.get hx
    obtain ⟨f0, f1, f2, f3, f4, f5⟩ := hf it (by simp)
    refine wpAny_pyNext_tuple_item st (show s.heap.IsTuple a its.toArray from p) (x := u) (by simpa using hu) fun h' st' sb => ?_
    have I1 : Inv X pins σ H { s with heap := h' } := I.turned (t' := s.toks) (fun b o hb e => (sb.2 b hb).trans e) f0 f1 f3 f4 f5
    obtain ⟨o, e, c, d⟩ := id st'
    exact ⟨u, rfl, go_of (s := { s with heap := h' }) e c d (by decide) ⟨x, H, I1, ru, ⟨rfl, fun ys hy => by rw [I.tuple_inj hy hq]; exact hx⟩, st', fun b hb => (hf b hb).1⟩⟩
  done := by
    intro X hP hw hK hc i pins s σ H E I hf st hg
    subst hP hw hK
    obtain ⟨xs, hq, hx⟩ := hg
    obtain ⟨its, rv, p, hz⟩ := I.tuple hq
    obtain ⟨f0, f1, f2, f3, f4, f5⟩ := hf it (by simp)
    have hl := rv.length
    exact wpAny_pyNext_tuple_end (I.ok.hd hc) st (show s.heap.IsTuple a its.toArray from p) (by simp; omega) fun h' eb => ⟨rfl, I.turned (t' := s.toks) (fun b o hb e => eb b o hb e) f0 f1 f3 f4 f5⟩
  self := fun _ _ _ _ _ st h => wpAny_pyIter_tupleiter st h
end L2
namespace L2
open PySem PySem.Spec PyProof.Rows
section
variable {X : Cx} {tg : Expr}
def iRng2 (ta : TA) : TI := fun σ H R => ta σ H fun vs H1 => ∃ i j : Int, vs = [.int i, .int j] ∧ (-(2 ^ 62) ≤ i ∧ i < 2 ^ 62 ∧ -(2 ^ 62) ≤ j ∧ j < 2 ^ 62) ∧ R (Itr i (j - i).toNat) H1
def tFor (wi : TI) (g : TG) (tb : TS) : TS := fun D σ H => wi σ H fun J H1 => ∃ W : Nat → Nat → St → Hp → Prop, (∃ m, W 0 m σ H1) ∧ ∀ i m σ H, W i m σ H →
  (J.stop i H ∧ D.nx σ H) ∨ (J.go i H ∧ ∃ N : St → Hp → Prop, (∀ σ' H', N σ' H' → ∃ m', m' < m ∧ W (i + 1) m' σ' H') ∧ ∀ x H', J.yld i H x H' → g x σ H' fun σ2 H2 => tb { D with nx := N, ct := N, bk := D.nx } σ2 H2)
def pinsAt (fp : List Addr) (h : Heap) : List (Addr × Obj) := fp.filterMap fun b => (h.get? b).map fun o => (b, o)
theorem mem_pinsAt {fp : List Addr} {h : Heap} {b : Addr} {o : Obj} (hb : b ∈ fp) (e : h.get? b = some o) : (b, o) ∈ pinsAt fp h := List.mem_filterMap.mpr ⟨b, hb, by rw [e]; rfl⟩
theorem of_pinsAt {fp : List Addr} {h : Heap} {p : Addr × Obj} (hp : p ∈ pinsAt fp h) : p.1 ∈ fp ∧ h.get? p.1 = some p.2 := by
  obtain ⟨b, hb, e⟩ := List.mem_filterMap.mp hp
  cases q : h.get? b with
  | none => rw [q] at e; cases e
  | some o =>
    rw [q] at e
    have e' : (b, o) = p := Option.some.inj e
    subst e'
    exact ⟨hb, q⟩
theorem Inv.pinned {pins : List (Addr × Obj)} {σ : St} {H : Hp} {s : Shared} {fp : List Addr} (I : Inv X pins σ H s) (hf : ∀ b ∈ fp, FpOk X pins H b) (ho : ∀ b ∈ fp, ∃ o, s.heap.get? b = some o ∧ ∀ v, o.data ≠ .cell v) : Inv X (pins ++ pinsAt fp s.heap) σ H s :=
  I.pins_of fun p hp => (List.mem_append.mp hp).elim (fun z => I.pin p (List.mem_append_right _ z)) fun z => by
    obtain ⟨hb, e⟩ := of_pinsAt z
    obtain ⟨f0, f1, f2, _⟩ := hf p.1 hb
    obtain ⟨o, e', d⟩ := ho p.1 hb
    rw [e] at e'; cases e'
    exact ⟨e, f0, f1, f2, d⟩
theorem Inv.unpinned {pins pl : List (Addr × Obj)} {σ : St} {H : Hp} {s : Shared} (I : Inv X (pins ++ pl) σ H s) : Inv X pins σ H s := I.pins_of fun p hp => I.pin p (List.mem_append_right _ (List.mem_append_left _ hp))
theorem ps_for {iter : Expr} {body : List Stmt} {wi : TI} {g : TG} {tb : TS} {pos : Pos} (hp : PassesOwn (model X.prog X.w) X.A X.env X.xe) (hc : X.calm = true) (hi : PI X tg iter wi) (hg : PG X tg g) (hb : PSs X body tb)
    (hs : ∀ x, foldedSetIterable iter X.env x = pure x := by intro _; rfl) : PS X (.For tg iter body [] pos) (tFor wi g tb) := by
  intro pins s σ H D I h
  refine wpAny_For (thn (hi pins s σ H _ I h) fun v s1 h1 => thn h1 fun itv s2 h2 => ?_) hs
  obtain ⟨it, fp, tn, J, H2, e, I2, T, st2, f2, W, ⟨m0, w0⟩, turn⟩ := h2
  subst e
  have stat : ∀ {H' : Hp}, (∀ b ∈ fp, H' b = none) → ∀ b ∈ fp, FpOk X pins H' b := fun hn b hb => ⟨hn b hb, (f2 b hb).2⟩
  refine codeAny_forLoop_any (fun n s' => ∃ i σ' H', Inv X pins σ' H' s' ∧ tn i s'.heap ∧ (∀ b ∈ fp, H' b = none) ∧ W i n σ' H') ?_ m0 ⟨0, σ, H2, I2, st2, fun b hb => (f2 b hb).1, w0⟩
  rintro n s3 ⟨i, σ3, H3, I3, st3, fr3, w3⟩
  rcases turn i n σ3 H3 w3 with ⟨stop, qn⟩ | ⟨go, N, hN, step⟩
  · refine wpAny_passesOwn hp (thn (T.done X rfl rfl rfl hc i pins s3 σ3 H3 X.xe I3 (stat fr3) st3 stop) fun r s4 ⟨hr, I4⟩ => ?_)
    subst hr
    exact wpAny_execs_nil ⟨σ3, H3, I4, qn⟩
  · refine wpAny_passesOwn hp (thn (T.item X rfl rfl rfl hc i pins s3 σ3 H3 X.xe I3 (stat fr3) st3 go) fun r s4 ⟨u, hr, h4⟩ => ?_)
    subst hr
    refine wpAny_passesOwn hp (thn h4 fun _ s5 ⟨x, H5, I5, r5, y5, st5, fr5⟩ => ?_)
    have I5' := I5.pinned (stat fr5) (T.obj _ _ st5)
    refine wpAny_passesOwn hp (thn (hg _ s5 σ3 H5 x u _ I5' r5 (step x H5 y5)) fun _ s6 ⟨σ6, H6, I6, q6⟩ => ?_)
    refine wpAny_passesOwn hp (thn (hb _ s6 σ6 H6 _ I6 q6) fun f s7 q7 => ?_)
    have again : ∀ {σ7 : St} {H7 : Hp}, Inv X (pins ++ pinsAt fp s5.heap) σ7 H7 s7 → N σ7 H7 → ∃ m, m < n ∧ ∃ i σ' H', Inv X pins σ' H' s7 ∧ tn i s7.heap ∧ (∀ b ∈ fp, H' b = none) ∧ W i m σ' H' := fun {σ7 H7} I7 n7 => by
      obtain ⟨m', hm, w7⟩ := hN σ7 H7 n7
      refine ⟨m', hm, i + 1, σ7, H7, I7.unpinned, T.keep _ _ _ st5 fun b hb o e => (I7.pin (b, o) (List.mem_append_right _ (List.mem_append_right _ (mem_pinsAt hb e)))).1, fun b hb => ?_, w7⟩
      obtain ⟨o, e, d⟩ := T.obj _ _ st5 b hb
      exact (I7.pin (b, o) (List.mem_append_right _ (List.mem_append_right _ (mem_pinsAt hb e)))).2.1
    cases f with
    | next => obtain ⟨σ7, H7, I7, n7⟩ := q7; exact again I7 n7
    | cont => obtain ⟨σ7, H7, I7, n7⟩ := q7; exact again I7 n7
    | brk => obtain ⟨σ7, H7, I7, q7⟩ := q7; exact ⟨σ7, H7, I7.unpinned, q7⟩
    | ret v => obtain ⟨x7, σ7, H7, I7, r7, q7⟩ := q7; exact ⟨x7, σ7, H7, I7.unpinned, r7, q7⟩
end
end L2
namespace L2
open PySem PySem.Spec PyProof.Rows
abbrev R2 := V → V → Hp → VK → Prop
def OpR (X : Cx) (f : Value → Value → Sem Value) (r : R2) : Prop :=
  ∀ (pins : List (Addr × Obj)) (s : Shared) (σ : St) (H : Hp) (x y : V) (v u : Value) (Q : VK), Inv X pins σ H s → RelV x v → RelV y u → r x y H Q →
    wpAny (model X.prog X.w) X.A (f v u) (EP X pins σ Q) X.xe s
def UnR (X : Cx) (f : Value → Sem Value) (r : V → Hp → VK → Prop) : Prop :=
  ∀ (pins : List (Addr × Obj)) (s : Shared) (σ : St) (H : Hp) (x : V) (v : Value) (Q : VK), Inv X pins σ H s → RelV x v → r x H Q →
    wpAny (model X.prog X.w) X.A (f v) (EP X pins σ Q) X.xe s
def CallR (X : Cx) (f : Value) (r : List V → Hp → VK → Prop) : Prop :=
  ∀ (pins : List (Addr × Obj)) (s : Shared) (σ : St) (H : Hp) (xs : List V) (us : List Value) (Q : VK), Inv X pins σ H s → Vals xs us → r xs H Q →
    wpAny (model X.prog X.w) X.A (call f us) (EP X pins σ Q) X.xe s
def rI (C : Int → Int → Prop) (g : Int → Int → V) : R2 := fun x y H Q => ∃ i j, x = .int i ∧ y = .int j ∧ C i j ∧ Q (g i j) H
def rI0 (g : Int → Int → V) : R2 := fun x y H Q => ∃ i j, x = .int i ∧ y = .int j ∧ Q (g i j) H
def rU (g : Int → V) : V → Hp → VK → Prop := fun x H Q => ∃ i, x = .int i ∧ Q (g i) H
section
variable {X : Cx} {a b c : Expr} {ta tb tc : TE} {pos : Pos}
theorem opI {f : Value → Value → Sem Value} {C : Int → Int → Prop} {g : Int → Int → Int}
    (rule : ∀ (i j : Int) (t u : Tok) (s : Shared) (Q : Value → Shared → Prop) (E : Value → Shared → Prop), C i j → Q (.int (g i j) s.toks) { s with toks := s.toks + 1 } → wpAny (model X.prog X.w) X.A (f (.int i t) (.int j u)) Q E s) :
    OpR X f (rI C fun i j => .int (g i j)) := by
  intro pins s σ H x y v u Q I rx ry h
  obtain ⟨i, j, rfl, rfl, hc, q⟩ := h
  obtain ⟨t, rfl⟩ := rx
  obtain ⟨t', rfl⟩ := ry
  exact rule i j t t' s _ _ hc ⟨.int (g i j), H, I.tok _, ⟨_, rfl⟩, q⟩
theorem opI0 {f : Value → Value → Sem Value} {g : Int → Int → Int}
    (rule : ∀ (i j : Int) (t u : Tok) (s : Shared) (Q : Value → Shared → Prop) (E : Value → Shared → Prop), Q (.int (g i j) s.toks) { s with toks := s.toks + 1 } → wpAny (model X.prog X.w) X.A (f (.int i t) (.int j u)) Q E s) :
    OpR X f (rI0 fun i j => .int (g i j)) := by
  intro pins s σ H x y v u Q I rx ry h
  obtain ⟨i, j, rfl, rfl, q⟩ := h
  obtain ⟨t, rfl⟩ := rx
  obtain ⟨t', rfl⟩ := ry
  exact rule i j t t' s _ _ ⟨.int (g i j), H, I.tok _, ⟨_, rfl⟩, q⟩
theorem opB0 {f : Value → Value → Sem Value} {g : Int → Int → Bool}
    (rule : ∀ (i j : Int) (t u : Tok) (s : Shared) (Q : Value → Shared → Prop) (E : Value → Shared → Prop), Q (.bool (g i j)) s → wpAny (model X.prog X.w) X.A (f (.int i t) (.int j u)) Q E s) :
    OpR X f (rI0 fun i j => .bl (g i j)) := by
  intro pins s σ H x y v u Q I rx ry h
  obtain ⟨i, j, rfl, rfl, q⟩ := h
  obtain ⟨t, rfl⟩ := rx
  obtain ⟨t', rfl⟩ := ry
  exact rule i j t t' s _ _ ⟨.bl (g i j), H, I, rfl, q⟩
def CPow (i j : Int) : Prop := 0 ≤ j ∧ j ≤ 1000000 ∧ i.natAbs < 2 ^ 64
def CMul (i j : Int) : Prop := (-(2 ^ 64) < i ∧ i < 2 ^ 64) ∨ (-(2 ^ 64) < j ∧ j < 2 ^ 64)
theorem CMul.ok {i j : Int} (h : CMul i j) : IntMulOk i j := by
  rcases h with ⟨h1, h2⟩ | ⟨h1, h2⟩
  · exact .of_left (intBits_le_64 h1 h2)
  · exact .of_right (intBits_le_64 h1 h2)
theorem two_pow_nn (k : Nat) : (0 : Int) ≤ 2 ^ k := by
  rw [two_pow_cast]
  exact Int.natCast_nonneg _
theorem op_add : OpR X (binaryOp .Add) (rI0 fun i j => .int (i + j)) := opI0 fun _ _ _ _ _ _ _ q => add_int q
theorem op_sub : OpR X (binaryOp .Sub) (rI0 fun i j => .int (i - j)) := opI0 fun _ _ _ _ _ _ _ q => sub_int q
theorem op_mul : OpR X (binaryOp .Mult) (rI CMul fun i j => .int (i * j)) := opI fun _ _ _ _ _ _ _ hc q => mul_int q hc.ok
theorem op_mod : OpR X (binaryOp .Mod) (rI (fun _ j => 0 < j) fun i j => .int (i % j)) := opI fun i j _ _ _ _ _ hc q => by
  have h1 : (0 : Int) < j := hc
  exact mod_int' (by omega) (by rw [Int.fmod_eq_emod_of_nonneg i (by omega)]; exact q)
theorem op_pow : OpR X (binaryOp .Pow) (rI CPow fun i j => .int (i ^ j.toNat)) := opI fun _ _ _ _ _ _ _ hc q => pow_int_small hc.1 hc.2.1 hc.2.2 q
theorem op_shr : OpR X (binaryOp .RShift) (rI (fun _ j => 0 ≤ j) fun i j => .int (i / 2 ^ j.toNat)) := opI fun i j _ _ _ _ _ hc q =>
  rshift_int hc (by rw [Int.fdiv_eq_ediv_of_nonneg i (two_pow_nn _)]; exact q)
theorem op_and : OpR X (binaryOp .BitAnd) (rI0 fun i j => .int (Builtin.bitAnd i j)) := opI0 fun _ _ _ _ _ _ _ q => and_int q
theorem unI {f : Value → Sem Value} {g : Int → Int}
    (rule : ∀ (i : Int) (t : Tok) (s : Shared) (Q : Value → Shared → Prop) (E : Value → Shared → Prop), Q (.int (g i) s.toks) { s with toks := s.toks + 1 } → wpAny (model X.prog X.w) X.A (f (.int i t)) Q E s) :
    UnR X f (rU fun i => .int (g i)) := by
  intro pins s σ H x v Q I rx h
  obtain ⟨i, rfl, q⟩ := h
  obtain ⟨t, rfl⟩ := rx
  exact rule i t s _ _ ⟨.int (g i), H, I.tok _, ⟨_, rfl⟩, q⟩
theorem un_neg : UnR X (unaryOp .USub) (rU fun i => .int (-i)) := unI fun _ _ _ _ _ q => neg_int q
end
def scal : V → V → Bool
  | .non, .non => true | .non, .int _ => true | .int _, .non => true | .non, .bl _ => true | .bl _, .non => true | .non, .str _ => true | .str _, .non => true
  | .int _, .int _ => true | .bl _, .bl _ => true | .str _, .str _ => true | .byt _, .byt _ => true
  | .int _, .str _ => true | .str _, .int _ => true | .bl _, .str _ => true | .str _, .bl _ => true
  | _, _ => false
def rEq : R2 := fun x y H Q => scal x y = true ∧ Q (.bl (decide (x = y))) H
def rNe : R2 := fun x y H Q => scal x y = true ∧ Q (.bl (!decide (x = y))) H
theorem dec_int {i j : Int} : decide (V.int i = V.int j) = (i == j) := by
  rw [Bool.eq_iff_iff]
  simp
theorem dec_bl {i j : Bool} : decide (V.bl i = V.bl j) = (i == j) := by
  rw [Bool.eq_iff_iff]
  simp
theorem dec_str {i j : Str} : decide (V.str i = V.str j) = (i == j) := by
  rw [Bool.eq_iff_iff]
  simp
theorem dec_byt {i j : Array UInt8} : decide (V.byt i = V.byt j) = (i.toList == j.toList) := by
  rw [Bool.eq_iff_iff]
  cases i
  cases j
  simp
section
variable {X : Cx} {a b c : Expr} {ta tb tc : TE} {pos : Pos}
theorem fin_bl {pins : List (Addr × Obj)} {σ : St} {H : Hp} {s : Shared} {Q : VK} {k k' : Bool} (I : Inv X pins σ H s) (q : Q (.bl k) H) (e : k = k') : EP X pins σ Q (.bool k') s := by
  subst e
  exact ⟨.bl k, H, I, rfl, q⟩
theorem op_eq : OpR X (compareOp .Eq) rEq := by
  intro pins s σ H x y v u Q I rx ry h
  obtain ⟨hs, q⟩ := h
  cases x with
  | non =>
    cases rx
    cases y with
    | non => cases ry; exact PySem.EqNone.eq_none_none (fin_bl I q (by simp))
    | bl j => cases ry; exact PySem.EqNone.eq_none_bool (fin_bl I q (by simp))
    | int j => obtain ⟨t', rfl⟩ := ry; exact PySem.EqNone.eq_none_int (fin_bl I q (by simp))
    | str j => obtain ⟨t', rfl⟩ := ry; exact PySem.EqNone.eq_none_str (fin_bl I q (by simp))
    | _ => exact absurd (show false = true from hs) Bool.false_ne_true
  | bl i =>
    cases rx
    cases y with
    | non => cases ry; exact PySem.EqNone.eq_bool_none (fin_bl I q (by simp))
    | bl j => cases ry; exact eq_bool (fin_bl I q dec_bl)
    | str j => obtain ⟨t', rfl⟩ := ry; exact PySem.EqMixed.eq_bool_str (fin_bl I q (by simp))
    | _ => exact absurd (show false = true from hs) Bool.false_ne_true
  | int i =>
    obtain ⟨t, rfl⟩ := rx
    cases y with
    | non => cases ry; exact PySem.EqNone.eq_int_none (fin_bl I q (by simp))
    | int j => obtain ⟨t', rfl⟩ := ry; exact eq_int (fin_bl I q dec_int)
    | str j => obtain ⟨t', rfl⟩ := ry; exact PySem.EqMixed.eq_int_str (fin_bl I q (by simp))
    | _ => exact absurd (show false = true from hs) Bool.false_ne_true
  | str i =>
    obtain ⟨t, rfl⟩ := rx
    cases y with
    | non => cases ry; exact PySem.EqNone.eq_str_none (fin_bl I q (by simp))
    | bl j => cases ry; exact PySem.EqMixed.eq_str_bool (fin_bl I q (by simp))
    | int j => obtain ⟨t', rfl⟩ := ry; exact PySem.EqMixed.eq_str_int (fin_bl I q (by simp))
    | str j => obtain ⟨t', rfl⟩ := ry; exact eq_str (fin_bl I q dec_str)
    | _ => exact absurd (show false = true from hs) Bool.false_ne_true
  | byt i =>
    obtain ⟨t, rfl⟩ := rx
    cases y with
    | byt j => obtain ⟨t', rfl⟩ := ry; exact PySem.W.eq_bytes (fin_bl I q dec_byt)
    | _ => exact absurd (show false = true from hs) Bool.false_ne_true
  | _ => cases y <;> exact absurd (show false = true from hs) Bool.false_ne_true
theorem op_ne : OpR X (compareOp .NotEq) rNe := by
  intro pins s σ H x y v u Q I rx ry h
  obtain ⟨hs, q⟩ := h
  cases x with
  | non =>
    cases rx
    cases y with
    | non => cases ry; exact PySem.EqNone.ne_none_none (fin_bl I q (by simp))
    | bl j => cases ry; exact PySem.EqNone.ne_none_bool (fin_bl I q (by simp))
    | int j => obtain ⟨t', rfl⟩ := ry; exact PySem.EqNone.ne_none_int (fin_bl I q (by simp))
    | str j => obtain ⟨t', rfl⟩ := ry; exact PySem.EqNone.ne_none_str (fin_bl I q (by simp))
    | _ => exact absurd (show false = true from hs) Bool.false_ne_true
  | bl i =>
    cases rx
    cases y with
    | non => cases ry; exact PySem.EqNone.ne_bool_none (fin_bl I q (by simp))
    | bl j => cases ry; exact ne_bool (fin_bl I q (congrArg not dec_bl))
    | str j => obtain ⟨t', rfl⟩ := ry; exact PySem.EqMixed.ne_bool_str (fin_bl I q (by simp))
    | _ => exact absurd (show false = true from hs) Bool.false_ne_true
  | int i =>
    obtain ⟨t, rfl⟩ := rx
    cases y with
    | non => cases ry; exact PySem.EqNone.ne_int_none (fin_bl I q (by simp))
    | int j => obtain ⟨t', rfl⟩ := ry; exact ne_int (fin_bl I q (congrArg not dec_int))
    | str j => obtain ⟨t', rfl⟩ := ry; exact PySem.EqMixed.ne_int_str (fin_bl I q (by simp))
    | _ => exact absurd (show false = true from hs) Bool.false_ne_true
  | str i =>
    obtain ⟨t, rfl⟩ := rx
    cases y with
    | non => cases ry; exact PySem.EqNone.ne_str_none (fin_bl I q (by simp))
    | bl j => cases ry; exact PySem.EqMixed.ne_str_bool (fin_bl I q (by simp))
    | int j => obtain ⟨t', rfl⟩ := ry; exact PySem.EqMixed.ne_str_int (fin_bl I q (by simp))
    | str j => obtain ⟨t', rfl⟩ := ry; exact ne_str (fin_bl I q (congrArg not dec_str))
    | _ => exact absurd (show false = true from hs) Bool.false_ne_true
  | byt i =>
    obtain ⟨t, rfl⟩ := rx
    cases y with
    | byt j => obtain ⟨t', rfl⟩ := ry; exact PySem.W.ne_bytes (fin_bl I q (congrArg not dec_byt))
    | _ => exact absurd (show false = true from hs) Bool.false_ne_true
  | _ => cases y <;> exact absurd (show false = true from hs) Bool.false_ne_true
theorem op_lt : OpR X (compareOp .Lt) (rI0 fun i j => .bl (decide (i < j))) := opB0 fun _ _ _ _ _ _ _ q => lt_int q
theorem op_le : OpR X (compareOp .LtE) (rI0 fun i j => .bl (decide (i ≤ j))) := opB0 fun _ _ _ _ _ _ _ q => le_int q
theorem op_gt : OpR X (compareOp .Gt) (rI0 fun i j => .bl (decide (j < i))) := opB0 fun _ _ _ _ _ _ _ q => gt_int q
theorem op_ge : OpR X (compareOp .GtE) (rI0 fun i j => .bl (decide (j ≤ i))) := opB0 fun _ _ _ _ _ _ _ q => ge_int q
theorem op_in_str : OpR X (compareOp .In) (fun x y H Q => ∃ i j, x = .str i ∧ y = .str j ∧ Q (.bl (!(Builtin.Str.occurrences j i 0 j.length 1).isEmpty)) H) := by
  intro pins s σ H x y v u Q I rx ry h
  obtain ⟨i, j, rfl, rfl, q⟩ := h
  obtain ⟨t, rfl⟩ := rx
  obtain ⟨t', rfl⟩ := ry
  exact in_str (fin_bl I q rfl)
theorem op_isN : OpR X (compareOp .Is) (fun x y H Q => y = .non ∧ Q (.bl (decide (x = .non))) H) := by
  intro pins s σ H x y v u Q I rx ry h
  obtain ⟨rfl, q⟩ := h
  cases ry
  refine is_none_gen (fin_bl I q ?_)
  cases x <;> first
    | (cases rx; rfl)
    | (obtain ⟨t, rfl⟩ := rx; rfl)
theorem op_notN : OpR X (compareOp .IsNot) (fun x y H Q => y = .non ∧ Q (.bl (!decide (x = .non))) H) := by
  intro pins s σ H x y v u Q I rx ry h
  obtain ⟨rfl, q⟩ := h
  cases ry
  refine isnot_none_gen (fin_bl I q ?_)
  cases x <;> first
    | (cases rx; rfl)
    | (obtain ⟨t, rfl⟩ := rx; rfl)
theorem op_notin_str : OpR X (compareOp .NotIn) (fun x y H Q => ∃ i j, x = .str i ∧ y = .str j ∧ Q (.bl (!(!(Builtin.Str.occurrences j i 0 j.length 1).isEmpty))) H) := by
  intro pins s σ H x y v u Q I rx ry h
  obtain ⟨i, j, rfl, rfl, q⟩ := h
  obtain ⟨t, rfl⟩ := rx
  obtain ⟨t', rfl⟩ := ry
  exact notIn_str (fin_bl I q rfl)
theorem nomark (b : Expr) {op : CmpOp} (h : op ≠ .In := by decide) (h2 : op ≠ .NotIn := by decide) : behindInMarks op b = false := by
  have e1 : (op == CmpOp.In) = false := by cases op <;> first | rfl | exact absurd rfl h
  have e2 : (op == CmpOp.NotIn) = false := by cases op <;> first | rfl | exact absurd rfl h2
  cases b <;> simp [behindInMarks, e1, e2]
theorem line63 : (sizeLine : Nat) < 2 ^ 63 := by rw [sizeLine_eq]; decide
theorem op_add_str : OpR X (binaryOp .Add) (fun x y H Q => ∃ i j, x = .str i ∧ y = .str j ∧ i.length + j.length ≤ sizeLine ∧ Q (.str (i ++ j)) H) := by
  intro pins s σ H x y v u Q I rx ry h
  obtain ⟨i, j, rfl, rfl, hz, q⟩ := h
  obtain ⟨t, rfl⟩ := rx
  obtain ⟨t', rfl⟩ := ry
  exact add_str (fun t' tk => ⟨.str (i ++ j), H, I.tok _, ⟨_, rfl⟩, q⟩) hz
theorem vals1 {x : V} {us : List Value} (r : Vals [x] us) : ∃ u, us = [u] ∧ RelV x u := by
  cases r with
  | cons r1 r2 => cases r2; exact ⟨_, rfl, r1⟩
theorem vals2 {x y : V} {us : List Value} (r : Vals [x, y] us) : ∃ u w', us = [u, w'] ∧ RelV x u ∧ RelV y w' := by
  cases r with
  | cons r1 r2 =>
    cases r2 with
    | cons r3 r4 => cases r4; exact ⟨_, _, rfl, r1, r3⟩
end
end L2
namespace L2
open PySem PySem.Spec PyProof.Rows
structure ObjM (h : Heap) (x dx C : Addr) (mA : Str → Option Value) : Prop where
  obj : h.get? x = some (PySem.W.instObj C dx)
  ns : h.Ns1 dx mA
  ne : dx ≠ x
theorem lookIn_ns {h : Heap} {dx : Addr} {mA : Str → Option Value} (n : h.Ns1 dx mA) : ∃ od, h.get? dx = some od ∧ ∀ name, PySem.W.lookIn name od = some (mA name) := by
  obtain ⟨o, es, ep, ho, hd, hk, _, hm⟩ := n
  refine ⟨o, ho, fun name => ?_⟩
  have e := hm name
  unfold nsFind findBy at e
  rw [← Array.find?_toList] at e
  unfold PySem.W.lookIn
  rw [hd]
  dsimp only
  split
  · rename_i y q
    rw [q] at e
    exact congrArg some e
  · rename_i q
    rw [q] at e
    have a : es.toList.any (·.refKey) = false := by
      rw [List.any_eq_false]
      intro y hy
      obtain ⟨z, t, hkey⟩ := hk y (Array.mem_toList_iff.mp hy)
      simp [DictEntry.refKey, hkey]
    have a' : ¬ es.toList.any (·.refKey) = true := by rw [a]; exact Bool.false_ne_true
    rw [if_neg a']
    exact congrArg some e
theorem ObjM.look {h : Heap} {x dx C : Addr} {mA : Str → Option Value} (I : ObjM h x dx C mA) : ∃ od, PySem.W.InstAt h x (PySem.W.instObj C dx) C (some od) ∧ ∀ name, PySem.W.lookIn name od = some (mA name) :=
  let ⟨od, ho, hl⟩ := lookIn_ns I.ns
  ⟨od, ⟨I.obj, rfl, rfl, ho⟩, hl⟩
section
variable {prog : Program} {w : World} {A : Around} {E : Value → Shared → Prop} {s : Shared} {K : PySem.W.Frag} {x dx C f : Addr} {mA : Str → Option Value} {name : Str} {v : Value}
theorem get_map {expr : Bool} {Q : Value → Shared → Prop} (X : K.In s.heap) (I : ObjM s.heap x dx C mA) (hg : PySem.W.plainGet K C name = true) (hh : PySem.W.hasDictIn K C = true)
    (ha : PySem.W.findIn K (.ref C) name = some none) (hv : mA name = some v) (hv' : PySem.W.handedIn v = true) (h : Q v { s with toks := s.toks + 1 }) :
    wpAny (model prog w) A (getAttr (.ref x) name expr) Q E s := by
  obtain ⟨od, J, hl⟩ := I.look
  exact PySem.W.get_value X J (PySem.W.plainGet_of hg).1 (PySem.W.findObj_own hh ha rfl (by rw [hl, hv])) hv' h
theorem set_map {ns : List Str} {Q : Unit → Shared → Prop} (X : K.In s.heap) (I : ObjM s.heap x dx C mA)
    (hs : PySem.W.findIn K (.ref C) "__setattr__" = some (some (.builtin "object.__setattr__"))) (hp : PySem.W.plainOver K C = true) (ht : PySem.W.takerIn K C name = some none) (hh : PySem.W.hasDictIn K C = true)
    (hw : PySem.Within mA ns) (hsz : ns.length ≤ sizeLine)
    (h : ∀ h', ObjM h' x dx C (fun y => if y = name then some v else mA y) → Heap.SameBut dx s.heap h' → Q () { s with heap := h', toks := s.toks + 2 }) :
    wpAny (model prog w) A (setAttr (.ref x) name v) Q E s := by
  obtain ⟨od, J, hl⟩ := I.look
  refine PySem.W.set_plain X J hs (PySem.W.osa_open (s := { s with toks := s.toks + 1 }) (r := none) X J hp ht fun b => ?_)
  obtain ⟨cd, hc, hd'⟩ := PySem.W.any_some hh
  have hx : s.heap.get? x = some ⟨.ref C, some dx, .plain, #[]⟩ := I.obj
  refine wpAny_bind (wpAny_pure (wpAny_bind (wpAny_bind (wpAny_loadPart hx (wpAny_bind (PySem.W.Looks.here (s := { s with toks := s.toks + 1 }) (PySem.W.looks_clsIn X hc) ?_))))))
  rw [hd']
  refine wpAny_pure (a := some dx) (wpAny_bind (wpAny_pure (wpAny_bind ?_)))
  refine wpAny_nsSet1 (s := { s with toks := s.toks + 1 }) I.ns fun h' hn2 hs2 => ?_
  obtain ⟨oD, esD, epD, hoD, hdD, hcD⟩ := hn2.count (PySem.Within.cons name v hw)
  refine wpAny_bind (wpAny_lookBehind hoD (by rw [hdD]; exact pastItsLine_dict (Nat.le_trans hcD (by rw [List.length_cons]; omega))) ?_)
  exact wpAny_pure (h _ ⟨(hs2.2 _ (Ne.symm I.ne)).trans I.obj, hn2, I.ne⟩ hs2)
theorem make_map {R : Result → Shared → Prop} {vs : List Value} {kw : List (Str × Value)} (X : K.In s.heap) (hm : PySem.W.makesIn K C = true)
    (hi : PySem.W.findIn K (.ref C) "__init__" = some (some (.ref f))) (hf : PySem.W.typeIn K (.ref f) = some (.type "function"))
    (h : codeAny (model prog w) (A.under (.builtin "type.__call__" ⟨.ref C :: vs, kw⟩)) (.call (.ref f) ⟨.ref (s.heap.objs.size + 1) :: vs, kw⟩) (PySem.W.InitBack (s.heap.objs.size + 1) R)
      { s with heap := (s.heap.push PySem.W.emptyDict).push (PySem.W.instObj C s.heap.objs.size) }) :
    codeAny (model prog w) A (.call (.ref C) ⟨vs, kw⟩) R s := by
  obtain ⟨hh, g, d, t, os⟩ := s
  exact PySem.W.make_core (PySem.W.makes_of X hm) (PySem.W.looks_findIn X hi) (fun self => PySem.W.bind_fn X self hf) (.inl rfl) h
end
def putF (f : Str) (v : V) : List (Str × V) → List (Str × V)
  | [] => [(f, v)]
  | (g, x) :: r => if g = f then (g, v) :: r else (g, x) :: putF f v r
theorem lookup_putF (f g : Str) (v : V) : ∀ fs : List (Str × V), (putF f v fs).lookup g = if g = f then some v else fs.lookup g
  | [] => by
    show List.lookup g [(f, v)] = _
    by_cases h : g = f
    · have hb : (g == f) = true := beq_iff_eq.mpr h
      simp only [List.lookup, hb, if_pos h]
    · have hb : (g == f) = false := beq_eq_false_iff_ne.mpr h
      simp only [List.lookup, hb, if_neg h]
  | (k, x) :: r => by
    have ih := lookup_putF f g v r
    rw [show putF f v ((k, x) :: r) = (if k = f then (k, v) :: r else (k, x) :: putF f v r) from rfl]
    by_cases hk : k = f
    · rw [if_pos hk]
      by_cases h : g = k
      · have hb : (g == k) = true := beq_iff_eq.mpr h
        simp only [List.lookup, hb, if_pos (h.trans hk)]
      · have hb : (g == k) = false := beq_eq_false_iff_ne.mpr h
        simp only [List.lookup, hb, if_neg (fun e : g = f => h (e.trans hk.symm))]
    · rw [if_neg hk]
      by_cases h : g = k
      · have hb : (g == k) = true := beq_iff_eq.mpr h
        simp only [List.lookup, hb, if_neg (fun e : g = f => hk (h.symm.trans e))]
      · have hb : (g == k) = false := beq_eq_false_iff_ne.mpr h
        simp only [List.lookup, hb]
        exact ih
theorem keys_putF (f : Str) (v : V) : ∀ fs : List (Str × V), f ∈ (putF f v fs).map (·.1) ∧ ∀ g, g ∈ fs.map (·.1) → g ∈ (putF f v fs).map (·.1)
  | [] => ⟨by simp [putF], fun g h => by simp at h⟩
  | (k, x) :: r => by
    obtain ⟨i1, i2⟩ := keys_putF f v r
    rw [show putF f v ((k, x) :: r) = (if k = f then (k, v) :: r else (k, x) :: putF f v r) from rfl]
    by_cases hk : k = f
    · rw [if_pos hk]
      subst hk
      exact ⟨by simp, fun g h => by simpa using h⟩
    · rw [if_neg hk]
      refine ⟨?_, fun g h => ?_⟩
      · rw [List.map_cons]
        exact List.mem_cons_of_mem _ i1
      · rw [List.map_cons] at h ⊢
        rcases List.mem_cons.mp h with e | e
        · exact List.mem_cons.mpr (.inl e)
        · exact List.mem_cons_of_mem _ (i2 g e)
theorem length_putF (f : Str) (v : V) : ∀ fs : List (Str × V), (putF f v fs).length ≤ fs.length + 1
  | [] => by simp [putF]
  | (k, x) :: r => by
    have ih := length_putF f v r
    rw [show putF f v ((k, x) :: r) = (if k = f then (k, v) :: r else (k, x) :: putF f v r) from rfl]
    by_cases hk : k = f
    · rw [if_pos hk, List.length_cons, List.length_cons]; omega
    · rw [if_neg hk, List.length_cons, List.length_cons]; omega
theorem RelO.some_of {v : V} {o : Option Value} (r : RelO (some v) o) : ∃ u, o = some u ∧ RelV v u := by
  cases o with
  | none => exact (show False from r).elim
  | some u => exact ⟨u, rfl, r⟩
theorem handed_of {v : V} {u : Value} (r : RelV v u) : PySem.W.handedIn u = true := by
  cases v with
  | non => cases (show u = Value.none from r); rfl
  | bl b => cases (show u = Value.bool b from r); rfl
  | int i => obtain ⟨t, e⟩ := (show ∃ t, u = Value.int i t from r); cases e; rfl
  | str x => obtain ⟨t, e⟩ := (show ∃ t, u = Value.str x t from r); cases e; rfl
  | byt b => obtain ⟨t, e⟩ := (show ∃ t, u = Value.bytes b t from r); cases e; rfl
  | flt b => obtain ⟨t, e⟩ := (show ∃ t, u = Value.float b t from r); cases e; rfl
  | ref a => cases (show u = Value.ref a from r); rfl
  | ty n => cases (show u = Value.type n from r); rfl
section
variable {P : Program} {w : World} {H H' : Hp} {h h' : Heap} {a C dx : Addr} {fs fs' : List (Str × V)}
theorem ins_get (hok : HOk P w H h) (e : H a = some (.ins C dx fs)) : ∃ mA, ObjM h a dx C mA ∧ (∀ f, RelO (fs.lookup f) (mA f)) ∧ PySem.Within mA (fs.map (·.1)) ∧ fs.length ≤ 1000 ∧ H dx = some (.own a) := by
  obtain ⟨d, z, ne, ob, mA, n, r, q⟩ := (show ObjOk P w H h a (.ins C dx fs) from hok a _ e)
  exact ⟨mA, ⟨ob, n, ne⟩, r, q, z, d⟩
end
structure Cls (K : PySem.W.Frag) (C : Addr) : Prop where
  pg : PySem.W.plainGet K C Str.empty = true
  hd : PySem.W.hasDictIn K C = true
  po : PySem.W.plainOver K C = true
  sa : PySem.W.findIn K (.ref C) "__setattr__" = some (some (.builtin "object.__setattr__"))
theorem Cls.get {K : PySem.W.Frag} {C : Addr} (c : Cls K C) (f : Str) : PySem.W.plainGet K C f = true := c.pg
def NoAttr (K : PySem.W.Frag) (C : Addr) (f : Str) : Prop := PySem.W.findIn K (.ref C) f = some none
theorem NoAttr.taker {K : PySem.W.Frag} {C : Addr} {f : Str} (n : NoAttr K C f) : PySem.W.takerIn K C f = some none := by
  unfold PySem.W.takerIn
  rw [show PySem.W.findIn K (.ref C) f = some none from n]
  rfl
structure Meth (K : PySem.W.Frag) (C : Addr) (m : Str) (f : Addr) : Prop where
  at_ : PySem.W.findIn K (.ref C) m = some (some (.ref f))
  fn : PySem.W.isFn K (.ref f) = true
  kp : PySem.W.keepIn K (.ref f) = true
section
variable {X : Cx} {pins : List (Addr × Obj)} {σ : St} {H : Hp} {s : Shared} {a C dx : Addr} {fs : List (Str × V)} {f : Str} {v : V} {A : Around} {E : Value → Shared → Prop}
theorem getattr_ok {b : Bool} {Q : Value → Shared → Prop} (I : Inv X pins σ H s) (e : H a = some (.ins C dx fs)) (c : Cls X.K C) (n : NoAttr X.K C f) (l : fs.lookup f = some v)
    (h : ∀ u s', Inv X pins σ H s' → RelV v u → Q u s') : wpAny (model X.prog X.w) A (getAttr (.ref a) f b) Q E s := by
  obtain ⟨mA, O, r, _, _, _⟩ := ins_get I.hok e
  obtain ⟨u, hu, ru⟩ := RelO.some_of (v := v) (o := mA f) (by rw [← l]; exact r f)
  exact get_map I.kIn O (c.get f) c.hd n hu (handed_of ru) (h u _ (I.tok _) ru)
theorem setattr_ok {y : V} {u : Value} {Q : Unit → Shared → Prop} (I : Inv X pins σ H s) (e : H a = some (.ins C dx fs)) (c : Cls X.K C) (n : NoAttr X.K C f) (hl : fs.length < 1000) (ry : RelV y u)
    (h : ∀ s', Inv X pins σ (upd H a (.ins C dx (putF f y fs))) s' → Q () s') : wpAny (model X.prog X.w) A (setAttr (.ref a) f u) Q E s := by
  obtain ⟨mA, O, r, wi, _, ho⟩ := ins_get I.hok e
  have hz : (fs.map (·.1)).length ≤ sizeLine := by rw [List.length_map, sizeLine_eq]; omega
  refine set_map I.kIn O c.sa c.po n.taker c.hd wi hz fun h' O' sb => h _ ?_
  have hd : ∃ o, h'.get? dx = some o := let ⟨o, _, _, e', _⟩ := O'.ns; ⟨o, e'⟩
  refine I.write (x := a) (e := dx) (by rw [e]; exact True.intro) (.inr ho) (fun b q hb z => (sb.2 b hb).trans z) hd ?_
  refine ⟨by rw [upd_ne O.ne]; exact ho, ?_, O.ne, O'.obj, _, O'.ns, fun g => ?_, fun g hg => ?_⟩
  · have := length_putF f y fs; omega
  · show RelO ((putF f y fs).lookup g) (if g = f then some u else mA g)
    rw [lookup_putF]
    by_cases q : g = f
    · rw [if_pos q, if_pos q]; exact ry
    · rw [if_neg q, if_neg q]; exact r g
  · by_cases q : g = f
    · rw [q]; exact (keys_putF f y fs).1
    · refine (keys_putF f y fs).2 g (wi g fun z => hg ?_)
      show (if g = f then some u else mA g) = none
      rw [if_neg q]; exact z
theorem Inv.made (I : Inv X pins σ H s) : Inv X pins σ (upd (upd H s.heap.objs.size (.own (s.heap.objs.size + 1))) (s.heap.objs.size + 1) (.ins C s.heap.objs.size []))
    { s with heap := (s.heap.push PySem.W.emptyDict).push (PySem.W.instObj C s.heap.objs.size) } := by
  have e1 : (s.heap.push PySem.W.emptyDict).get? s.heap.objs.size = some PySem.W.emptyDict := Heap.get?_push_size s.heap rfl
  have e2 : ((s.heap.push PySem.W.emptyDict).push (PySem.W.instObj C s.heap.objs.size)).get? (s.heap.objs.size + 1) = some (PySem.W.instObj C s.heap.objs.size) := by
    have := Heap.get?_push_size (s.heap.push PySem.W.emptyDict) (o := PySem.W.instObj C s.heap.objs.size) rfl
    rwa [Heap.size_push] at this
  have e3 : (s.heap.push PySem.W.emptyDict).Ns s.heap.objs.size (fun _ => none) := ⟨PySem.W.emptyDict, #[], _, e1, rfl, (fun e he => absurd he (by simp)), fun _ => rfl⟩
  have I1 := I.laid (a := s.heap.objs.size) (o := .own (s.heap.objs.size + 1)) (h' := s.heap.push PySem.W.emptyDict) (t' := s.toks) (fun b u q => Heap.get?_push_of_some _ q) (Nat.le_refl _) ⟨_, e1⟩
  refine I1.laid (a := s.heap.objs.size + 1) (o := .ins C s.heap.objs.size []) (t' := s.toks) (fun b u q => Heap.get?_push_of_some _ q) (Nat.le_of_eq (Heap.size_push _ _)) ?_
  have ne : s.heap.objs.size ≠ s.heap.objs.size + 1 := Nat.ne_of_lt (Nat.lt_succ_self _)
  refine ⟨by rw [upd_ne ne, upd_same], Nat.zero_le _, ne, e2, fun _ => none, (Heap.Ns1.of_empty e3).at fun o q => Heap.get?_push_of_some _ q, fun _ => True.intro, fun y hy => absurd rfl hy⟩
theorem attr_of {prog : Program} {w : World} {env : Env} {e : Expr} {f : Str} {pos : Pos} {s : Shared} {Q : Value → Shared → Prop} (hb : attributeBase e f env (eval e env) = eval e env)
    (h : wpAny (model prog w) A (eval e env) (fun o s₁ => wpAny (model prog w) A (getAttr o f true) Q E s₁) E s) : wpAny (model prog w) A (eval (.Attribute e f pos) env) Q E s :=
  Attribute_any_ h (by rw [arm_eval_Attribute, hb])
end
def tFld (K : PySem.W.Frag) (ta : TE) (f : Str) : TE := fun σ H Q => ta σ H fun x H1 => ∃ a C dx fs v, x = .ref a ∧ H1 a = some (.ins C dx fs) ∧ Cls K C ∧ NoAttr K C f ∧ fs.lookup f = some v ∧ Q v H1
def sFld (K : PySem.W.Frag) (ta tv : TE) (f : Str) : TS := fun D σ H => tv σ H fun y H1 => ta σ H1 fun x H2 => ∃ a C dx fs, x = .ref a ∧ H2 a = some (.ins C dx fs) ∧ Cls K C ∧ NoAttr K C f ∧ fs.length < 1000 ∧
  D.nx σ (upd H2 a (.ins C dx (putF f y fs)))
section
variable {X : Cx} {o e value : Expr} {f : Str} {pos pos' tpos : Pos} {ta tv : TE}
theorem pe_fld (he : PE X e ta) (hb : attributeBase e f X.env (eval e X.env) = eval e X.env) : PE X (.Attribute e f pos) (tFld X.K ta f) := by
  intro pins s σ H Q I h
  refine attr_of hb (thn (he pins s σ H _ I h) fun u s1 ⟨x, H1, I1, rx, a, C, dx, fs, v, ex, ea, c, n, l, q⟩ => ?_)
  subst ex
  obtain rfl : u = Value.ref a := rx
  exact getattr_ok I1 ea c n l fun u' s2 I2 ru => ⟨v, H1, I2, ru, q⟩
theorem ps_fld (ha : PE X o ta) (hv : PE X value tv) (hs : swapsWith value (some (.Attribute o f pos')) pos.line X.env = pure false) : PS X (.Assign [.Attribute o f pos'] value pos) (sFld X.K ta tv f) := by
  intro pins s σ H D I h
  refine plainObj_wpAny_Assign_Attribute (thn (hv pins s σ H _ I h) fun u s1 ⟨y, H1, I1, ry, q⟩ => thn (ha pins s1 σ H1 _ I1 q) fun ov s2 ⟨x, H2, I2, rx, a, C, dx, fs, ex, ea, c, n, l, q2⟩ => ?_) hs
  subst ex
  obtain rfl : ov = Value.ref a := rx
  exact setattr_ok I2 ea c n l ry fun s3 I3 => ⟨σ, _, I3, q2⟩
def rSub : V → V → Hp → VK → Prop := fun x y H Q => ∃ i j, x = .int i ∧ y = .int j ∧ Q (.int (i - j)) H
end
section
variable {X : Cx} {pins : List (Addr × Obj)} {σ : St} {H : Hp} {s : Shared} {A : Around} {E : Value → Shared → Prop} {Q : Value → Shared → Prop} {c : Value} {b : Bool}
end
end L2
namespace L2
open PySem PySem.Spec PyProof.Rows
structure Room (k : Nat) (A : Around) : Prop where
  hd : A.handled = none
  dp : A.depth + 3 * k + 5 < recursionLimit
  un : A.units + 16 * k + 200 < cLine
theorem Room.mono {j k : Nat} {A : Around} (r : Room k A) (h : j ≤ k) : Room j A := ⟨r.hd, by have := r.dp; omega, by have := r.un; omega⟩
theorem Room.deeper {k : Nat} {A : Around} (r : Room (k + 1) A) (env : Env) : Room k (A.deeper env) :=
  ⟨r.hd, by have := r.dp; show A.depth + 1 + 3 * k + 5 < _; omega, by have := r.un; show A.units + 3 + 16 * k + 200 < _; omega⟩
theorem make_depth {A : Around} {C : Addr} {us : List Value} {kw : List (Str × Value)} : (A.under (.builtin "type.__call__" ⟨.ref C :: us, kw⟩)).depth = A.depth + 1 := by
  first | rfl | simp [Around.under, Code.weight, Code.isCreation, Code.isGuard, Code.isCaller, Code.frames, Code.isFrame, guardIds]
theorem make_units {A : Around} {C : Addr} {us : List Value} {kw : List (Str × Value)} : (A.under (.builtin "type.__call__" ⟨.ref C :: us, kw⟩)).units = A.units + 1 := by
  first | rfl | simp [Around.under, Code.cUnits, Code.frames, Code.isFrame]
theorem Room.make {k : Nat} {A : Around} (r : Room (k + 1) A) (C : Addr) (us : List Value) (kw : List (Str × Value)) : Room k (A.under (.builtin "type.__call__" ⟨.ref C :: us, kw⟩)) :=
  ⟨r.hd, by have := r.dp; rw [make_depth]; omega, by have := r.un; rw [make_units]; omega⟩
theorem Room.depth {k : Nat} {A : Around} (r : Room k A) : A.depth < recursionLimit := by have := r.dp; omega
def tNil : TA := fun _ H Q => Q [] H
def tCons (ta : TE) (tr : TA) : TA := fun σ H Q => ta σ H fun x H1 => tr σ H1 fun xs H2 => Q (x :: xs) H2
section
variable {X : Cx} {e : Expr} {es : List Expr} {te : TE} {t : TA} {pos : Pos}
theorem pa_nil : PA X [] tNil := fun _ _ _ _ H Q I h => Calls.spliced_nil ⟨[], H, I, .nil, h⟩
theorem pa_cons (ha : PE X e te) (hr : PA X es t) (hs : starEach (e :: es) X.env = (false, eval e X.env) :: starEach es X.env := by rfl) : PA X (e :: es) (tCons te t) := by
  intro pos pins s σ H Q I h
  rw [hs]
  show wpAny _ _ (spliced ((false, eval e X.env) :: backTo pos (starEach es X.env))) _ _ s
  refine Calls.spliced_cons (thn (ha pins s σ H _ I h) fun u s1 ⟨x, H1, I1, r1, q1⟩ => ?_)
  exact thn (hr pos pins s1 σ H1 _ I1 q1) fun us s2 ⟨xs, H2, I2, r2, q2⟩ => ⟨x :: xs, H2, I2, .cons r1 r2, q2⟩
def tTup (t : TA) : TE := fun σ H Q => t σ H fun xs H1 => xs.length ≤ sizeLine ∧ ∀ p, H1 p = none → Q (.ref p) (upd H1 p (.tup xs))
def tLst (t : TA) : TE := fun σ H Q => t σ H fun xs H1 => xs.length ≤ sizeLine ∧ ∀ p, H1 p = none → Q (.ref p) (upd H1 p (.lst xs))
theorem pe_tup {x1} (h : PA X es t) : PE X (.Tuple es x1 pos) (tTup t) := by
  intro pins s σ H Q I hq
  refine wpAny_Tuple_spliced (thn (h pos pins s σ H _ I hq) fun us s1 ⟨xs, H1, I1, r, z, q⟩ => ⟨by rw [← r.length]; exact z, ?_⟩)
  have hf : H1 s1.heap.objs.size = none := I1.hok.fresh (Nat.le_refl _)
  refine ⟨.ref s1.heap.objs.size, upd H1 s1.heap.objs.size (.tup xs), I1.laid (t' := s1.toks) (fun b u e => Heap.get?_push_of_some _ e) (Nat.le_refl _) ?_, rfl, q _ hf⟩
  exact ⟨z, us, r, ⟨_, Heap.get?_push_size _ rfl, rfl, _, rfl⟩⟩
theorem pe_lst (h : PA X es t) : PE X (.List es pos) (tLst t) := by
  intro pins s σ H Q I hq
  refine wpAny_List_spliced (thn (h pos pins s σ H _ I hq) fun us s1 ⟨xs, H1, I1, r, z, q⟩ => ⟨by rw [← r.length]; exact z, ?_⟩)
  have hf : H1 s1.heap.objs.size = none := I1.hok.fresh (Nat.le_refl _)
  refine ⟨.ref s1.heap.objs.size, upd H1 s1.heap.objs.size (.lst xs), I1.laid (t' := s1.toks) (fun b u e => Heap.get?_push_of_some _ e) (Nat.le_refl _) ?_, rfl, q _ hf⟩
  exact ⟨z, us, 0, r, Heap.get?_push_size _ rfl⟩
end
abbrev Sp := List V → Hp → VK → XK → Prop
abbrev CXT := List Env → Hp → Shared → XK → Value → Shared → Prop
structure Env0 (P : Program) (w : World) (K : PySem.W.Frag) (mg : Str → Option Value) (base : Heap) (A : Around) (outer : List Env) (s : Shared) (H : Hp) : Prop where
  frames : A.frames = some outer
  mod : Mod K mg base
  bs : ∀ b o, base.get? b = some o → s.heap.get? b = some o ∧ H b = none
  bsz : base.objs.size ≤ s.heap.objs.size
  funs : s.heap.FunFrames base outer
  frf : ∀ b ∈ frs outer, H b = none
  hok : HOk P w H s.heap
  bare : AllBare s.gens
def CE (outer : List Env) (P : Program) (w : World) (H : Hp) (s : Shared) (Q : VK) (u : Value) (s' : Shared) : Prop :=
  ∃ v H', s'.os = s.os ∧ AllBare s'.gens ∧ Un (frs outer) [] H H' s.heap s'.heap ∧ HOk P w H' s'.heap ∧ RelV v u ∧ Q v H'
def CR (CX : CXT) (outer : List Env) (P : Program) (w : World) (H : Hp) (s : Shared) (Q : VK) (E : XK) (r : Result) (s' : Shared) : Prop :=
  match r with
  | .ok (.ret u) => CE outer P w H s Q u s'
  | .ok _ => False
  | .error e => CX outer H s E e s'
structure FnOk (P : Program) (w : World) (K : PySem.W.Frag) (mg : Str → Option Value) (base : Heap) (CX : CXT) (k : Nat) (f : Addr) (fd : FuncData) (ps : List Str) (sp : Sp) : Prop where
  len : ∀ vs H Q E, sp vs H Q E → vs.length = ps.length
  run : ∀ (A : Around) (outer : List Env) (s : Shared) (H : Hp) (args : Args) (us : List Value) (vs : List V) (Q : VK) (E : XK), Room k A → Env0 P w K mg base A outer s H → BindsTo s fd args (ps.zip us) → Vals vs us → sp vs H Q E →
    codeAny (model P w) A (.call (.ref f) args) (CR CX outer P w H s Q E) s
theorem FnOk.imp {P : Program} {w : World} {K : PySem.W.Frag} {mg : Str → Option Value} {base : Heap} {CX : CXT} {k : Nat} {f : Addr} {fd : FuncData} {ps : List Str} {sp sp' : Sp} (F : FnOk P w K mg base CX k f fd ps sp)
    (h : ∀ vs H Q E, sp' vs H Q E → sp vs H Q E) : FnOk P w K mg base CX k f fd ps sp' :=
  ⟨fun vs H Q E q => F.len vs H Q E (h _ _ _ _ q), fun A outer s H args us vs Q E hr he hb hv hs => F.run A outer s H args us vs Q E hr he hb hv (h _ _ _ _ hs)⟩
theorem Env0.make {P : Program} {w : World} {K : PySem.W.Frag} {mg : Str → Option Value} {base : Heap} {A : Around} {outer : List Env} {s : Shared} {H : Hp} (e : Env0 P w K mg base A outer s H) (C : Addr) (us : List Value) (kw : List (Str × Value)) :
    Env0 P w K mg base (A.under (.builtin "type.__call__" ⟨.ref C :: us, kw⟩)) outer s H := ⟨by first | exact e.frames | (simpa [Around.under, Code.envs, Code.isFrame, pushEnvs] using e.frames), e.mod, e.bs, e.bsz, e.funs, e.frf, e.hok, e.bare⟩
section
variable {X : Cx} {pins : List (Addr × Obj)} {σ : St} {H : Hp} {s s' : Shared}
theorem Inv.env0 (I : Inv X pins σ H s) : Env0 X.prog X.w X.K X.mg X.base X.A X.stack s H :=
  ⟨I.ok.frames, I.ok.mod, I.bs, Nat.le_trans I.ok.bsz I.sz, I.stack, I.stkFree, I.hok, I.bare⟩
theorem Inv.after {Q : VK} {u : Value} (I : Inv X pins σ H s) (h : CE X.stack X.prog X.w H s Q u s') : EP X pins σ Q u s' := by
  obtain ⟨v, H', os, bare, un, hok, r, q⟩ := h
  obtain ⟨hh, g, d, t, os'⟩ := s'
  obtain rfl : os' = s.os := os
  exact ⟨v, H', I.call (h' := hh) (g' := g) (d' := d) (t' := t) (ch := []) un hok bare (fun b z => absurd z (by simp)), r, q⟩
end
def Binds (K : PySem.W.Frag) (fd : FuncData) (ps : List Str) (ds : List Value) : Prop :=
  ∀ (s : Shared) (us : List Value), K.In s.heap → (us ++ ds).length = ps.length → BindsTo s fd ⟨us, []⟩ (ps.zip (us ++ ds))
theorem Binds.all {K : PySem.W.Frag} {fd : FuncData} {ps : List Str} (h : ∀ us : List Value, us.length = ps.length → bindArgs fd ⟨us, []⟩ = pure (ps.zip us)) : Binds K fd ps [] := fun s us _ hl => by
  rw [List.append_nil] at hl ⊢
  exact .of_eq (h us hl)
section
variable {X : Cx} {CX : CXT} {k : Nat} {f C : Addr} {fd : FuncData} {ps : List Str} {sp : Sp} {dvs : List V} {ds : List Value} {E : XK} {x m : Str} {p pos apos : Pos} {e o : Expr} {es : List Expr} {ta : TE} {t : TA}
structure Mk (K : PySem.W.Frag) (C f : Addr) : Prop where
  makes : PySem.W.makesIn K C = true
  init : PySem.W.findIn K (.ref C) "__init__" = some (some (.ref f))
  fn : PySem.W.isFn K (.ref f) = true
  kp : PySem.W.keepIn K (.ref C) = true
end
section
variable {X : Cx} {CX : CXT} {k : Nat} {f C : Addr} {fd : FuncData} {ps ks : List Str} {sp : Sp} {E : XK} {x m : Str} {p pos apos kpos : Pos} {e o : Expr} {es : List Expr} {kws : List Keyword} {te ta : TE} {t tk : TA} {nm : Option Str}
variable {g : List Value → List Value → List Value} {gV : List V → List V → List V}
end
structure FnScope (N P : List Str) (sc : Scope) : Prop where
  kind : sc.kind = .function
  co : sc.isCoroutine = false
  gen : sc.isGenerator = false
  nd : N.Nodup
  pre : N.take P.length = P
  par : ∀ x ∈ P, sc.names.lookup x = some .local ∨ sc.names.lookup x = some .cell
  nofree : ∀ y ∈ sc.names, y.2 ≠ .free
theorem bindL_out {kindOf : Str → Option NameKind} {x : Str} : ∀ {binds : List (Str × Value)} {m : Str → Option Value}, (∀ v, (x, v) ∉ binds) → bindL kindOf binds m x = m x
  | [], _, _ => rfl
  | (n, v) :: r, m, h => by
    unfold bindL
    rw [bindL_out fun w hw => h w (List.mem_cons_of_mem _ hw)]
    split
    · have : x ≠ n := by rintro rfl; exact h v List.mem_cons_self
      simp [this]
    · rfl
theorem bindC_out {kindOf : Str → Option NameKind} {x : Str} : ∀ {binds : List (Str × Value)} {m : Str → Option Value}, (∀ v, (x, v) ∉ binds) → bindC kindOf binds m x = m x
  | [], _, _ => rfl
  | (n, v) :: r, m, h => by
    unfold bindC
    rw [bindC_out fun w hw => h w (List.mem_cons_of_mem _ hw)]
    split
    · rfl
    · have : x ≠ n := by rintro rfl; exact h v List.mem_cons_self
      simp [this]
theorem bindL_get {kindOf : Str → Option NameKind} {x : Str} {v : Value} : ∀ {P : List Str} {vs : List Value} {i : Nat} {m : Str → Option Value}, P.Nodup → P[i]? = some x → vs[i]? = some v → kindOf x = some .local →
    bindL kindOf (P.zip vs) m x = some v
  | [], _, _, _, _, h, _, _ => by simp at h
  | _ :: _, [], _, _, _, _, h, _ => by simp at h
  | p :: P, w :: vs, 0, m, nd, h1, h2, hk => by
    simp at h1 h2; subst h1; subst h2
    show bindL kindOf ((p, w) :: P.zip vs) m p = _
    unfold bindL
    rw [bindL_out fun v hv => (List.nodup_cons.mp nd).1 (List.of_mem_zip hv).1, if_pos hk]
    simp
  | p :: P, w :: vs, i + 1, m, nd, h1, h2, hk => by
    show bindL kindOf ((p, w) :: P.zip vs) m x = _
    unfold bindL
    exact bindL_get (i := i) (List.nodup_cons.mp nd).2 (by simpa using h1) (by simpa using h2) hk
theorem bindC_get {kindOf : Str → Option NameKind} {x : Str} {v : Value} : ∀ {P : List Str} {vs : List Value} {i : Nat} {m : Str → Option Value}, P.Nodup → P[i]? = some x → vs[i]? = some v → kindOf x ≠ some .local →
    bindC kindOf (P.zip vs) m x = some v
  | [], _, _, _, _, h, _, _ => by simp at h
  | _ :: _, [], _, _, _, _, h, _ => by simp at h
  | p :: P, w :: vs, 0, m, nd, h1, h2, hk => by
    simp at h1 h2; subst h1; subst h2
    show bindC kindOf ((p, w) :: P.zip vs) m p = _
    unfold bindC
    rw [bindC_out fun v hv => (List.nodup_cons.mp nd).1 (List.of_mem_zip hv).1, if_neg hk]
    simp
  | p :: P, w :: vs, i + 1, m, nd, h1, h2, hk => by
    show bindC kindOf ((p, w) :: P.zip vs) m x = _
    unfold bindC
    exact bindC_get (i := i) (List.nodup_cons.mp nd).2 (by simpa using h1) (by simpa using h2) hk
def start (N : List Str) (vs : List V) : St := vs.map some ++ List.replicate (N.length - vs.length) none
def cxOf (CX : CXT) (P : Program) (w : World) (K : PySem.W.Frag) (mg : Str → Option Value) (base : Heap) (N : List Str) (qual : Str) (scope : Scope) (f : Addr) (cd : Value) (A : Around) (outer : List Env) (s : Shared) (H : Hp) (E : XK) : Cx where
  prog := P
  w := w
  K := K
  mg := mg
  base := base
  A := A.deeper (envOfC qual scope s.heap.objs.size f cd)
  N := N
  s₀ := s
  H₀ := H
  env := envOfC qual scope s.heap.objs.size f cd
  outer := outer
  stack := envOfC qual scope s.heap.objs.size f cd :: outer
  ex := []
  calm := true
  fn := fun _ => true
  pn := []
  xe := fun e s' => wpAny (model P w) (A.deeper (envOfC qual scope s.heap.objs.size f cd)) (leaving (envOfC qual scope s.heap.objs.size f cd) e) (fun _ s'' => CX outer H s E e s'') (fun e' s'' => CX outer H s E e' s'') s'
theorem cell_has {sc : Scope} {n : Nat} {x : Str} (h : sc.names.lookup x = some .cell) : ∃ c, (cellsFrom n sc.names []).lookup x = some c := by
  have q := PySem.W.cellsFrom_some sc.names n [] (.inl h)
  exact Option.isSome_iff_exists.mp q
theorem inv_start {CX : CXT} {P : Program} {w : World} {K : PySem.W.Frag} {mg : Str → Option Value} {base : Heap} {N ps : List Str} {qual : Str} {scope : Scope} {f : Addr} {cd : Value} {A : Around} {outer : List Env} {s s1 : Shared} {H : Hp} {E : XK} {us : List Value} {vs : List V}
    (S : FnScope N ps scope) (hd : A.handled = none) (e0 : Env0 P w K mg base A outer s H) (hl : vs.length = ps.length) (r : Vals vs us)
    (x : InCallC s s.heap.objs.size (bindL (envOfC qual scope s.heap.objs.size f cd).kindOf (ps.zip us) fun _ => none) (cellsFrom (s.heap.objs.size + 1) scope.names []) (bindC (envOfC qual scope s.heap.objs.size f cd).kindOf (ps.zip us) fun _ => none) s1) :
    Inv (cxOf CX P w K mg base N qual scope f cd A outer s H E) [] (start N vs) H s1 := by
  have hpl : ps.length ≤ N.length := by have := congrArg List.length S.pre; rw [List.length_take] at this; omega
  obtain ⟨h1, tk, rfl, hk⟩ := x.done
  have noA : ∀ b : Addr, b ∉ (cxOf CX P w K mg base N qual scope f cd A outer s H E).ex := fun b z => absurd (show b ∈ ([] : List Addr) from z) (by simp)
  refine ⟨⟨e0.mod, S.kind, rfl, rfl, Nat.le_refl _, fun y z c h1 h2 => ?_, fun y hy => ?_, fun y c _ h => ?_, fun _ => hd, Around.frames_deeper e0.frames, .inr ⟨rfl, rfl⟩, fun b z => absurd z (noA b), e0.bs, e0.bsz, fun b _ _ => noA b, fun b z => absurd z (noA b), e0.funs, e0.frf⟩,
    rfl, e0.bare, Un.kept hk, ⟨_, x.toInCall.ns, fun i y v h1 h2 h3 => ?_⟩, fun y c h => ⟨_, x.cell y c h⟩, e0.hok.fresh (Nat.le_refl _), fun y c h => ?_, fun p hp => absurd (show p ∈ ([] : List (Addr × Obj)) from hp) (by simp), e0.hok.kept hk, ?_⟩
  · exact name_of_addr x.apart (PySem.mem_of_lookup h1) (PySem.mem_of_lookup h2)
  · have hy : scope.names.lookup y = some .cell ∨ scope.names.lookup y = some .free := hy
    rcases hy with hy | hy
    · exact cell_has hy
    · exact absurd rfl (S.nofree _ (PySem.mem_of_lookup hy))
  · exact Nat.le_of_lt (x.above y c (PySem.mem_of_lookup h))
  · have hi : i < vs.length := by
      unfold start at h2
      by_cases hi : i < vs.length
      · exact hi
      · rw [List.getElem?_append_right (by simpa using hi)] at h2
        rw [List.getElem?_replicate] at h2
        split at h2 <;> cases h2
    have ha : vs[i]? = some v := by
      unfold start at h2
      rw [List.getElem?_append_left (by simpa using hi), List.getElem?_map] at h2
      cases e : vs[i]? with
      | none => rw [e] at h2; cases h2
      | some a => rw [e] at h2; cases h2; rfl
    obtain ⟨u, hu, rv⟩ := r.get ha
    have hp : ps[i]? = some y := by
      rw [← S.pre, List.getElem?_take_of_lt (by omega)]; exact h1
    have ndP : ps.Nodup := by rw [← S.pre]; exact S.nd.sublist (List.take_sublist _ _)
    refine ⟨u, rv, ?_⟩
    rcases S.par y (List.mem_of_getElem? hp) with k | k
    · exact .inl ⟨k, bindL_get ndP hp hu k⟩
    · obtain ⟨c, e⟩ := cell_has (n := s.heap.objs.size + 1) k
      refine .inr ⟨.inl k, c, e, ?_⟩
      have q := x.cell y c e
      rw [bindC_get ndP hp hu (by show scope.names.lookup y ≠ _; rw [k]; decide)] at q
      exact q
  · exact e0.hok.fresh (Nat.le_of_lt (x.above y c (PySem.mem_of_lookup h)))
  · unfold start
    show _ = N.length
    rw [List.length_append, List.length_map, List.length_replicate]
    omega
theorem fn_of {CX : CXT} {P : Program} {w : World} {K : PySem.W.Frag} {mg : Str → Option Value} {base : Heap} {k : Nat} {f : Addr} {name qual : Str} {params : Arguments} {body : List Stmt} {scope : Scope} {dV kV doc pm cdv ct oc : Value} {an od : Option Addr}
    {osl : Array (Option Value)} {N ps : List Str} {sp : Sp} (lk : K.lookup f = some ⟨oc, od, .func (PySem.W.fnOf name qual params body scope dV kV doc pm an cdv ct), osl⟩) (hcd : PySem.W.codeIn K cdv qual = true) (S : FnScope N ps scope)
    (len : ∀ vs H Q E, sp vs H Q E → vs.length = ps.length)
    (hbody : ∀ (A : Around) (outer : List Env) (s : Shared) (H : Hp) (vs : List V) (Q : VK) (E : XK), Room k (A.deeper (envOfC qual scope s.heap.objs.size f cdv)) → sp vs H Q E →
      ∃ t, PSs (cxOf CX P w K mg base N qual scope f cdv A outer s H E) body t ∧ t { nx := fun _ H' => Q .non H', rt := Q } (start N vs) H) :
    FnOk P w K mg base CX (k + 1) f (PySem.W.fnOf name qual params body scope dV kV doc pm an cdv ct) ps sp := by
  refine ⟨len, fun A outer s H args us vs Q E hr e0 hb r hsp => ?_⟩
  have hl := len _ _ _ _ hsp
  have KX : K.In s.heap := e0.mod.kin.keeps fun b o e => (e0.bs b o e).1
  have lim : s.heap.NoLimit := e0.mod.nolimit.keeps fun b o e => (e0.bs b o e).1
  have hkind : ∀ y ∈ ps.zip us, scope.names.lookup y.1 = some .local ∨ (scope.names.lookup y.1 = some .cell ∧ ((cellsFrom (s.heap.objs.size + 1) scope.names []).lookup y.1).isSome = true) := fun ⟨n, v⟩ hy => by
    rcases S.par n (List.of_mem_zip hy).1 with q | q
    · exact .inl q
    · exact .inr ⟨q, PySem.W.cellsFrom_some _ _ _ (.inl q)⟩
  refine codeAny_call_function hr.depth (KX _ _ lk) rfl S.co S.gen rfl (PySem.W.codeRec_of KX hcd) (hb _ _ _ _ ?_)
  refine wpAny_newFunctionEnv_cells S.kind hkind fun env he s1 x => ?_
  subst he
  refine ⟨lim.keeps x.toInCall.keep, codeAny_func ?_⟩
  obtain ⟨t, ht, hq⟩ := hbody A outer s H vs Q E (hr.deeper _) hsp
  have I : Inv (cxOf CX P w K mg base N qual scope f cdv A outer s H E) [] (start N vs) H s1 := inv_start S hr.hd e0 hl r x
  refine wpAny_mono (ht [] s1 (start N vs) H _ I hq) (fun fl s' hs => ?_) fun e s' hs => hs
  have fin : ∀ {σ' : St} {H' : Hp} {v : V} {u : Value}, Inv (cxOf CX P w K mg base N qual scope f cdv A outer s H E) [] σ' H' s' → RelV v u → Q v H' → CE outer P w H s Q u s' :=
    fun {σ' H' v u} J rv q => ⟨v, H', J.os, J.bare, J.base, J.hok, rv, q⟩
  cases fl with
  | ret u =>
    obtain ⟨v, σ', H', J, rv, q⟩ := hs
    exact fin J rv q
  | next =>
    obtain ⟨σ', H', J, q⟩ := hs
    exact fin (v := V.non) (u := Value.none) J rfl q
  | brk =>
    obtain ⟨_, _, _, q⟩ := hs
    exact False.elim q
  | cont =>
    obtain ⟨_, _, _, q⟩ := hs
    exact False.elim q
end L2
namespace L2
open PySem PySem.Spec PyProof.Rows
section
variable {X : Cx} {x : Str} {p pos : Pos} {e : Expr} {es : List Expr} {t : TA} {id T : String} {r : List V → Hp → VK → Prop}
end
end L2
namespace HT
open PySem PyProof.Rows
def lexLt : List Int → List Int → Bool
  | [], [] => false
  | [], _ :: _ => true
  | _ :: _, [] => false
  | x :: xs, y :: ys => if x = y then lexLt xs ys else decide (x < y)
theorem lexLt_cons (x y : Int) (xs ys : List Int) : lexLt (x :: xs) (y :: ys) = if x = y then lexLt xs ys else decide (x < y) := rfl
theorem lexLt_nil_nil : lexLt [] [] = false := rfl
theorem lexLt_nil_cons (y : Int) (ys : List Int) : lexLt [] (y :: ys) = true := rfl
theorem lexLt_cons_nil (x : Int) (xs : List Int) : lexLt (x :: xs) [] = false := rfl
theorem eqAt_int (A : Around) (s : Shared) (a : Int) (t : Tok) (c : Int) (u : Tok) : ∃ e, SeqAt.EqAt A s (.int a t) (.int c u) e ∧ (e = true ↔ a = c) :=
  ⟨(a == c), SeqAt.EqAt.int_int a t c u, by simp⟩
theorem rcLt_int (A : Around) (s : Shared) (a : Int) (t : Tok) (c : Int) (u : Tok) (prog : Program) (w : World) (E : Value → Shared → Prop) (Q : Value → Shared → Prop) (h : Q (.bool (decide (a < c))) s) :
    wpAny (model prog w) A (richCompare .Lt (.int a t) (.int c u)) Q E s :=
  (PyProof.Rows.lt_int h : wpAny (model prog w) A (compareOp .Lt (.int a t) (.int c u)) Q E s)
section
open PySem.SeqAt
open PySem.AutoSeq1 (wpAny_loadPart')
open PySem.MeetsSeq PySem.MeetsSeq2 PySem.MeetsSeq3
theorem tuple_lt_ints (l b : Addr) (items items2 : Array Value) (n n2 : Nat) (dd dd2 : Option Addr) (sl sl2 : Array (Option Value)) (ns ms : List Int) (hi : IntsAre items.toList ns) (hj : IntsAre items2.toList ms) :
    Meets (Builtin.«tuple.__lt__» ⟨[.ref l, .ref b], []⟩)
      (fun _ R s => s.heap.get? l = some { cls := .type "tuple", dict := dd, data := .seq items n, slots := sl } ∧ s.heap.get? b = some { cls := .type "tuple", dict := dd2, data := .seq items2 n2, slots := sl2 } ∧
        R (.ok (.ret (.bool (lexLt ns ms)))) s) :=
  .of_wp fun prog w A R s h => by
    obtain ⟨hp, g, d, tk, os⟩ := s; obtain ⟨hl, hb, h⟩ := h
    have f2 := AutoSeq1.sub_tuple_tuple
    have z1 : items.size = ns.length := by rw [← hi.length]; simp
    have z2 : items2.size = ms.length := by rw [← hj.length]; simp
    wp_walk using wpAny_loadPart' hl, wpAny_loadPart' hb, wpAny_forIn_list _ (fun rest b s' => b.1 = none ∧ s' = ⟨hp, g, d, tk, os⟩ ∧ ∃ (vs ws : List Value) (ns' ms' : List Int), rest = vs.zip ws ∧
      IntsAre vs ns' ∧ IntsAre ws ms' ∧ ns'.length + items2.size = ms'.length + items.size ∧ R (.ok (.ret (.bool (lexLt ns' ms')))) ⟨hp, g, d, tk, os⟩) _
    case turn =>
      rintro ⟨y, x⟩ rest b s' ⟨hb', rfl, vs, ws, ns', ms', hz, hvi, hwi, hlen, hR⟩
      cases hvi with
      | nil => rw [List.zip_nil_left] at hz; cases hz
      | cons a t hvi' =>
        cases hwi with
        | nil => rw [List.zip_nil_right] at hz; cases hz
        | cons c u hwi' =>
          rw [List.zip_cons_cons] at hz
          injection hz with hyx hrest
          injection hyx with hy hx
          subst hy hx
          rw [lexLt_cons] at hR
          simp only [List.length_cons] at hlen
          obtain ⟨e, he, hiff⟩ := eqAt_int A.in1 ⟨hp, g, d, tk, os⟩ a t c u
          refine wpAny_bind (he prog w _ _ ?_)
          cases e with
          | true =>
            rw [if_pos (hiff.mp rfl)] at hR
            wp_walk
            exact ⟨rfl, rfl, _, _, _, _, hrest, hvi', hwi', by omega, hR⟩
          | false =>
            rw [if_neg (fun q => absurd (hiff.mpr q) Bool.false_ne_true)] at hR
            have hri := rcLt_int A.in1 ⟨hp, g, d, tk, os⟩ a t c u prog w
            wp_walk using hri
            exact ⟨_, rfl, by simpa using hR⟩
    case fin =>
      rintro ⟨b1, b2⟩ s' ⟨hb', rfl, vs, ws, ns', ms', hz, hvi, hwi, hlen, hR⟩
      simp only at hb'
      subst hb'
      have hv : lexLt ns' ms' = decide (items.size < items2.size) := by
        cases hvi with
        | nil =>
          cases hwi with
          | nil =>
            simp only [List.length_nil] at hlen
            rw [lexLt_nil_nil]
            exact (decide_eq_false (by omega)).symm
          | cons c u hw =>
            simp only [List.length_nil, List.length_cons] at hlen
            rw [lexLt_nil_cons]
            exact (decide_eq_true (by omega)).symm
        | cons a t hv =>
          cases hwi with
          | nil =>
            simp only [List.length_nil, List.length_cons] at hlen
            rw [lexLt_cons_nil]
            exact (decide_eq_false (by omega)).symm
          | cons c u hw =>
            rw [List.zip_cons_cons] at hz
            cases hz
      rw [hv] at hR
      wp_walk
      exact ⟨_, rfl, by simpa [Builtin.Tuple.tupleCompareSizes] using hR⟩
    case h =>
      exact ⟨rfl, rfl, items.toList, items2.toList, ns, ms, rfl, hi, hj, by omega, h⟩
end
section
variable {prog : Program} {w : World} {A : Around} {E : Value → Shared → Prop} {s : Shared}
theorem lt_tupInts {l b : Addr} {items items2 : Array Value} {ns ms : List Int} {Q : Value → Shared → Prop} (hl : IsTup s.heap l items) (hb : IsTup s.heap b items2) (hi : IntsAre items.toList ns) (hj : IntsAre items2.toList ms)
    (hu : A.units < cLine) (h : Q (.bool (lexLt ns ms)) s) : wpAny (model prog w) A (compareOp .Lt (.ref l) (.ref b)) Q E s := by
  obtain ⟨⟨cls, dd, data, sl⟩, ho, hc, n, hd⟩ := id hl
  obtain ⟨⟨cls2, dd2, data2, sl2⟩, ho2, hc2, n2, hd2⟩ := id hb
  simp only at hc hd hc2 hd2
  subst hc hd hc2 hd2
  exact richCompare_meets_room (op := .Lt) ⟨_, ho, rfl⟩ ⟨_, ho2, rfl⟩ PySem.F.slot_tuple_lt PySem.F.entry_tuple_lt (PySem.F.args_tuple_lt_2 _ _) (tuple_lt_ints l b items items2 n n2 dd dd2 sl sl2 ns ms hi hj)
    ⟨ho, ho2, show Value.bool (lexLt ns ms) ≠ Value.notImplemented ∧ Q (.bool (lexLt ns ms)) s from ⟨(fun x => nomatch x), h⟩⟩ hu
theorem cat_tup {t b : Addr} {vs ws : List Value} {Q : Value → Shared → Prop} (ht : IsTup s.heap t vs.toArray) (hb : IsTup s.heap b ws.toArray) (hv : vs ≠ [])
    (h1 : ws = [] → Q (.ref t) s) (h2 : ws ≠ [] → Q (.ref s.heap.objs.size) { s with heap := s.heap.push { cls := .type "tuple", data := .seq (vs ++ ws).toArray } })
    (hsz : vs.length + ws.length ≤ sizeLine) : wpAny (model prog w) A (binaryOp .Add (.ref t) (.ref b)) Q E s := by
  obtain ⟨⟨cls, dd, data, sl⟩, ho, hc, n, hd⟩ := id ht
  obtain ⟨⟨cls2, dd2, data2, sl2⟩, ho2, hc2, n2, hd2⟩ := id hb
  simp only at hc hd hc2 hd2
  subst hc hd hc2 hd2
  have e : vs.toArray ++ ws.toArray = (vs ++ ws).toArray := by simp
  by_cases hw : ws = []
  · exact concat_meets ⟨_, ho, rfl⟩ ⟨_, ho2, rfl⟩ noFill_tuple_add seq_tuple_add PySem.F.slot_tuple_add PySem.F.entry_tuple_add (PySem.F.args_tuple_add_2 _ _)
      (tuple_addW1 t b vs.toArray ws.toArray n n2 dd dd2 sl sl2 (by simpa using hv) (by simp [hw])) ⟨ho, ho2, h1 hw⟩
  · refine concat_meets ⟨_, ho, rfl⟩ ⟨_, ho2, rfl⟩ noFill_tuple_add seq_tuple_add PySem.F.slot_tuple_add PySem.F.entry_tuple_add (PySem.F.args_tuple_add_2 _ _)
      (tuple_addW2 t b vs.toArray ws.toArray n n2 dd dd2 sl sl2 (by simpa using hv) (by simpa using hw) (by rw [List.size_toArray, List.size_toArray]; exact hsz)) ⟨ho, ho2, ?_⟩
    rw [e]
    exact h2 hw
def sIx (n d : Nat) : Option Int → Nat
  | none => d
  | some v => if v < 0 then (v + (n : Int)).toNat else min v.toNat n
theorem sIx_le (n d : Nat) (hd : d ≤ n) (o : Option Int) : sIx n d o ≤ n := by
  cases o with
  | none => exact hd
  | some v =>
    show (if v < 0 then (v + (n : Int)).toNat else min v.toNat n) ≤ n
    by_cases hv : v < 0
    · rw [if_pos hv]; omega
    · rw [if_neg hv]; exact Nat.min_le_right _ _
theorem clip_eq (v : Int) (n d : Nat) : (if v < 0 then max (v + (n : Int)) 0 else min v (n : Int)) = ((sIx n d (some v) : Nat) : Int) := by
  show (if v < 0 then max (v + (n : Int)) 0 else min v (n : Int)) = (((if v < 0 then (v + (n : Int)).toNat else min v.toNat n) : Nat) : Int)
  by_cases hv : v < 0
  · simp only [if_pos hv]; omega
  · simp only [if_neg hv]; omega
theorem adjust_gen (lo hi : Option Int) (n : Nat) : Builtin.Slice.sliceAdjust lo hi 1 (n : Int) = (((sIx n 0 lo : Nat) : Int), ((sIx n n hi : Nat) : Int)) := by
  have h1 : ¬ ((1 : Int) < 0) := by omega
  unfold Builtin.Slice.sliceAdjust
  simp only [h1, if_false]
  refine Prod.ext ?_ ?_
  · cases lo with
    | none => rfl
    | some v => exact clip_eq v n 0
  · cases hi with
    | none => rfl
    | some v => exact clip_eq v n n
theorem places_gen (i j : Nat) : Builtin.Slice.slicePlaces (i : Int) (j : Int) 1 = j - i := by
  unfold Builtin.Slice.slicePlaces
  have h1 : (1 : Int) > 0 := by omega
  simp only [h1, if_true, Int.ediv_one]
  split <;> omega
theorem slicePart_ {v : Value} {o : Option Int} {Q : Option Int → Shared → Prop} (p : IsPart v o) (h : Q o s) : wpAny (model prog w) A (Builtin.Slice.slicePartIndex v) Q E s := by
  cases p with
  | none => exact slicePart_none h
  | int i t => exact slicePart_int h
theorem sliceApplied_gen {sl : Addr} {vl vu : Value} {lo hi : Option Int} {n : Nat} {Q : Int × Int × Nat → Shared → Prop} (hs : s.heap.IsSliceOf sl vl vu .none) (pl : IsPart vl lo) (pu : IsPart vu hi)
    (h : Q (((sIx n 0 lo : Nat) : Int), 1, sIx n n hi - sIx n 0 lo) s) : wpAny (model prog w) A (Builtin.Slice.sliceApplied (.ref sl) (pure (n : Int))) Q E s := by
  obtain ⟨os, hos, hcs, hds⟩ := id hs
  unfold Builtin.Slice.sliceApplied Builtin.Slice.sliceFields
  refine wpAny_bind (wpAny_bind (wpAny_field hos hds (x := vl) rfl (wpAny_bind (wpAny_field hos hds (x := vu) rfl (wpAny_bind (wpAny_field hos hds (x := .none) rfl (wpAny_pure ?_)))))))
  refine wpAny_bind (slicePart_none ?_)
  show wpAny _ _ (if ((1 : Int) == 0) = true then _ else _) _ _ s
  rw [if_neg (by decide)]
  refine wpAny_bind (slicePart_ pl (wpAny_bind (slicePart_ pu (wpAny_bind (wpAny_pure ?_)))))
  show wpAny _ _ (match Builtin.Slice.sliceAdjust lo hi 1 (n : Int) with | (lo, hi) => pure (lo, (1 : Int), Builtin.Slice.slicePlaces lo hi 1)) _ _ s
  rw [adjust_gen lo hi n]
  show wpAny _ _ (pure (((sIx n 0 lo : Nat) : Int), (1 : Int), Builtin.Slice.slicePlaces ((sIx n 0 lo : Nat) : Int) ((sIx n n hi : Nat) : Int) 1)) _ _ s
  rw [places_gen]
  exact wpAny_pure h
theorem pick_gen (xs : Array Value) (i k : Nat) : ((List.range k).filterMap fun (m : Nat) => xs[((i : Int) + (m : Int) * 1).toNat]?).toArray = ((xs.toList.drop i).take k).toArray := by
  have e : (fun (m : Nat) => xs[((i : Int) + (m : Int) * 1).toNat]?) = fun m => xs[i + m]? := by
    funext m
    have : ((i : Int) + (m : Int) * 1).toNat = i + m := by omega
    rw [this]
  rw [e]
  have := pick_run xs i k
  rw [List.filterMap_map] at this
  have e2 : ((fun x => xs[x]?) ∘ fun x => i + x) = fun m => xs[i + m]? := rfl
  rw [e2] at this
  rw [this]
theorem getItem_tuple_cut {t sl : Addr} {items : Array Value} {vl vu : Value} {lo hi : Option Int} {Q : Value → Shared → Prop} (ht : IsTup s.heap t items) (hs : s.heap.IsSliceOf sl vl vu .none) (pl : IsPart vl lo) (pu : IsPart vu hi)
    (hw : ¬ (sIx items.size 0 lo = 0 ∧ sIx items.size items.size hi = items.size))
    (h : Q (.ref s.heap.objs.size) { s with heap := s.heap.push { cls := .type "tuple", data := .seq ((items.toList.drop (sIx items.size 0 lo)).take (sIx items.size items.size hi - sIx items.size 0 lo)).toArray } })
    (hsz : items.size ≤ sizeLine) : wpAny (model prog w) A (getItem (.ref t) (.ref sl)) Q E s := by
  have htake : sizeOk (.seq ((items.toList.drop (sIx items.size 0 lo)).take (sIx items.size items.size hi - sIx items.size 0 lo)).toArray) := by
    show ((items.toList.drop (sIx items.size 0 lo)).take (sIx items.size items.size hi - sIx items.size 0 lo)).toArray.size ≤ sizeLine
    rw [List.size_toArray, List.length_take, List.length_drop, Array.length_toList]
    omega
  have hj : sIx items.size items.size hi ≤ items.size := sIx_le _ _ (Nat.le_refl _) hi
  obtain ⟨os, hos, hcs, hds⟩ := id hs
  have hTs : s.TypeIs (.ref sl) "slice" := ⟨os, hos, hcs⟩
  unfold getItem
  try with_reducible refine wpAny_holding ?_
  first | refine wpAny_bind (wpAny_pure ?_) | skip
  refine wpAny_bind (wpAny_sequenceKey ht.typeIs (by decide) ?_)
  refine wpAny_bind (wpAny_callSpecial?_slot (name := Str.ofString "__getitem__") ht.typeIs PyProof.Rows.slot_tuple_getitem
    (wpAny_call_entry PyProof.Rows.slot_tuple_getitem ht.typeIs entry_tuple_getitem ?_ (args_tuple_getitem _ _)))
  show wpAny _ _ (Builtin.Tuple.tupleItemsOf (.ref t) >>= _) _ _ s
  refine wpAny_bind (tupleItemsOf_ ht ?_)
  refine wpAny_bind (wpAny_typeOf hTs ?_)
  rw [if_pos (by decide)]
  refine wpAny_bind (sliceApplied_gen hs pl pu ?_)
  have hno : ¬ ((((sIx items.size 0 lo : Nat) : Int) == 0 && (1 : Int) == 1 && (sIx items.size items.size hi - sIx items.size 0 lo) == items.size) = true) := by
    intro q
    rw [Bool.and_eq_true, Bool.and_eq_true] at q
    have q1 : ((sIx items.size 0 lo : Nat) : Int) = 0 := eq_of_beq q.1.1
    have q2 : sIx items.size items.size hi - sIx items.size 0 lo = items.size := eq_of_beq q.2
    exact hw ⟨by omega, by omega⟩
  show wpAny _ _ (if (((sIx items.size 0 lo : Nat) : Int) == 0 && (1 : Int) == 1 && (sIx items.size items.size hi - sIx items.size 0 lo) == items.size) = true then _ else _) _ _ s
  rw [if_neg hno, pick_gen]
  first
    | exact wpAny_bind (m := Builtin.Tuple.tupleExact _) (wpAny_newObj_type (wpAny_pure ⟨_, rfl, wpAny_pure h⟩) htake)
    | exact wpAny_bind (m := Builtin.Tuple.tupleExact _) (wpAny_newObj_type (wpAny_bind (wpAny_pure (wpAny_pure ⟨_, rfl, wpAny_pure h⟩))) htake)
    | exact wpAny_bind (wpAny_bind (m := Builtin.Tuple.tupleExact _) (wpAny_newObj_type (wpAny_pure (wpAny_pure ⟨_, rfl, wpAny_pure h⟩)) htake))
    | exact wpAny_bind (wpAny_bind (m := Builtin.Tuple.tupleExact _) (wpAny_newObj_type (wpAny_pure ⟨_, rfl, wpAny_pure h⟩) htake))
end
end HT
namespace L2
open PySem PySem.Spec PyProof.Rows
abbrev TO := St → Hp → (Option Int → Hp → Prop) → Prop
def PO (X : Cx) (e : Option Expr) (t : TO) : Prop :=
  ∀ (pins : List (Addr × Obj)) (s : Shared) (σ : St) (H : Hp) (Q : Option Int → Hp → Prop), Inv X pins σ H s → t σ H Q →
    wpAny (model X.prog X.w) X.A (evalPart e X.env) (fun u s' => ∃ o H', Inv X pins σ H' s' ∧ IsPart u o ∧ Q o H') X.xe s
def tNoPart : TO := fun _ H Q => Q none H
def tPart (t : TE) : TO := fun σ H Q => t σ H fun x H1 => ∃ i, x = .int i ∧ Q (some i) H1
theorem intsAre_of {ns : List Int} : ∀ {us : List Value}, Vals (ns.map V.int) us → IntsAre us ns := by
  induction ns with
  | nil => intro us r; rw [List.map_nil] at r; cases r; exact .nil
  | cons n ns ih =>
    intro us r
    rw [List.map_cons] at r
    cases r with
    | cons r1 r2 =>
      obtain ⟨t, e⟩ := r1
      subst e
      exact .cons n t (ih r2)
section
variable {X : Cx} {e : Expr} {te : TE} {lo hi : Option Expr} {tl th : TO} {pos p2 : Pos}
theorem po_none : PO X none tNoPart := by
  intro pins s σ H Q I h
  rw [evalPart_none]
  exact wpAny_pure ⟨none, H, I, .none, h⟩
theorem po_some (h : PE X e te) : PO X (some e) (tPart te) := by
  intro pins s σ H Q I hw
  rw [evalPart_some]
  refine thn (h pins s σ H _ I hw) fun u s1 ⟨x, H1, I1, r1, q1⟩ => ?_
  obtain ⟨i, rfl, q⟩ := q1
  obtain ⟨t, rfl⟩ := r1
  exact ⟨some i, H1, I1, .int i t, q⟩
def SlR (X : Cx) (r : V → Option Int → Option Int → Hp → VK → Prop) : Prop :=
  ∀ (pins : List (Addr × Obj)) (s : Shared) (σ : St) (H : Hp) (x : V) (v vl vu : Value) (lo hi : Option Int) (sl : Addr) (Q : VK), Inv X pins σ H s → RelV x v → s.heap.IsSliceOf sl vl vu .none → IsPart vl lo → IsPart vu hi → r x lo hi H Q →
    ∃ T id, typeLookup (.type T) "__getitem__" = pure (some (.builtin id)) ∧ s.TypeIs v T ∧ wpAny (model X.prog X.w) X.A (getItem v (.ref sl)) (EP X pins σ Q) X.xe s
theorem SlR.or {r r' : V → Option Int → Option Int → Hp → VK → Prop} (h : SlR X r) (h' : SlR X r') : SlR X (fun x lo hi H Q => r x lo hi H Q ∨ r' x lo hi H Q) := by
  intro pins s σ H x v vl vu lo hi sl Q I rx hs pl pu q
  rcases q with q | q
  · exact h pins s σ H x v vl vu lo hi sl Q I rx hs pl pu q
  · exact h' pins s σ H x v vl vu lo hi sl Q I rx hs pl pu q
def tSl (r : V → Option Int → Option Int → Hp → VK → Prop) (te : TE) (tl th : TO) : TE := fun σ H Q => te σ H fun x H1 => tl σ H1 fun l H2 => th σ H2 fun u H3 => r x l u H3 Q
theorem pe_slice {r : V → Option Int → Option Int → Hp → VK → Prop} (hr : SlR X r) (he : PE X e te) (hl : PO X lo tl) (hu : PO X hi th) : PE X (.Subscript e (.Slice lo hi none p2) pos) (tSl r te tl th) := by
  intro pins s σ H Q I h
  refine Subscript_ (thn (he pins s σ H _ I h) fun v s1 ⟨x, H1, I1, r1, q1⟩ => ?_)
  refine wpAny_Slice (thn (hl pins s1 σ H1 _ I1 q1) fun vl s2 ⟨l, H2, I2, pl, q2⟩ => thn (hu pins s2 σ H2 _ I2 q2) fun vu s3 ⟨u, H3, I3, pu, q3⟩ => ?_)
  rw [evalPart_none]
  refine wpAny_pure ?_
  have I4 : Inv X pins σ H3 { s3 with heap := s3.heap.push { cls := .type "slice", data := .fields #[vl, vu, .none] } } := I3.kept (t' := s3.toks) fun b ob q => Heap.get?_push_of_some _ q
  obtain ⟨T, id, hT, ht, hg⟩ := hr pins { s3 with heap := s3.heap.push { cls := .type "slice", data := .fields #[vl, vu, .none] } } σ H3 x v vl vu l u s3.heap.objs.size Q I4 r1 (Heap.IsSliceOf.new ..) pl pu q3
  show wpAny (model X.prog X.w) X.A (subscriptTail e (.Slice lo hi none p2) v (.ref s3.heap.objs.size)) (EP X pins σ Q) X.xe { s3 with heap := s3.heap.push { cls := .type "slice", data := .fields #[vl, vu, .none] } }
  exact tail_any (ops := [.ref s3.heap.objs.size, v]) ht hT hg (by with_unfolding_all rfl)
def cutV (xs : List V) (lo hi : Option Int) : List V := (xs.drop (HT.sIx xs.length 0 lo)).take (HT.sIx xs.length xs.length hi - HT.sIx xs.length 0 lo)
theorem cutV_length (xs : List V) (lo hi : Option Int) : (cutV xs lo hi).length ≤ xs.length := by
  unfold cutV
  rw [List.length_take, List.length_drop]
  omega
def rSlT (K : PySem.W.Frag) : V → Option Int → Option Int → Hp → VK → Prop := fun x lo hi H Q => ∃ a xs, x = .ref a ∧ SqT K H a xs ∧
  ¬ (HT.sIx xs.length 0 lo = 0 ∧ HT.sIx xs.length xs.length hi = xs.length) ∧ ∀ p, H p = none → Q (.ref p) (upd H p (.tup (cutV xs lo hi)))
theorem sl_tup : SlR X (rSlT X.K) := by
  intro pins s σ H x v vl vu lo hi sl Q I rx hs pl pu h
  obtain ⟨a, xs, rfl, hx, hw, q⟩ := h
  cases rx
  obtain ⟨its, r, ht, hz⟩ := I.tuple hx
  have hlen : its.toArray.size = xs.length := by rw [List.size_toArray]; exact r.length.symm
  refine ⟨"tuple", _, PyProof.Rows.slot_tuple_getitem.lookup, ht.typeIs, ?_⟩
  refine HT.getItem_tuple_cut ht hs pl pu (by rw [hlen]; exact hw) ?_ (by rw [hlen]; exact hz)
  rw [hlen]
  refine ⟨.ref s.heap.objs.size, _, I.laid (t' := s.toks) (o := .tup (cutV xs lo hi)) (fun b ob q => Heap.get?_push_of_some _ q) (Nat.le_refl _) ?_, rfl, q _ (I.hok.fresh (Nat.le_refl _))⟩
  exact ⟨Nat.le_trans (cutV_length xs lo hi) hz, _, (r.drop (HT.sIx xs.length 0 lo)).take (HT.sIx xs.length xs.length hi - HT.sIx xs.length 0 lo), IsTup.new _ _⟩
def rLtT (K : PySem.W.Frag) : R2 := fun x y H Q => ∃ a b ns ms, x = .ref a ∧ y = .ref b ∧ SqT K H a (ns.map V.int) ∧ SqT K H b (ms.map V.int) ∧ Q (.bl (HT.lexLt ns ms)) H
theorem op_ltT (hu : X.A.units < cLine) : OpR X (compareOp .Lt) (rLtT X.K) := by
  intro pins s σ H x y v u Q I rx ry h
  obtain ⟨a, b, ns, ms, rfl, rfl, ha, hb, q⟩ := h
  cases rx
  cases ry
  obtain ⟨its, r1, p1, _⟩ := I.tuple ha
  obtain ⟨its2, r2, p2, _⟩ := I.tuple hb
  have i1 : IntsAre its.toArray.toList ns := intsAre_of r1
  have i2 : IntsAre its2.toArray.toList ms := intsAre_of r2
  exact HT.lt_tupInts p1 p2 i1 i2 hu ⟨.bl (HT.lexLt ns ms), H, I, rfl, q⟩
def rCatT (K : PySem.W.Frag) : R2 := fun x y H Q => ∃ a b xs ys, x = .ref a ∧ y = .ref b ∧ SqT K H a xs ∧ SqT K H b ys ∧ xs ≠ [] ∧ xs.length + ys.length ≤ sizeLine ∧
  (ys = [] → Q (.ref a) H) ∧ (ys ≠ [] → ∀ p, H p = none → Q (.ref p) (upd H p (.tup (xs ++ ys))))
theorem Vals.nil_iff {xs : List V} {us : List Value} (r : Vals xs us) : us = [] ↔ xs = [] := by
  cases r with
  | nil => simp
  | cons _ _ => simp
theorem op_catT : OpR X (binaryOp .Add) (rCatT X.K) := by
  intro pins s σ H x y v u Q I rx ry h
  obtain ⟨a, b, xs, ys, rfl, rfl, ha, hb, hx, hz, q1, q2⟩ := h
  cases rx
  cases ry
  obtain ⟨its, r1, p1, _⟩ := I.tuple ha
  obtain ⟨its2, r2, p2, _⟩ := I.tuple hb
  refine HT.cat_tup p1 p2 (fun z => hx (r1.nil_iff.mp z)) (fun z => ⟨.ref a, H, I, rfl, q1 (r2.nil_iff.mp z)⟩) (fun z => ?_) (by rw [← r1.length, ← r2.length]; exact hz)
  refine ⟨.ref s.heap.objs.size, _, I.laid (t' := s.toks) (o := .tup (xs ++ ys)) (fun b ob q => Heap.get?_push_of_some _ q) (Nat.le_refl _) ?_, rfl, q2 (fun w => z (r2.nil_iff.mpr w)) _ (I.hok.fresh (Nat.le_refl _))⟩
  exact ⟨by rw [List.length_append]; exact hz, _, r1.append r2, IsTup.new _ _⟩
end
end L2
namespace L2
open PySem PySem.Spec PyProof.Rows
def ixN (n : Nat) (i : Int) : Option Nat := if 0 ≤ i then (if i < n then some i.toNat else none) else if -(n : Int) ≤ i then some (i + n).toNat else none
def atI {α : Type} (xs : List α) (i : Int) : Option α := (ixN xs.length i).bind fun j => xs[j]?
theorem ixN_seq {n : Nat} {i : Int} {j : Nat} (h : ixN n i = some j) : seqIndex? i n = some j ∧ j < n ∧ -(n : Int) ≤ i ∧ i < n := by
  unfold ixN at h
  by_cases h0 : 0 ≤ i
  · rw [if_pos h0] at h
    by_cases h1 : i < n
    · rw [if_pos h1] at h
      have e : i.toNat = j := Option.some.inj h
      exact ⟨by rw [seqIndex_of h0 h1, e], by omega, by omega, h1⟩
    · rw [if_neg h1] at h; cases h
  · rw [if_neg h0] at h
    by_cases h1 : -(n : Int) ≤ i
    · rw [if_pos h1] at h
      have e : (i + n).toNat = j := Option.some.inj h
      exact ⟨by rw [seqIndex_neg (by omega) h1, e], by omega, h1, by omega⟩
    · rw [if_neg h1] at h; cases h
theorem atI_get {α : Type} {xs : List α} {i : Int} {v : α} (h : atI xs i = some v) : ∃ j, seqIndex? i xs.length = some j ∧ xs[j]? = some v ∧ j < xs.length ∧ -(xs.length : Int) ≤ i ∧ i < xs.length := by
  unfold atI at h
  cases e : ixN xs.length i with
  | none => rw [e] at h; cases h
  | some j =>
    rw [e] at h
    obtain ⟨h1, h2, h3, h4⟩ := ixN_seq e
    exact ⟨j, h1, h, h2, h3, h4⟩
def PlainIx (b : Expr) : Prop := ∀ o i, subscripted b false o i = operate [o, i] (getItem o i)
def IxR (X : Cx) (r : R2) : Prop :=
  ∀ (value slice : Expr) (pins : List (Addr × Obj)) (s : Shared) (σ : St) (H : Hp) (x y : V) (v u : Value) (Q : VK), Inv X pins σ H s → RelV x v → RelV y u → r x y H Q →
    subscripted slice false v u = operate [v, u] (getItem v u) → wpAny (model X.prog X.w) X.A (subscriptTail value slice v u) (EP X pins σ Q) X.xe s
def MtR (X : Cx) (id : String) (r : V → List V → Hp → VK → Prop) : Prop :=
  ∀ (pins : List (Addr × Obj)) (s : Shared) (σ : St) (H : Hp) (x : V) (xs : List V) (v : Value) (us : List Value) (Q : VK), Inv X pins σ H s → RelV x v → Vals xs us → r x xs H Q →
    wpAny (model X.prog X.w) X.A (call (.builtin id) (v :: us)) (EP X pins σ Q) X.xe s
section
variable {X : Cx} {a b : Expr} {ta tb : TE} {pos : Pos}
def rIxL (K : PySem.W.Frag) : R2 := fun x y H Q => ∃ p xs i v, x = .ref p ∧ y = .int i ∧ SqL K H p xs ∧ atI xs i = some v ∧ Q v H
def rIxT (K : PySem.W.Frag) : R2 := fun x y H Q => ∃ p xs i v, x = .ref p ∧ y = .int i ∧ SqT K H p xs ∧ atI xs i = some v ∧ Q v H
def rIxS : R2 := fun x y H Q => ∃ z i c, x = .str z ∧ y = .int i ∧ z.length ≤ sizeLine ∧ atI z.cps.toList i = some c ∧ Q (.str ⟨#[c]⟩) H
theorem ix_list : IxR X (rIxL X.K) := by
  intro value slice pins s σ H x y v u Q I rx ry h hs
  obtain ⟨p, xs, i, z, rfl, rfl, hq, he, q⟩ := h
  cases rx
  obtain ⟨t, rfl⟩ := ry
  obtain ⟨its, r, pl, hz⟩ := I.list hq
  obtain ⟨j, h1, h2, h3, h4, h5⟩ := atI_get he
  obtain ⟨w, ew, rw'⟩ := r.get h2
  have hl := r.length
  have hn := line63
  have fin : EP X pins σ Q w s := ⟨z, H, I, rw', q⟩
  by_cases h0 : 0 ≤ i
  · have hj : i.toNat = j := by
      rw [seqIndex_of h0 h5] at h1
      exact Option.some.inj h1
    exact item_listR pl.isList h0 (by omega) (by rw [hj]; simpa using ew) fin hs
  · have hj : (i + (its.toArray.size : Int)).toNat = j := by
      rw [seqIndex_neg (by omega) h4] at h1
      rw [List.size_toArray, ← hl]
      exact Option.some.inj h1
    exact subscriptTail_builtinR (x := w) pl.isList.typeIs slot_list_getitem.lookup
      (wpAny_getItem_list_neg (Q := fun r s' => r = w ∧ EP X pins σ Q r s') pl.isList (by omega) (by rw [List.size_toArray] <;> omega) (by omega) (by rw [hj]; simpa using ew) ⟨rfl, fin⟩) hs
theorem ix_tup : IxR X (rIxT X.K) := by
  intro value slice pins s σ H x y v u Q I rx ry h hs
  obtain ⟨p, xs, i, z, rfl, rfl, hq, he, q⟩ := h
  cases rx
  obtain ⟨t, rfl⟩ := ry
  obtain ⟨its, r, pl, hz⟩ := I.tuple hq
  obtain ⟨j, h1, h2, h3, h4, h5⟩ := atI_get he
  obtain ⟨w, ew, rw'⟩ := r.get h2
  have hl := r.length
  have hn := line63
  have fin : EP X pins σ Q w s := ⟨z, H, I, rw', q⟩
  exact subscriptTail_builtinR (x := w) pl.typeIs slot_tuple_getitem.lookup
    (getItem_tuple (j := j) (Q := fun r s' => r = w ∧ EP X pins σ Q r s') pl (by omega) (by omega) (by rw [List.size_toArray, ← hl]; exact h1) (by simpa using ew) ⟨rfl, fin⟩) hs
theorem ix_str : IxR X rIxS := by
  intro value slice pins s σ H x y v u Q I rx ry h hs
  obtain ⟨z, i, c, rfl, rfl, hz, he, q⟩ := h
  obtain ⟨t, rfl⟩ := rx
  obtain ⟨t', rfl⟩ := ry
  obtain ⟨j, h1, h2, h3, h4, h5⟩ := atI_get he
  have hl : z.cps.toList.length = z.length := by simp [Str.length]
  rw [hl] at h1 h4 h5
  have hn := line63
  exact tail_any (typeIs_str s z t) slot_str_getitem.lookup (getItem_str (c := c) (by
    have e1 : decide (i < -(2 ^ 63 : Int)) = false := decide_eq_false (by omega)
    have e2 : decide (i ≥ 2 ^ 63) = false := decide_eq_false (by omega)
    rw [e1, e2, Bool.or_false]) (by rw [h1]; simpa using h2) ⟨.str ⟨#[c]⟩, H, I.tok _, ⟨_, rfl⟩, q⟩) hs
theorem slice_bounds (lo hi : Option Int) (n : Nat) : (sliceBounds lo hi none n).1 = ((HT.sIx n 0 lo : Nat) : Int) ∧ (sliceBounds lo hi none n).2.1 = ((HT.sIx n n hi : Nat) : Int) ∧ (sliceBounds lo hi none n).2.2 = 1 := by
  refine ⟨?_, ?_, rfl⟩
  · cases lo with
    | none => simp [sliceBounds, HT.sIx]
    | some i =>
      simp only [sliceBounds, HT.sIx, Option.getD_none, show (1 : Int) > 0 by decide, if_true]
      by_cases h : i < 0
      · simp only [h, if_true] <;> omega
      · simp only [h, if_false] <;> omega
  · cases hi with
    | none => simp [sliceBounds, HT.sIx]
    | some i =>
      simp only [sliceBounds, HT.sIx, Option.getD_none, show (1 : Int) > 0 by decide, if_true]
      by_cases h : i < 0
      · simp only [h, if_true] <;> omega
      · simp only [h, if_false] <;> omega
theorem slicePick_cut (its : List Value) (lo hi : Option Int) : slicePick its.toArray lo hi none = ((its.drop (HT.sIx its.length 0 lo)).take (HT.sIx its.length its.length hi - HT.sIx its.length 0 lo)).toArray := by
  obtain ⟨h1, h2, h3⟩ := slice_bounds lo hi its.toArray.size
  unfold slicePick
  rw [h1, h2, h3]
  simp only [sliceRange_one, pick_run, List.size_toArray] <;> rfl
def rSlL (K : PySem.W.Frag) : V → Option Int → Option Int → Hp → VK → Prop := fun x lo hi H Q => ∃ a xs, x = .ref a ∧ SqL K H a xs ∧ ∀ p, H p = none → Q (.ref p) (upd H p (.lst (cutV xs lo hi)))
theorem sl_list : SlR X (rSlL X.K) := by
  intro pins s σ H x v vl vu lo hi sl Q I rx hs pl pu h
  obtain ⟨a, xs, rfl, hx, q⟩ := h
  cases rx
  obtain ⟨its, r, ht, hz⟩ := I.list hx
  have hlen := r.length
  refine ⟨"list", _, slot_list_getitem.lookup, ht.isList.typeIs, ?_⟩
  refine wpAny_getItem_list_slice ht.isList hs pl pu .none (by simp) ?_ (by rw [List.size_toArray] <;> omega)
  rw [slicePick_cut, ← hlen]
  refine ⟨.ref s.heap.objs.size, _, I.laid (t' := s.toks) (o := .lst (cutV xs lo hi)) (fun b ob q => Heap.get?_push_of_some _ q) (Nat.le_refl _) ?_, rfl, q _ (I.hok.fresh (Nat.le_refl _))⟩
  exact ⟨Nat.le_trans (cutV_length xs lo hi) hz, _, 0, (r.drop (HT.sIx xs.length 0 lo)).take (HT.sIx xs.length xs.length hi - HT.sIx xs.length 0 lo), Heap.get?_push_size _ rfl⟩
theorem call_len_seq : CallR X (.builtin "len") (fun xs H Q => ∃ p ys, xs = [.ref p] ∧ (SqL X.K H p ys ∨ SqT X.K H p ys) ∧ Q (.int ys.length) H) := by
  intro pins s σ H xs us Q I r h
  obtain ⟨p, ys, rfl, hq, q⟩ := h
  obtain ⟨u, rfl, rx⟩ := vals1 r
  cases rx
  have hn := line63
  rcases hq with hq | hq
  · obtain ⟨its, r', pl, hz⟩ := I.list hq
    have hlen := r'.length
    exact Calls.call_len_list pl.isList (by simp only [List.size_toArray] <;> omega) ⟨.int ys.length, H, I.tok _, ⟨s.toks + 1, by rw [List.size_toArray, hlen]⟩, q⟩
  · obtain ⟨its, r', pl, hz⟩ := I.tuple hq
    have hlen := r'.length
    exact len_tuple pl (by simp only [List.size_toArray] <;> omega) ⟨.int ys.length, H, I.tok _, ⟨s.toks + 1, by rw [List.size_toArray, hlen]⟩, q⟩
theorem call_len_str : CallR X (.builtin "len") (fun xs H Q => ∃ z, xs = [.str z] ∧ z.length ≤ sizeLine ∧ Q (.int z.length) H) := by
  intro pins s σ H xs us Q I r h
  obtain ⟨z, rfl, hz, q⟩ := h
  obtain ⟨u, rfl, t, rfl⟩ := vals1 r
  have hn := line63
  exact len_str (by omega) ⟨.int z.length, H, I.tok _, ⟨_, rfl⟩, q⟩
theorem call_list_of : CallR X (.type "list") (fun xs H Q => ∃ p ys, xs = [.ref p] ∧ (SqL X.K H p ys ∨ SqT X.K H p ys) ∧ ∀ l, H l = none → Q (.ref l) (upd H l (.lst ys))) := by
  intro pins s σ H xs us Q I r h
  obtain ⟨p, ys, rfl, hq, q⟩ := h
  obtain ⟨u, rfl, rx⟩ := vals1 r
  cases rx
  have fin : ∀ (its : List Value), Vals ys its → ys.length ≤ sizeLine → ∀ (h' : Heap) (c' : Nat), (∀ b o', s.heap.get? b = some o' → h'.get? b = some o') →
      h'.get? s.heap.objs.size = some { cls := .type "list", dict := none, data := .seq its.toArray c', slots := #[] } → EP X pins σ Q (.ref s.heap.objs.size) { s with heap := h' } := fun its r' hz h' c' kp e =>
    ⟨.ref s.heap.objs.size, _, I.laid (t' := s.toks) kp (Nat.le_refl _) (show ObjOk X.prog X.w _ h' _ (.lst ys) from ⟨hz, its, c', r', e⟩), rfl, q _ (I.hok.fresh (Nat.le_refl _))⟩
  rcases hq with hq | hq
  · obtain ⟨its, r', pl, hz⟩ := I.list hq
    have hlen := r'.length
    obtain ⟨o, ho, hc, n, hd⟩ := pl.isList
    exact call_list_seq p (.inl rfl) ho hc hd (fun h' c' kp e => fin its r' hz h' c' kp e) (by simp only [List.size_toArray] <;> omega)
  · obtain ⟨its, r', pl, hz⟩ := I.tuple hq
    have hlen := r'.length
    obtain ⟨o, ho, hc, n, hd⟩ := pl
    exact call_list_seq p (.inr rfl) ho hc hd (fun h' c' kp e => fin its r' hz h' c' kp e) (by simp only [List.size_toArray] <;> omega)
def tyV (K : PySem.W.Frag) (T : String) (x : V) (H : Hp) : Prop := match x with
  | .str _ => T = "str"
  | .int _ => T = "int"
  | .ref p => (T = "list" ∧ ∃ xs, SqL K H p xs) ∨ (T = "tuple" ∧ ∃ o, K.lookup p = some o ∧ o.cls = .type "tuple" ∧ o.dict = none) ∨
      (T = "dict" ∧ ((∃ kvs, H p = some (.dK kvs)) ∨ ∃ kvs, H p = some (.dT kvs))) ∨ (T = "set" ∧ ∃ S n, H p = some (.set S n))
  | _ => False
theorem tyV_is {pins : List (Addr × Obj)} {σ : St} {H : Hp} {s : Shared} {T : String} {x : V} {v : Value} (I : Inv X pins σ H s) (r : RelV x v) (ty : tyV X.K T x H) :
    s.TypeIs v T ∧ ∀ a, v = .ref a → ∃ ob, s.heap.get? a = some ob ∧ ob.dict = none := by
  cases x with
  | str z =>
    obtain ⟨t, rfl⟩ := r
    cases (show T = "str" from ty)
    exact ⟨typeIs_str s z t, fun _ e => nomatch e⟩
  | int i =>
    obtain ⟨t, rfl⟩ := r
    cases (show T = "int" from ty)
    exact ⟨typeIs_int s i t, fun _ e => nomatch e⟩
  | ref p =>
    cases r
    rcases ty with ⟨rfl, xs, hq⟩ | ⟨rfl, o, hk, hc, hd⟩ | ⟨rfl, hk⟩ | ⟨rfl, S, n, hk⟩
    · obtain ⟨its, _, pl, _⟩ := I.list hq
      refine ⟨pl.isList.typeIs, fun a e => ?_⟩
      cases e
      obtain ⟨o, n, e, c, hd, _⟩ := pl
      exact ⟨o, e, hd⟩
    · refine ⟨⟨o, I.kIn p o hk, hc⟩, fun a e => ?_⟩
      cases e
      exact ⟨o, I.kIn _ o hk, hd⟩
    · have z : ∃ o, s.heap.get? p = some o ∧ o.ExactDict := by
        rcases hk with ⟨kvs, hk⟩ | ⟨kvs, hk⟩
        · obtain ⟨_, _, _, _, o, _, _, e, ex, _⟩ := I.hok p _ hk
          exact ⟨o, e, ex⟩
        · obtain ⟨_, _, _, _, o, _, _, e, ex, _⟩ := I.hok p _ hk
          exact ⟨o, e, ex⟩
      obtain ⟨o, e, ex⟩ := z
      refine ⟨⟨o, e, ex.1⟩, fun a e2 => ?_⟩
      cases e2
      exact ⟨o, e, ex.2.1⟩
    · obtain ⟨o, _, _, _, e, ex, _⟩ := I.hok p _ hk
      refine ⟨⟨o, e, ex.1⟩, fun a e2 => ?_⟩
      cases e2
      exact ⟨o, e, ex.2.1⟩
  | _ => exact False.elim ty
def tBM (K : PySem.W.Frag) (T : String) (r : V → List V → Hp → VK → Prop) (to : TE) (t : TA) : TE := fun σ H Q => to σ H fun x H1 => tyV K T x H1 ∧ t σ H1 fun xs H2 => r x xs H2 Q
variable {o e : Expr} {es : List Expr} {to : TE} {t : TA} {name : Str} {apos cpos : Pos} {T id : String} {r : V → List V → Hp → VK → Prop}
theorem pe_bm (pa : PlainAttrs T) (slot : Slot T name id) (hty : typeOf (.builtin id) = pure (.type "method_descriptor")) (hm : MtR X id r) (ho : PE X o to) (ha : PA X (e :: es) t)
    (hbase : attributeBase o name X.env (eval o X.env) = eval o X.env := by rfl)
    (hfew : ((backTo cpos (starEach (e :: es) X.env)).all (fun x => !x.1) && (backToKw cpos (keywordEach [] X.env)).all (fun x => x.1.isSome)
      && decide ((e :: es).length + ([] : List Keyword).length + (if ([] : List Keyword).isEmpty then 0 else 1) < 30)) = true := by rfl)
    (hline : (apos.endLine == cpos.line) = true := by rfl) (hs : starEach (e :: es) X.env = (false, eval e X.env) :: starEach es X.env := by rfl) (hplain : (backTo cpos (starEach es X.env)).any (·.1) = false := by rfl) :
    PE X (.Call (.Attribute o name apos) (e :: es) [] cpos) (tBM X.K T r to t) := by
  intro pins s σ H Q I h
  refine wpAny_Call_method_late hbase hfew hline rfl (thn (ho pins s σ H _ I h) fun v s1 ⟨x, H1, I1, r1, ty, q1⟩ => ?_)
  obtain ⟨h1, h2⟩ := tyV_is I1 r1 ty
  refine ⟨T, id, pa, slot, hty, h1, h2, ?_⟩
  have hA := ha cpos pins s1 σ H1 _ I1 q1
  rw [hs] at hA ⊢
  refine Calls.callWith_builtin (by show (false || (backTo cpos (starEach es X.env)).any (·.1)) = false; rw [hplain] <;> rfl) (Calls.evalArgs_plain ?_)
  exact thn hA fun us s2 ⟨vs, H2, I2, r2, q2⟩ => hm pins s2 σ H2 x vs v us Q I2 r1 r2 q2
end
end L2
namespace L2
open PySem PySem.Spec PyProof.Rows
def MtM (X : Cx) (id : String) (r : V → List V → Hp → VK → Prop) : Prop :=
  ∀ (pins : List (Addr × Obj)) (s : Shared) (σ : St) (H : Hp) (x : V) (xs : List V) (v : Value) (us : List Value) (Q : VK), Inv X pins σ H s → RelV x v → Vals xs us → r x xs H Q →
    wpAny (model X.prog X.w) X.A (call (.builtin id) (v :: us)) (EP X pins σ Q) X.xe s
theorem Vals.one : ∀ {x : V} {us : List Value}, Vals [x] us → ∃ u, us = [u] ∧ RelV x u
  | _, _, .cons r .nil => ⟨_, rfl, r⟩
section
variable {X : Cx} {pins : List (Addr × Obj)} {σ : St} {H : Hp} {s : Shared} {l b : Addr} {xs ys zs : List V}
theorem Inv.lset {its its' : List Value} {n : Nat} {f : Array Value → Array Value} {t' : Nat} (I : Inv X pins σ H s) (hH : H l = some (.lst xs))
    (e : s.heap.get? l = some { cls := .type "list", data := .seq its.toArray n }) (hf : f its.toArray = its'.toArray) (hv : Vals ys its') (hz : ys.length ≤ sizeLine) :
    Inv X pins σ (upd H l (.lst ys)) { s with heap := s.heap.update l (Obj.mapSeq f), toks := t' } := by
  have q := PySem.IsL.update e f
  rw [hf] at q
  refine I.write (x := l) (e := l) (by rw [hH]; exact trivial) (.inl rfl) (fun b' u hb hu => (Heap.get?_update_other s.heap (Obj.mapSeq f) (Ne.symm hb)).trans hu) ⟨_, q⟩ ?_
  exact ⟨hz, its', _, hv, q⟩
theorem Inv.lnew {its : List Value} {t' : Nat} (I : Inv X pins σ H s) (hv : Vals ys its) (hz : ys.length ≤ sizeLine) :
    Inv X pins σ (upd H s.heap.objs.size (.lst ys)) { s with heap := s.heap.push { cls := .type "list", data := .seq its.toArray }, toks := t' } :=
  I.laid (fun _ _ q => Heap.get?_push_of_some _ q) (Nat.le_refl _) ⟨hz, its, 0, hv, Heap.get?_push_size _ rfl⟩
theorem Inv.fresh (I : Inv X pins σ H s) : H s.heap.objs.size = none := I.hok.fresh (Nat.le_refl _)
theorem Inv.lstM (I : Inv X pins σ H s) (hH : H l = some (.lst xs)) : xs.length ≤ sizeLine ∧ ∃ (its : List Value) (n : Nat), Vals xs its ∧ xs.length = its.length ∧ s.heap.get? l = some { cls := .type "list", data := .seq its.toArray n } := by
  obtain ⟨z, its, n, r, e⟩ := I.hok l _ hH
  exact ⟨z, its, n, r, r.length, e⟩
end
section
variable {X : Cx}
def rAppend : V → List V → Hp → VK → Prop := fun x vs H Q => ∃ l xs y, x = .ref l ∧ vs = [y] ∧ H l = some (.lst xs) ∧ xs.length < sizeLine ∧ Q .non (upd H l (.lst (xs ++ [y])))
theorem mt_append : MtM X "list.append" rAppend := by
  intro pins s σ H x vs v us Q I rx rv h
  obtain ⟨l, xs, y, rfl, rfl, hH, hz, q⟩ := h
  cases rx
  obtain ⟨u, rfl, ru⟩ := rv.one
  obtain ⟨z, its, n, r, hl, e⟩ := I.lstM hH
  refine call_meets F.slot_list_append ⟨_, e, rfl⟩ F.entry_list_append (F.args_list_append_2 _ _) (PySem.list_append l its.toArray n u (by rw [List.size_toArray]; omega)) ⟨e, ?_⟩
  refine ⟨.non, _, I.lset (its' := its ++ [u]) hH e (by simp) (r.append (.cons ru .nil)) ?_, rfl, q⟩
  rw [List.length_append, List.length_singleton]
  omega
end
section
variable {prog : Program} {w : World} {A : Around} {E : Value → Shared → Prop} {s : Shared}
end
section
variable {X : Cx}
end
end L2
namespace Att
open PySem PySem.W PySem.Calls PyProof.Rows
theorem ints_of_wellAll {P : Params} {h : Heap} : ∀ (ns : List Int) (vs : List Value), WellAll P h vs (ns.map WData.int) → IntsAre vs ns := by
  intro ns
  induction ns with
  | nil =>
    intro vs w
    rw [List.map_nil] at w
    cases w
    exact .nil
  | cons n ns ih =>
    intro vs w
    rw [List.map_cons] at w
    cases w with
    | cons a b =>
      cases a
      exact .cons _ _ (ih _ b)
theorem script_of {l : OpenLaw} {n : Nat} (hn : l.most = some n) {P : Params} {h : Heap} {args : List WData} {vals : List Value}
    (hpre : l.row.toRowW.claim.pre args = true) (hwl : WellAll P h vals args) :
    ∃ a vs ns, vals = [Value.ref a] ∧ args = [WData.list (ns.map WData.int)] ∧ h.get? a = some { cls := .type "list", data := .seq vs.toArray } ∧ IntsAre vs ns ∧ ns.length ≤ n := by
  have hsh : WShape.hasAll [] args [.list .int] = true := (pre_splitW hpre).1
  have hc : l.pre.holds [] { args := args } = true := (pre_splitW hpre).2
  obtain ⟨d, r, rfl, h1, h2⟩ := hasAllW_cons hsh
  obtain rfl := hasAllW_nil h2
  obtain ⟨xs, rfl, h3⟩ := hasW_list h1
  obtain ⟨ns, rfl⟩ := items_int h3
  have hlen : ns.length ≤ n := by
    unfold OpenLaw.pre at hc
    have h4 : (WTm.not (.lt (.lit (.int (n : Int))) (.len (.arg 0)))).holds [] { args := [.list (ns.map .int)] } = true := by
      have h4 := (holds_andW hc).1
      rw [hn] at h4
      exact h4
    have h5 := condW_of h4 (w_not (w_lt w_lit (w_len_list (w_arg rfl))))
    rw [List.length_map] at h5
    refine Nat.le_of_not_lt fun q => ?_
    have q' : (n : Int) < ((ns.length : Nat) : Int) := by omega
    first
      | (rw [decide_eq_true q'] at h5; exact absurd h5 (by decide))
      | (simp at h5; omega)
  cases hwl with
  | cons w1 w2 =>
    cases w2
    cases w1 with
    | list ho hall => exact ⟨_, _, ns, rfl, rfl, ho, ints_of_wellAll ns _ hall, hlen⟩
theorem post_true (l : OpenLaw) (args : List WData) : l.row.toRowW.claim.post args (.bool true) args = true :=
  postW_of (r := l.row.toRowW) (X := (true == true))
    (show WShape.has [] (.bool true) .bool = true by first | rfl | decide | simp [WShape.has, WShape.arms, WShape.armsAll])
    (show (WTm.eq .res (.lit (.bool true))).value [] { args := args, res := some (.bool true), after := args } = some (.bool (true == true)) from w_eq_bool (w_res rfl) w_lit) rfl
theorem attach_call {l : OpenLaw} {n : Nat} {q : Program} {loose : List Str} {XP : (Str → Option Value) → Heap → Prop} {YP : World → Heap → Prop} {d : DefRec}
    (hn : l.most = some n) (hdf : d.params.defaults = [])
    (call : ∀ (w : World) (s₀ s₁ : Shared) (mg mb : Str → Option Value) (fa : Addr) (o : Obj) (pm cd doc : Value) (a : Addr) (vs : List Value) (ns : List Int),
      Ground q loose [] XP w s₀ mg mb s₁.heap → YP w s₁.heap →
      s₁.heap.get? fa = some o → o.data = .func (docDef d.name d.params d.body d.scope pm cd doc) → s₁.heap.CodeRec cd d.name → mg d.name = some (.ref fa) →
      s₁.heap.get? a = some { cls := .type "list", data := .seq vs.toArray } → IntsAre vs ns → ns.length ≤ n → s₁.gens = #[] →
      codeAny (model l.prog w) callerA (.call (.ref fa) ⟨[.ref a], []⟩) (fun r s' => r = .ok (.ret (.bool true)) ∧ OldK s₁.heap s'.heap ∧ s'.os = s₁.os ∧ AllBare s'.gens) s₁) :
    WalkO q loose XP YP l.row.toRowW d [] (fun f vs => PySem.call f vs) := by
  intro w s₀ s₁ mg mb G Y fa o pm cd doc dV kV ho hd hcd hD hmg hg args vals as hpre hlay hrd hwl hlo
  obtain rfl : dV = .none := Dflts.none hD hdf
  obtain rfl : kV = .none := Dflts.noKw hD
  obtain ⟨a, vs, ns, rfl, rfl, hobj, hints, hlen⟩ := script_of hn hpre hwl
  refine enter_call (codeAny_mono (call w s₀ s₁ mg mb fa o pm cd doc a vs ns G Y ho (fd_plain hd) hcd hmg hobj hints hlen hg) fun r s' hq => ?_)
  obtain ⟨rfl, h2, h3, h4⟩ := hq
  exact ⟨.inl ⟨.bool true, .bool true, [], rfl, fun _ => rfl, .bool true, post_true l _, fun _ => ⟨List.Pairwise.nil, fun _ hm => (nomatch hm)⟩⟩, h2, h3, h4⟩
section
variable {prog : Program} {w : World} {A : Around} {E : Value → Shared → Prop} {s : Shared} {K : Frag}
def ledger (h : Heap) (L d : Addr) : List (Addr × Obj) := (List.range h.objs.size).filterMap fun a => if a = L ∨ a = d then none else (h.get? a).map fun o => (a, o)
end
end Att
namespace L2
open PySem PySem.Spec PyProof.Rows
theorem vals_ints : ∀ {vs : List Value} {ns : List Int}, IntsAre vs ns → Vals (ns.map V.int) vs
  | _, _, .nil => .nil
  | _, _, .cons n t h => .cons ⟨t, rfl⟩ (vals_ints h)
def Only (H : Hp) : Prop := ∀ b, H b = none ∨ ∃ o xs, H b = some (.frz o (.lst xs))
theorem law_call {P : Program} {w : World} {K : PySem.W.Frag} {mg mb : Str → Option Value} {CX : CXT} {k : Nat} {fa a : Addr} {fd : FuncData} {x : Str} {sp : Sp} {s₁ : Shared} {vs : List Value} {ns : List Int}
    (KX : K.In s₁.heap) (hns : s₁.heap.Ns mainGlobals mg) (hb : s₁.heap.Ns builtinsNs mb) (hbb : ∀ x : Str, x ≠ "__name__" → mb x = bootBuiltins x) (hlim : s₁.heap.NoLimit) (hg : s₁.gens = #[])
    (ha : s₁.heap.get? a = some { cls := .type "list", data := .seq vs.toArray }) (hi : IntsAre vs ns) (hl : ns.length ≤ sizeLine) (hr : Room k callerA)
    (F : ∀ base : Heap, K.In base → base.Ns mainGlobals mg → FnOk P w K mg base CX k fa fd [x] sp) (hbind : ∀ (s : Shared) (u : Value), BindsTo s fd ⟨[u], []⟩ [(x, u)])
    (hsp : ∀ H : Hp, Only H → SqL K H a (ns.map V.int) → sp [.ref a] H (fun v _ => v = .bl true) fun _ _ _ => False)
    (hCX : ∀ H e s', CX [] H s₁ (fun _ _ _ => False) e s' → False) :
    codeAny (model P w) callerA (.call (.ref fa) ⟨[.ref a], []⟩) (fun r s' => r = .ok (.ret (.bool true)) ∧ OldK s₁.heap s'.heap ∧ s'.os = s₁.os ∧ AllBare s'.gens) s₁ := by
  have rv := vals_ints hi
  have lenV := hi.length
  have core : ∀ H : Hp, Only H → SqL K H a (ns.map V.int) → HOk P w H s₁.heap → (∀ b, H b ≠ none → b = a) → (H a ≠ none → K.lookup a = none) →
      codeAny (model P w) callerA (.call (.ref fa) ⟨[.ref a], []⟩) (fun r s' => r = .ok (.ret (.bool true)) ∧ OldK s₁.heap s'.heap ∧ s'.os = s₁.os ∧ AllBare s'.gens) s₁ := by
    intro H hO hS hok hA hK
    have base_of : ∀ {b : Addr} {o : Obj}, s₁.heap.get? b = some o → H b = none → (hidT s₁.heap H).get? b = some o := fun e n => hidT_get e n
    have noA : ∀ {b : Addr} {o : Obj} {es : Array DictEntry} {ep : Nat}, s₁.heap.get? b = some o → o.data = .dict es ep → H b = none := fun {b o es ep} e d => by
      cases q : H b with
      | none => rfl
      | some u =>
        have e' : b = a := hA b (by rw [q]; simp)
        subst e'
        rw [ha] at e; cases e
        have d' : Data.seq vs.toArray _ = Data.dict es ep := d
        cases d'
    have nsK : ∀ {b : Addr} {m : Str → Option Value}, s₁.heap.Ns b m → (hidT s₁.heap H).Ns b m := fun {b m} ⟨o, es, ep, e, d, r⟩ => ⟨o, es, ep, base_of e (noA e d), d, r⟩
    have hKb : K.In (hidT s₁.heap H) := fun b o e => base_of (KX b o e) (by
      cases q : H b with
      | none => rfl
      | some u =>
        have e' : b = a := hA b (by rw [q]; simp)
        subst e'
        rw [hK (by rw [q]; simp)] at e; cases e)
    have hM : Mod K mg (hidT s₁.heap H) := ⟨hKb, nsK hns, ⟨mb, nsK hb, hbb⟩, let ⟨mc, h1, h2⟩ := hlim; ⟨mc, nsK h1, h2⟩⟩
    have e0 : Env0 P w K mg (hidT s₁.heap H) callerA [] s₁ H := ⟨rfl, hM, fun b o e => of_hidT e, Nat.le_of_eq (hidT_size _ _), trivial, fun b hb => absurd (show b ∈ ([] : List Addr) from hb) (by simp), hok, .of_eq hg⟩
    refine codeAny_mono ((F _ hKb (nsK hns)).run callerA [] s₁ H ⟨[.ref a], []⟩ [.ref a] [.ref a] _ _ hr e0 (hbind s₁ (.ref a)) (.cons rfl .nil) (hsp H hO hS)) fun r s' h => ?_
    cases r with
    | error e => exact (hCX H e s' h).elim
    | ok fl =>
      cases fl with
      | next => exact False.elim h
      | brk => exact False.elim h
      | cont => exact False.elim h
      | ret u =>
        obtain ⟨v, H', os, bare, un, hok', r', q⟩ := h
        have q' : v = .bl true := q
        subst q'
        obtain rfl : u = Value.bool true := r'
        refine ⟨rfl, OldK.of_keep fun b o e => ?_, os, bare⟩
        cases q : H b with
        | none => exact un.keep b o e q (by intro z; exact absurd (show b ∈ ([] : List Addr) from z) (by simp)) (by simp)
        | some u =>
          rcases hO b with z | ⟨ob, xs, z⟩
          · rw [q] at z; cases z
          · have z2 := un.frzs b ob _ z
            obtain ⟨e1, _⟩ := hok b _ z
            obtain ⟨e2, _⟩ := hok' b _ z2
            rw [e] at e1; cases e1
            exact e2
  cases hk : K.lookup a with
  | some o =>
    have e := KX a o hk
    rw [ha] at e
    cases e
    refine core (fun _ => none) (fun _ => .inl rfl) (.inr ⟨_, vs.toArray, _, hk, rfl, rfl, rfl, by rw [List.size_toArray, lenV]; exact hl, by simpa using rv⟩) (fun b u z => by have z' : (none : Option HO) = some u := z; cases z') (fun b z => absurd rfl z) fun z => absurd rfl z
  | none =>
    refine core (fun b => if b = a then some (.frz { cls := .type "list", data := .seq vs.toArray } (.lst (ns.map V.int))) else none) (fun b => ?_) (.inl (.inr ⟨{ cls := .type "list", data := .seq vs.toArray }, if_pos rfl⟩)) (fun b u z => ?_) (fun b z => ?_) fun _ => hk
    · by_cases hb : b = a
      · exact .inr ⟨_, _, if_pos hb⟩
      · exact .inl (if_neg hb)
    · by_cases hb : b = a
      · have z' := (if_pos hb).symm.trans z
        cases z'
        subst hb
        exact ⟨ha, by rw [List.length_map]; exact hl, vs, _, rv, ha⟩
      · have z' := (if_neg hb).symm.trans z
        cases z'
    · by_cases hb : b = a
      · exact hb
      · exact absurd (if_neg hb) z
end L2
namespace L2
open PySem PySem.Spec PyProof.Rows
abbrev KOf {K : PySem.W.Frag} {h : Heap} (_ : K.In h) : PySem.W.Frag := K
theorem walk_of {l : PySem.W.OpenLaw} {n k : Nat} {q : Program} {loose : List Str} {XP : (Str → Option Value) → Heap → Prop} {YP : World → Heap → Prop} {d : DefRec} {K : Params → PySem.W.Frag} {CX : World → CXT} {sp : World → Sp} {x : Str}
    (hn : l.most = some n) (hn2 : n ≤ sizeLine) (hdf : d.params.defaults = []) (hr : Room k callerA)
    (hY : ∀ (w : World) (h : Heap), YP w h → (K w.params).In h)
    (F : ∀ (w : World) (mg : Str → Option Value) (fa : Addr) (h : Heap), (K w.params).In h → h.Ns mainGlobals mg → mg d.name = some (.ref fa) →
      ∃ fd : FuncData, (∀ (s : Shared) (u : Value), BindsTo s fd ⟨[u], []⟩ [(x, u)]) ∧
        ∀ base : Heap, (K w.params).In base → base.Ns mainGlobals mg → FnOk l.prog w (K w.params) mg base (CX w) k fa fd [x] (sp w))
    (hsp : ∀ (w : World) (H : Hp) (a : Addr) (ns : List Int), ns.length ≤ n → Only H → SqL (K w.params) H a (ns.map V.int) → sp w [.ref a] H (fun v _ => v = .bl true) fun _ _ _ => False)
    (hCX : ∀ (w : World) (H : Hp) (s : Shared) (e : Value) (s' : Shared), CX w [] H s (fun _ _ _ => False) e s' → False) :
    PySem.W.WalkO q loose XP YP l.row.toRowW d [] (fun f vs => PySem.call f vs) := by
  refine Att.attach_call hn hdf fun w s₀ s₁ mg mb fa o pm cd doc a vs ns G Y ho hd hcd hmg hobj hints hlen hg => ?_
  have KX := hY w _ Y
  obtain ⟨fd, hb, hF⟩ := F w mg fa _ KX G.T.g hmg
  exact law_call KX G.T.g G.T.b G.T.builtins G.T.nolimit hg hobj hints (Nat.le_trans hlen hn2) hr hF hb (fun H hO hS => hsp w H a ns hlen hO hS) fun H e s' => hCX w H s₁ e s'
end L2
namespace L2
open PySem PySem.Spec PyProof.Rows
def inClass (s : Stmt) (j : Nat) : Stmt := match s with
  | .ClassDef _ _ _ body _ _ _ _ _ _ _ => body.getD j (.Pass ⟨0, 0, 0, 0⟩)
  | _ => .Pass ⟨0, 0, 0, 0⟩
def defArgs (s : Stmt) : Arguments := match s with
  | .FunctionDef _ a _ _ _ _ _ _ _ _ => a
  | _ => { posonlyargs := [], args := [], vararg := none, kwonlyargs := [], kw_defaults := [], kwarg := none, defaults := [] }
def defBody (s : Stmt) : List Stmt := match s with
  | .FunctionDef _ _ b _ _ _ _ _ _ _ => b
  | _ => []
def defScope (s : Stmt) : Scope := match s with
  | .FunctionDef _ _ _ _ _ _ sc _ _ _ => sc
  | _ => { kind := .function, names := [], isGenerator := false, isCoroutine := false }
structure Fun (K : PySem.W.Frag) (x qual : Str) (st : Stmt) (f : Addr) (fd : FuncData) : Prop where
  ex : ∃ (oc : Value) (od : Option Addr) (kV doc pm : Value) (an : Option Addr) (cdv ct : Value) (osl : Array (Option Value)),
    fd = PySem.W.fnOf x qual (defArgs st) (defBody st) (defScope st) .none kV doc pm an cdv ct ∧ K.lookup f = some ⟨oc, od, .func fd, osl⟩ ∧ PySem.W.codeIn K cdv qual = true
  kp : PySem.W.keepIn K (.ref f) = true
section
variable {P : Program} {w : World} {K : PySem.W.Frag} {mg : Str → Option Value} {base : Heap}
theorem Fun.binds {x qual : Str} {st : Stmt} {f : Addr} {fd : FuncData} {ps : List Str} (F : Fun K x qual st f fd)
    (h : ∀ (kV doc pm : Value) (an : Option Addr) (cdv ct : Value) (us : List Value), us.length = ps.length → bindArgs (PySem.W.fnOf x qual (defArgs st) (defBody st) (defScope st) .none kV doc pm an cdv ct) ⟨us, []⟩ = pure (ps.zip us)) : Binds K fd ps [] := by
  obtain ⟨oc, od, kV, doc, pm, an, cdv, ct, osl, rfl, lk, hcd⟩ := F.ex
  exact .all (h kV doc pm an cdv ct)
theorem fun_mk {x qual : Str} {st : Stmt} {f : Addr} {oc : Value} {od an : Option Addr} {osl : Array (Option Value)} {kV doc pm cdv ct : Value} (l : K.lookup f = some ⟨oc, od, .func (PySem.W.fnOf x qual (defArgs st) (defBody st) (defScope st) .none kV doc pm an cdv ct), osl⟩)
    (c : PySem.W.codeIn K cdv qual = true) (k : PySem.W.keepIn K (.ref f) = true) : Fun K x qual st f (PySem.W.fnOf x qual (defArgs st) (defBody st) (defScope st) .none kV doc pm an cdv ct) := ⟨⟨oc, od, kV, doc, pm, an, cdv, ct, osl, rfl, l, c⟩, k⟩
end
section
variable {X : Cx}
end
def Same (H H' : Hp) : Prop := ∀ b o, H b = some o → H' b = some o
end L2
end
section
set_option linter.all false
set_option maxRecDepth 100000
namespace NH
open PySem
def XNew (h : Heap) (x : Addr) (cls : Value) (d : Option Addr) : Prop := ∃ oe vs a0, h.get? x = some oe ∧ (oe.cls = cls ∧ oe.dict = d) ∧ oe.data = .fields vs ∧ vs[0]? = some a0 ∧ vs[1]? = some .none
def XTr (h : Heap) (x T : Addr) (cls : Value) (d : Option Addr) (fl : Value) : Prop := ∃ oe vs a0 oT ts, h.get? x = some oe ∧ (oe.cls = cls ∧ oe.dict = d) ∧ oe.data = .fields vs ∧ vs[0]? = some a0 ∧ vs[1]? = some (.ref T) ∧ T ≠ x ∧ h.get? T = some oT ∧ oT.data = .fields ts ∧ ts[3]? = some fl
def XRec (h : Heap) (x : Addr) (cls : Value) (d : Option Addr) : Option Addr → Value → Prop
  | none, fl => XNew h x cls d ∧ fl = .none
  | some T, fl => XTr h x T cls d fl
structure XMove (fs : List Addr) (x : Addr) (T T' : Option Addr) (h h' : Heap) : Prop where
  keep : ∀ b o, h.get? b = some o → b ∉ fs → b ≠ x → b ∉ T.toList → h'.get? b = some o
  slot : ∀ b o, h.get? b = some o → b ∈ fs → b ≠ x → b ∉ T.toList → ∃ sl, h'.get? b = some { o with slots := sl }
  newT : ∀ t ∈ T'.toList, t ∈ T.toList ∨ h.objs.size ≤ t
theorem XMove.refl (fs : List Addr) (x : Addr) (T : Option Addr) (h : Heap) : XMove fs x T T h h := ⟨fun _ _ e _ _ _ => e, fun _ o e _ _ _ => ⟨o.slots, e⟩, fun _ ht => .inl ht⟩
theorem dict_mapFields (o : Obj) (f : Array Value → Array Value) : (Obj.mapFields f o).dict = o.dict := by
  obtain ⟨c, d, dt, sl⟩ := o
  cases dt <;> rfl
section
variable {M : Model} {A : Around} {E : Value → Shared → Prop} {s : Shared}
theorem frame_of {base : Heap} {env e0 : Env} {outer : List Env} {L : Addr} {Q : Value → Shared → Prop} (hfr : A.frames = some (e0 :: outer)) (hl : s.heap.FunFrames base (e0 :: outer))
    (hf : env.frame = some L) (h0 : e0.frame = some L) (h : ∀ h', Heap.SlotsOnly ((e0 :: outer).filterMap (·.frame)) s.heap h' → Q (.ref L) { s with heap := h' }) : wpAny M A (frameOf env) Q E s := by
  unfold frameOf
  refine wpAny_bind (wpAny_frameEnvs hfr ?_)
  have hw : ((e0 :: outer).dropWhile fun y => y.frame != env.frame) = e0 :: outer := by simp [List.dropWhile, hf, h0]
  rw [hw]
  unfold frameObject
  refine wpAny_bind (wpAny_bind (wpAny_readyFrames_fun hl fun h1 q1 => wpAny_pure ?_))
  rw [h0]
  exact wpAny_pure (h h1 q1)
theorem entry_laid {base : Heap} {env e0 : Env} {outer : List Env} {L x : Addr} {cls head : Value} {d T : Option Addr} {had : Bool} {oe : Obj} {vs : Array Value} {a0 : Value} {Q : Unit → Shared → Prop}
    (hfr : A.frames = some (e0 :: outer)) (hl : s.heap.FunFrames base (e0 :: outer)) (hf : env.frame = some L) (h0 : e0.frame = some L)
    (ho : s.heap.get? x = some oe) (hc : oe.cls = cls ∧ oe.dict = d) (hd : oe.data = .fields vs) (hv0 : vs[0]? = some a0) (hsz : 1 < vs.size)
    (h : ∀ h' t, XTr h' x t cls d (rawInt L) → XMove ((e0 :: outer).filterMap (·.frame)) x T (some t) s.heap h' → s.heap.objs.size ≤ t → Q () { s with heap := h' }) :
    wpAny M A (do let a ← frameOf env; let pl ← entryPlaceOf L had; let b ← EntryCells.newEntry head a .none (rawInt L) .none pl; setField (.ref x) 1 b) Q E s := by
  have nin : x ∉ (e0 :: outer).filterMap (·.frame) := fun hm => by
    obtain ⟨_, o, ho', nf⟩ := hl.mem hm
    rw [ho] at ho'; cases ho'; exact nf vs hd
  refine wpAny_bind (frame_of hfr hl hf h0 fun h1 q1 => ?_)
  refine wpAny_bind (wpAny_entryPlaceOf fun pl hpl => ?_)
  unfold EntryCells.newEntry newFields
  refine wpAny_bind (wpAny_newObj_type ?_ (hpl.sizeOk5 _ _ _ _ _))
  have e1 : h1.get? x = some oe := (q1.2.1 x nin).trans ho
  generalize hob : ({ cls := .type "traceback", dict := none, data := .fields ([head, .ref L, .none, rawInt L, .none] ++ (if pl.isEmpty then List.replicate 6 Value.none else pl)).toArray } : Obj) = ob
  have e2 := Heap.get?_push_of_some (h := h1) ob e1
  have hdata : ob.data = .fields ([head, .ref L, .none, rawInt L, .none] ++ (if pl.isEmpty then List.replicate 6 Value.none else pl)).toArray := by rw [← hob]
  have hfree : ob.isFreed = false := by rw [← hob]; rfl
  refine wpAny_setField e2 hd hsz ?_
  have tx : h1.objs.size ≠ x := Nat.ne_of_gt (Heap.lt_size e1)
  have d3 := Obj.data_mapFields hd (·.setIfInBounds 1 (Value.ref h1.objs.size))
  have e3 := Heap.get?_update_self (Obj.mapFields (·.setIfInBounds 1 (Value.ref h1.objs.size))) e2 (Obj.isFreed_of_fields d3)
  have other : ∀ b o, b ≠ x → h1.get? b = some o → ((h1.push ob).update x (Obj.mapFields (·.setIfInBounds 1 (Value.ref h1.objs.size)))).get? b = some o := fun b o hb e => by
    rw [Heap.get?_update_other _ _ (Ne.symm hb)]; exact Heap.get?_push_of_some _ e
  refine h _ h1.objs.size ⟨_, _, a0, ob, _, e3, ⟨(Obj.cls_mapFields _ _).trans hc.1, (dict_mapFields _ _).trans hc.2⟩, d3, by rw [Array.getElem?_setIfInBounds_ne (by decide)]; exact hv0, by simp [hsz], tx, ?_, hdata, ?_⟩ ⟨fun b o e nb nx _ => ?_, fun b o e _ nx _ => ?_, fun t ht => .inr ?_⟩ (Nat.le_of_eq q1.1.symm)
  · rw [Heap.get?_update_other _ _ (Ne.symm tx)]; exact Heap.get?_push_size _ hfree
  · first | (simp; done) | (rcases hpl with rfl | ⟨_, _, _, _, _, _, _, rfl⟩ <;> simp)
  · exact other b o nx ((q1.2.1 b nb).trans e)
  · obtain ⟨sl, e'⟩ := q1.2.2 b o e
    exact ⟨sl, other b _ nx e'⟩
  · have : t = h1.objs.size := by simpa using ht
    rw [this]; exact Nat.le_of_eq q1.1.symm
theorem note_any {base : Heap} {env e0 : Env} {outer : List Env} {L x : Addr} {cls : Value} {d T : Option Addr} {fl : Value} {Q : Unit → Shared → Prop}
    (hfr : A.frames = some (e0 :: outer)) (hl : s.heap.FunFrames base (e0 :: outer)) (hf : env.frame = some L) (h0 : e0.frame = some L) (hx : XRec s.heap x cls d T fl) (hfl : fl = .none ∨ fl = rawInt L)
    (h : ∀ h' t, XTr h' x t cls d (rawInt L) → XMove ((e0 :: outer).filterMap (·.frame)) x T (some t) s.heap h' → Q () { s with heap := h' }) : wpAny M A (noteFrame (.ref x) env) Q E s := by
  unfold noteFrame
  simp only [hf]
  cases T with
  | none =>
    obtain ⟨⟨oe, vs, a0, ho, hc, hd, hv0, hv1⟩, _⟩ := hx
    refine wpAny_bind (wpAny_field ho hd hv1 ?_)
    rw [if_neg (by decide)]
    exact entry_laid (T := none) hfr hl hf h0 ho hc hd hv0 (Array.getElem?_eq_some_iff.mp hv1).1 fun h' t a b _ => h h' t a b
  | some T =>
    obtain ⟨oe, vs, a0, oT, ts, ho, hc, hd, hv0, hv1, hT, hoT, hdT, h3⟩ := hx
    refine wpAny_bind (wpAny_field ho hd hv1 ?_)
    rw [if_pos (show (Value.ref T != Value.none) = true from by simp)]
    refine wpAny_bind (wpAny_field hoT hdT h3 ?_)
    by_cases hq : fl = rawInt L
    · subst hq
      rw [if_pos (show (rawInt L == rawInt L) = true from by simp)]
      exact wpAny_pure (h s.heap T ⟨oe, vs, a0, oT, ts, ho, hc, hd, hv0, hv1, hT, hoT, hdT, h3⟩ (XMove.refl _ _ _ _))
    · obtain rfl : fl = .none := hfl.resolve_right hq
      rw [if_neg (show ¬ ((Value.none == rawInt L) = true) from by simp [rawInt])]
      refine wpAny_bind (wpAny_setField hoT hdT (Array.getElem?_eq_some_iff.mp h3).1 ?_)
      have oth : ∀ b, b ≠ T → (s.heap.update T (Obj.mapFields (·.setIfInBounds 3 Value.none))).get? b = s.heap.get? b := fun b hb => Heap.get?_update_other _ _ (Ne.symm hb)
      have fr : ∀ b ∈ (e0 :: outer).filterMap (·.frame), b ≠ T := fun b hb z => by
        obtain ⟨_, o, ho', nf⟩ := hl.mem hb
        rw [z, hoT] at ho'; cases ho'; exact nf ts hdT
      refine entry_laid (T := some T) (s := { s with heap := s.heap.update T (Obj.mapFields (·.setIfInBounds 3 Value.none)) }) (base := base) hfr (hl.of_keeps fun b o e nf => ⟨o, (oth b fun z => ?_).trans e, rfl⟩) hf h0 ((oth x (Ne.symm hT)).trans ho) hc hd hv0 (Array.getElem?_eq_some_iff.mp hv1).1 fun h' t a b c => h h' t a ⟨?_, ?_, ?_⟩
      · rw [z, hoT] at e; cases e; exact nf ts hdT
      · exact fun d o e n1 n2 n3 => b.keep d o ((oth d fun z => n3 (by simp [z])).trans e) n1 n2 n3
      · exact fun d o e n1 n2 n3 => b.slot d o ((oth d fun z => n3 (by simp [z])).trans e) n1 n2 n3
      · intro t' ht'
        rcases b.newT t' ht' with z | z
        · exact .inl z
        · refine .inr (Nat.le_trans (Nat.le_of_eq ?_) z)
          exact (Heap.size_after_update ..).symm
theorem flight_any {x T : Addr} {cls fl : Value} {d fr : Option Addr} {fs : List Addr} {Q : Unit → Shared → Prop} (hx : XTr s.heap x T cls d fl)
    (h : ∀ h', XTr h' x T cls d (fr.elim .none fun f => rawInt f) → XMove fs x (some T) (some T) s.heap h' → Q () { s with heap := h' }) : wpAny M A (setFlight (.ref x) fr) Q E s := by
  obtain ⟨oe, vs, a0, oT, ts, ho, hc, hd, hv0, hv1, hT, hoT, hdT, h3⟩ := hx
  have sz : 3 < ts.size := (Array.getElem?_eq_some_iff.mp h3).1
  unfold setFlight
  refine wpAny_bind (wpAny_field ho hd hv1 ?_)
  rw [if_pos (show (Value.ref T != Value.none) = true from by simp)]
  refine wpAny_setField hoT hdT sz ?_
  have oth : ∀ b, b ≠ T → (s.heap.update T (Obj.mapFields (·.setIfInBounds 3 (fr.elim .none fun f => rawInt f)))).get? b = s.heap.get? b := fun b hb => Heap.get?_update_other _ _ (Ne.symm hb)
  have dT := Obj.data_mapFields hdT (·.setIfInBounds 3 (fr.elim Value.none fun f => rawInt f))
  exact h _ ⟨oe, vs, a0, _, _, (oth x (Ne.symm hT)).trans ho, hc, hd, hv0, hv1, hT, Heap.get?_update_self _ hoT (Obj.isFreed_of_fields dT), dT, by simp [sz]⟩
    ⟨fun b o e _ _ n => (oth b fun z => n (by simp [z])).trans e, fun b o e _ _ n => ⟨o.slots, (oth b fun z => n (by simp [z])).trans e⟩, fun t ht => .inl ht⟩
end
end NH
end
section
set_option linter.all false
set_option maxRecDepth 100000
set_option maxHeartbeats 4000000
namespace NH
open PySem PySem.Spec PyProof.Rows L2
abbrev St := L2.St
theorem objOk_get {P : Program} {w : World} {H : Hp} {h : Heap} {a : Addr} {o : HO} (x : ObjOk P w H h a o) : ∃ ob, h.get? a = some ob := by
  cases o with
  | lst xs => obtain ⟨_, _, _, _, e⟩ := x; exact ⟨_, e⟩
  | tup xs => obtain ⟨_, _, _, ob, e, _⟩ := x; exact ⟨ob, e⟩
  | dK kvs => obtain ⟨_, _, _, _, o, _, _, e, _⟩ := x; exact ⟨o, e⟩
  | dT kvs => obtain ⟨_, _, _, _, o, _, _, e, _⟩ := x; exact ⟨o, e⟩
  | set S n => obtain ⟨o, _, _, _, e, _⟩ := x; exact ⟨o, e⟩
  | ins C dx fs => obtain ⟨_, _, _, e, _⟩ := x; exact ⟨_, e⟩
  | own y => obtain ⟨o, e⟩ := x; exact ⟨o, e⟩
  | xd fs => obtain ⟨_, ⟨o, _, _, e, _⟩, _⟩ := x; exact ⟨o, e⟩
  | rng lo hi => obtain ⟨_, _, _, e⟩ := x; exact ⟨_, e⟩
  | frz ob u => obtain ⟨e, _⟩ := x; exact ⟨_, e⟩
  | tbl ps => exact ⟨_, (show h.get? a = some _ from x)⟩
  | met f y => exact ⟨_, (show h.get? a = some _ from x)⟩
  | ext φ => obtain ⟨_, ⟨o, e⟩, _⟩ := x; exact ⟨o, e⟩
structure XOk (X : Cx) (H : Hp) (b : Addr) : Prop where
  free : H b = none
  loc : b ≠ X.env.locals
  nfs : b ∉ X.fs
  new : b ∈ X.ex ∨ X.s₀.heap.get? b = none
  cel : ∀ x c, X.env.cells.lookup x = some c → c ≠ b
  pin : ∀ p ∈ X.pn, p.1 ≠ b
section
variable {X : Cx} {pins : List (Addr × Obj)} {σ : St} {H H' : Hp} {s : Shared} {h' : Heap}
theorem inv_tracked (I : Inv X pins σ H s) {b : Addr} (e : s.heap.get? b = none) : H b = none := by
  cases q : H b with
  | none => rfl
  | some o =>
    obtain ⟨ob, z⟩ := objOk_get (I.hok b o q)
    rw [e] at z; cases z
theorem inv_xok (I : Inv X pins σ H s) {b : Addr} (e : s.heap.get? b = none) : XOk X H b := by
  refine ⟨inv_tracked I e, fun z => ?_, fun z => ?_, ?_, fun x c q z => ?_, fun p hp z => ?_⟩
  · obtain ⟨m, ⟨o, _, _, ho, _⟩, _⟩ := I.loc
    rw [← z, e] at ho; cases ho
  · obtain ⟨_, o, ho, _⟩ := I.funs.mem z
    rw [e] at ho; cases ho
  · by_cases hx : b ∈ X.ex
    · exact .inl hx
    · refine .inr ?_
      cases q : X.s₀.heap.get? b with
      | none => rfl
      | some o =>
        obtain ⟨o', z⟩ := I.base.there b o q hx
        rw [e] at z; cases z
  · obtain ⟨v, o, ho, _⟩ := I.cell x c q
    rw [z, e] at ho; cases ho
  · have := (I.pin p (List.mem_append_left _ hp)).1
    rw [z, e] at this; cases this
theorem inv_step {ch : List Addr} (I : Inv X pins σ H s) (hch : ∀ b ∈ ch, XOk X H b ∧ ∀ p ∈ pins, p.1 ≠ b)
    (keep : ∀ b o, b ∉ frs X.stack → b ∉ ch → s.heap.get? b = some o → h'.get? b = some o)
    (slot : ∀ b o, b ∈ frs X.stack → b ∉ ch → s.heap.get? b = some o → ∃ sl, h'.get? b = some { o with slots := sl }) :
    Inv X pins σ H { s with heap := h' } := by
  have tr : ∀ b u, H b = some u → b ∉ ch := fun b u e z => by rw [(hch b z).1.free] at e; cases e
  have trf : ∀ b u, H b = some u → b ∉ frs X.stack := fun b u e z => by rw [I.stkFree b z] at e; cases e
  have any : ∀ b o, b ∉ ch → s.heap.get? b = some o → ∃ sl, h'.get? b = some { o with slots := sl } := fun b o hb e => by
    by_cases hf : b ∈ frs X.stack
    · exact slot b o hf hb e
    · exact ⟨o.slots, keep b o hf hb e⟩
  have inf : ∀ b, b ≠ X.env.locals → b ∉ X.fs → b ∉ frs X.stack := fun b h1 h2 z => (List.mem_cons.mp (I.stkSub b z)).elim h1 h2
  have nec : ∀ b o, X.s₀.heap.get? b = some o → b ∉ X.ex → b ∉ ch := fun b o e hx z => by
    rcases (hch b z).1.new with q | q
    · exact hx q
    · rw [e] at q; cases q
  have neL : ∀ b o, X.s₀.heap.get? b = some o → b ≠ X.env.locals := fun b o e => Nat.ne_of_lt (Nat.lt_of_lt_of_le (Heap.lt_size e) I.ok.above)
  have cellK : ∀ x c, X.env.cells.lookup x = some c → ∀ v, s.heap.IsCell c v → h'.IsCell c v := fun x c e v ⟨o, ho, hd⟩ => by
    obtain ⟨sl, q⟩ := any c o (fun z => (hch c z).1.cel x c e rfl) ho
    exact ⟨_, q, hd⟩
  refine ⟨I.ok, I.os, I.bare, ⟨fun b o e n hb hx => ?_, fun b o e n hb hx => ?_, fun b o e n hx => I.base.free b o e n hx, fun b o e hx => ?_, fun b xs e => I.base.tups b xs e, fun b o xs e => I.base.frzs b o xs e, fun b ps e => I.base.tbls b ps e⟩, ?_, fun x c e => ?_, I.free, fun x c e => I.freeC x c e, fun p hp => ?_, fun b u e => ?_, I.len⟩
  · exact keep b o (inf b (neL b o e) hb) (nec b o e hx) (I.base.keep b o e n hb hx)
  · obtain ⟨sl, e1⟩ := I.base.slot b o e n hb hx
    obtain ⟨sl', e2⟩ := any b _ (nec b o e hx) e1
    exact ⟨sl', e2⟩
  · obtain ⟨o', e1⟩ := I.base.there b o e hx
    obtain ⟨sl, e2⟩ := any b o' (nec b o e hx) e1
    exact ⟨_, e2⟩
  · obtain ⟨m, ⟨o, es, ep, ho, r⟩, hl⟩ := I.loc
    obtain ⟨sl, hL⟩ := any X.env.locals o (fun z => (hch _ z).1.loc rfl) ho
    refine ⟨m, ⟨_, es, ep, hL, r⟩, fun i x v e1 e2 e3 => ?_⟩
    obtain ⟨u, ru, l⟩ := hl i x v e1 e2 e3
    refine ⟨u, ru, ?_⟩
    rcases l with l | ⟨k, c, e, z⟩
    · exact .inl l
    · exact .inr ⟨k, c, e, cellK x c e _ z⟩
  · obtain ⟨v, z⟩ := I.cell x c e
    exact ⟨v, cellK x c e v z⟩
  · obtain ⟨e, n, ne, nf, d⟩ := I.pin p hp
    have nch : p.1 ∉ ch := fun z => by
      rcases List.mem_append.mp hp with q | q
      · exact (hch p.1 z).1.pin p q rfl
      · exact (hch p.1 z).2 p q rfl
    exact ⟨keep p.1 p.2 (inf p.1 ne nf) nch e, n, ne, nf, d⟩
  · refine (I.hok b u e).stay (fun c v hc q => ?_) (fun _ q => q) fun _ _ q => q
    rcases hc with z | z
    · subst z; exact keep c v (trf c u e) (tr c u e) q
    · exact keep c v (trf c _ z) (tr c _ z) q
structure Frm (X : Cx) (e0 : Env) (out : List Env) (L : Addr) : Prop where
  stk : X.stack = e0 :: out
  f0 : e0.frame = some L
  fe : X.env.frame = some L
abbrev XW := Value → Option Addr → St → Hp → Prop
def XP (X : Cx) (W : XW) (e : Value) (s : Shared) : Prop :=
  ∃ (x : Addr) (cls : Value) (d : Option Addr) (σ : St) (H : Hp) (T : Option Addr) (fl : Value), e = .ref x ∧ Inv X [] σ H s ∧ XOk X H x ∧ (∀ t ∈ T.toList, XOk X H t) ∧ XRec s.heap x cls d T fl ∧ (fl = .none ∨ ∃ L, X.env.frame = some L ∧ fl = rawInt L) ∧ W cls d σ H
theorem xp_move {x : Addr} {T : Option Addr} {t : Addr} (I : Inv X [] σ H s) (ox : XOk X H x) (ot : ∀ t ∈ T.toList, XOk X H t) (mv : XMove (frs X.stack) x T (some t) s.heap h') :
    Inv X [] σ H { s with heap := h' } ∧ XOk X H t := by
  refine ⟨inv_step (ch := x :: T.toList) I (fun b hb => ⟨?_, fun p hp => absurd hp (by simp)⟩) (fun b o hf hc e => ?_) (fun b o hf hc e => ?_), ?_⟩
  · rcases List.mem_cons.mp hb with z | z
    · rw [z]; exact ox
    · exact ot b z
  · exact mv.keep b o e hf (fun z => hc (by simp [z])) (fun z => hc (List.mem_cons_of_mem _ z))
  · exact mv.slot b o e hf (fun z => hc (by simp [z])) (fun z => hc (List.mem_cons_of_mem _ z))
  · rcases mv.newT t (by simp) with z | z
    · exact ot t z
    · exact inv_xok I (Heap.get?_none_of_le z)
theorem xp_note {M : Model} {A : Around} {E : Value → Shared → Prop} {W : XW} {e : Value} {e0 : Env} {out : List Env} {L : Addr} {Q : Unit → Shared → Prop} (F : Frm X e0 out L) (hfr : A.frames = some X.stack) (p : XP X W e s)
    (h : ∀ x cls d σ H T h', e = .ref x → Inv X [] σ H { s with heap := h' } → XOk X H x → XOk X H T → XTr h' x T cls d (rawInt L) → W cls d σ H → Q () { s with heap := h' }) : wpAny M A (noteFrame e X.env) Q E s := by
  obtain ⟨x, cls, d, σ, H, T, fl, rfl, I, ox, ot, hr, hfl, w⟩ := p
  have hst := I.stack
  rw [F.stk] at hfr hst
  refine note_any hfr hst F.fe F.f0 hr (hfl.imp_right fun ⟨L', e1, e2⟩ => by rw [F.fe] at e1; cases e1; exact e2) fun h' t tr mv => ?_
  have mv' : XMove (frs X.stack) x T (some t) s.heap h' := by rw [F.stk]; exact mv
  obtain ⟨I', o'⟩ := xp_move I ox ot mv'
  exact h x cls d σ H t h' rfl I' ox o' tr w
theorem xp_flight {M : Model} {A : Around} {E : Value → Shared → Prop} {x T : Addr} {cls fl : Value} {d fr : Option Addr} {Q : Unit → Shared → Prop} (I : Inv X [] σ H s) (ox : XOk X H x) (oT : XOk X H T) (tr : XTr s.heap x T cls d fl)
    (h : ∀ h', Inv X [] σ H { s with heap := h' } → XTr h' x T cls d (fr.elim .none fun f => rawInt f) → Q () { s with heap := h' }) : wpAny M A (setFlight (.ref x) fr) Q E s := by
  refine flight_any (fs := frs X.stack) tr fun h' tr' mv => h h' (xp_move (T := some T) I ox (fun t ht => ?_) mv).1 tr'
  have : t = T := by simpa using ht
  rw [this]; exact oT
theorem xp_passes {W : XW} {M : Model} {e0 : Env} {out : List Env} {L : Addr} (F : Frm X e0 out L) (hfr : X.A.frames = some X.stack) : PassesOwn M X.A X.env (XP X W) := by
  intro e s p
  unfold notedBy
  refine xp_note F hfr p fun x cls d σ H T h' ee I ox oT tr w => ?_
  subst ee
  unfold cameBackBy
  obtain ⟨oe, vs, a0, oT', ts, ho, hc, hd, hv0, hv1, hT, hoT, hdT, h3⟩ := id tr
  refine wpAny_bind (wpAny_field ho hd hv1 ?_)
  rw [if_neg (show ¬ ((Value.ref T == Value.none) = true) from by simp)]
  rw [F.fe]
  have go : wpAny M X.A (setFlight (.ref x) (some L)) (fun _ s'' => XP X W (.ref x) s'') (XP X W) { s with heap := h' } :=
    xp_flight (s := { s with heap := h' }) I ox oT tr fun h2 I2 tr2 => ⟨x, cls, d, σ, H, some T, rawInt L, rfl, I2, ox, fun t ht => by
      have : t = T := by simpa using ht
      rw [this]; exact oT, tr2, .inr ⟨L, F.fe, rfl⟩, w⟩
  first | exact go | exact wpAny_bind (wpAny_pure go)
def CX1 (P : Program) (w : World) : CXT := fun outer H s E e s' =>
  ∃ (x T : Addr) (cls : Value) (d : Option Addr) (H' : Hp), e = .ref x ∧ s'.os = s.os ∧ AllBare s'.gens ∧ Un (frs outer) [] H H' s.heap s'.heap ∧ HOk P w H' s'.heap ∧ s.heap.get? x = none ∧ s.heap.get? T = none ∧ H' x = none ∧ H' T = none ∧ XTr s'.heap x T cls d .none ∧ E cls d H'
def wOf (E : XK) : XW := fun c d _ H => E c d H
theorem xp_leave {M : Model} {E : XK} {e : Value} {e0 : Env} {out : List Env} {L : Addr} {F2 : Value → Shared → Prop} (F : Frm X e0 out L) (hfr : X.A.frames = some X.stack) (hex : X.ex = []) (p : XP X (wOf E) e s) :
    wpAny M X.A (leaving X.env e) (fun _ s'' => CX1 X.prog X.w X.outer X.H₀ X.s₀ E e s'') F2 s := by
  unfold leaving
  refine wpAny_bind (xp_note F hfr p fun x cls d σ H T h' ee I ox oT tr w => ?_)
  subst ee
  refine xp_flight (s := { s with heap := h' }) I ox oT tr fun h2 I2 tr2 => ?_
  have nw : ∀ b, XOk X H b → X.s₀.heap.get? b = none := fun b o => o.new.resolve_left (by rw [hex]; simp)
  refine ⟨x, T, cls, d, H, rfl, I2.os, I2.bare, ?_, I2.hok, nw x ox, nw T oT, ox.free, oT.free, tr2, w⟩
  have := I2.base
  rw [hex] at this
  exact this
theorem xp_call {E : XK} {W : XW} {e : Value} {s' : Shared} (I : Inv X pins σ H s) (c : CX1 X.prog X.w X.stack H s E e s') (h : ∀ cls d H', E cls d H' → W cls d σ H') : XP X W e s' := by
  obtain ⟨x, T, cls, d, H', rfl, os, bare, un, hok, nx, nT, fx, fT, tr, w⟩ := c
  have J : Inv X pins σ H' s' := I.call' (ch := []) os un hok bare fun b z => absurd z (by simp)
  have k : ∀ b, s.heap.get? b = none → H' b = none → XOk X H' b := fun b e f => by
    have o := inv_xok I e
    exact ⟨f, o.loc, o.nfs, o.new, o.cel, o.pin⟩
  refine ⟨x, cls, d, σ, H', some T, .none, rfl, J.pins_of (fun p hp => absurd hp (by simp)), k x nx fx, fun t ht => ?_, tr, .inl rfl, h cls d H' w⟩
  have : t = T := by simpa using ht
  rw [this]; exact k T nT fT
theorem xp_made {W : XW} {x : Addr} {cls : Value} {args : List Value} {h2 : Heap} (I : Inv X pins σ H s) (mk : Heap.MadeExcOf s.heap h2 x cls args) (w : W cls none σ H) : XP X W (.ref x) { s with heap := h2 } := by
  have J : Inv X pins σ H { s with heap := h2, toks := s.toks } := I.kept mk.keeps
  obtain ⟨t, ho, _, _⟩ := mk.there
  exact ⟨x, cls, none, σ, H, none, .none, rfl, J.pins_of (fun p hp => absurd hp (by simp)), inv_xok I mk.new, fun t ht => absurd ht (by simp), ⟨⟨_, _, .ref t, ho, ⟨rfl, rfl⟩, rfl, rfl, rfl⟩, rfl⟩, .inl rfl, w⟩
abbrev Cx.pin' (X : Cx) (pins : List (Addr × Obj)) : Cx := { X with pn := X.pn ++ pins }
theorem ok_pin (ok : X.Ok) : (Cx.pin' X pins).Ok := ⟨ok.mod, ok.kind, ok.glob, ok.blt, ok.above, ok.inj, ok.has, ok.cab, ok.hd, ok.frames, ok.stk, ok.exf, ok.bs, ok.bsz, ok.noex, ok.exfs, ok.funs, ok.frf⟩
theorem ok_unpin (ok : (Cx.pin' X pins).Ok) : X.Ok := ⟨ok.mod, ok.kind, ok.glob, ok.blt, ok.above, ok.inj, ok.has, ok.cab, ok.hd, ok.frames, ok.stk, ok.exf, ok.bs, ok.bsz, ok.noex, ok.exfs, ok.funs, ok.frf⟩
theorem inv_pin' (I : Inv X pins σ H s) : Inv (Cx.pin' X pins) [] σ H s := ⟨ok_pin I.ok, I.os, I.bare, I.base, I.loc, I.cell, I.free, I.freeC, fun p hp => I.pin p (by simpa using hp), I.hok, I.len⟩
theorem inv_unpin' (I : Inv (Cx.pin' X pins) [] σ H s) : Inv X pins σ H s := ⟨ok_unpin I.ok, I.os, I.bare, I.base, I.loc, I.cell, I.free, I.freeC, fun p hp => I.pin p (by simpa using hp), I.hok, I.len⟩
theorem xp_unwish {E : Value → Shared → Prop} {W : XW} {e : Value} (p : XP (X.wish E) W e s) : XP X W e s := by
  obtain ⟨x, cls, d, σ, H, T, fl, a, I, b, c, r⟩ := p
  exact ⟨x, cls, d, σ, H, T, fl, a, I.unwish, ⟨b.free, b.loc, b.nfs, b.new, b.cel, b.pin⟩, fun t ht => let b := c t ht; ⟨b.free, b.loc, b.nfs, b.new, b.cel, b.pin⟩, r⟩
end
end NH
end
section
set_option linter.all false
namespace NH
open PySem
inductive T where
  | non | bl (b : Bool) | int (i : Int) | str (x : Str)
  | tup (ts : List T) | lst (ts : List T) | obj (c : Nat) (fs : List (Nat × T))
  | mut (i : Nat)
  | exc (c : Nat) (fs : List (Nat × T))
  | dic (kvs : List (L2.Key × T))
  | clo (j : Nat) (cs : List T)
inductive MO where
  | lst (ts : List T) | obj (c : Nat) (fs : List (Nat × T)) | dic (kvs : List (L2.Key × T))
  | tab (j : Nat)
abbrev isTab : MO → Bool
  | .tab _ => true
  | _ => false
abbrev Mem := List MO
abbrev Sl := List (Option T)
mutual
def pureT : T → Bool
  | .mut _ => false
  | .tup ts => pureL ts
  | .lst ts => pureL ts
  | .obj _ fs => pureF fs
  | .exc _ fs => pureF fs
  | .dic kvs => pureK kvs
  | .clo _ cs => pureL cs
  | _ => true
def pureL : List T → Bool
  | [] => true
  | t :: r => pureT t && pureL r
def pureF : List (Nat × T) → Bool
  | [] => true
  | p :: r => pureT p.2 && pureF r
def pureK : List (L2.Key × T) → Bool
  | [] => true
  | p :: r => pureT p.2 && pureK r
end
abbrev Xp := Nat → List (Nat × T) → Mem → Prop
abbrev RE (β : Type) := (β → Mem → Prop) → Xp → Prop
abbrev RE.ok {β : Type} (a : β) (μ : Mem) : RE β := fun K _ => K a μ
abbrev RE.st {β : Type} : RE β := fun _ _ => False
abbrev RE.bind {β γ : Type} (r : RE γ) (k : γ → Mem → RE β) : RE β := fun K Z => r (fun a μ => k a μ K Z) Z
abbrev RE.grd {β : Type} (p : Prop) (r : RE β) : RE β := fun K Z => p ∧ r K Z
abbrev RE.som {β γ : Type} (o : Option γ) (k : γ → RE β) : RE β := fun K Z => ∃ a, o = some a ∧ k a K Z
@[reducible] def brW (b : Bool) (A B : Prop) : Prop := match b with
  | true => A
  | false => B
abbrev RE.br {β : Type} (b : Bool) (r s : RE β) : RE β := fun K Z => brW b (r K Z) (s K Z)
structure En where
  nx : Sl → Mem → Prop
  rt : T → Mem → Prop
  bk : Sl → Mem → Prop
  ct : Sl → Mem → Prop
  ex : Nat → List (Nat × T) → Sl → Mem → Prop
abbrev Out := En → Prop
abbrev En.nxt (E : En) (f : Sl → Mem → Prop) : En := ⟨f, E.rt, E.bk, E.ct, E.ex⟩
abbrev En.turn (E : En) (N : Sl → Mem → Prop) : En := ⟨N, E.rt, E.nx, N, E.ex⟩
abbrev En.fn (K : T → Mem → Prop) (Z : Xp) : En := ⟨fun _ μ1 => K .non μ1, K, fun _ _ => False, fun _ _ => False, fun c fs _ μ1 => Z c fs μ1⟩
abbrev Out.nx (τ : Sl) (μ : Mem) : Out := fun E => E.nx τ μ
abbrev Out.rt (t : T) (μ : Mem) : Out := fun E => E.rt t μ
abbrev Out.ex (c : Nat) (fs : List (Nat × T)) (τ : Sl) (μ : Mem) : Out := fun E => E.ex c fs τ μ
abbrev Out.st : Out := fun _ => False
abbrev Out.grd (p : Prop) (o : Out) : Out := fun E => p ∧ o E
abbrev Out.som {γ : Type} (o : Option γ) (k : γ → Out) : Out := fun E => ∃ a, o = some a ∧ k a E
abbrev Out.br (b : Bool) (r s : Out) : Out := fun E => brW b (r E) (s E)
abbrev Out.seq (o : Out) (f : Sl → Mem → Out) : Out := fun E => o (E.nxt fun τ μ => f τ μ E)
abbrev RE.out {β : Type} (r : RE β) (τ : Sl) (f : β → Mem → Out) : Out := fun E => r (fun a μ => f a μ E) (fun c fs μ => E.ex c fs τ μ)
abbrev Fn := List T → Mem → RE T
abbrev De := Sl → Mem → RE T
abbrev Dt := Sl → Mem → RE Bool
abbrev Da := Sl → Mem → RE (List T)
abbrev Ds := Sl → Mem → Out
abbrev RI := (List T → (Mem → Prop) → Mem → Prop) → Xp → Prop
abbrev RI.ok (xs : List T) (o : Mem → Prop) (μ : Mem) : RI := fun K _ => K xs o μ
abbrev RI.st : RI := fun _ _ => False
abbrev RI.grd (p : Prop) (r : RI) : RI := fun K Z => p ∧ r K Z
abbrev RI.go {β : Type} (r : RI) (k : List T → (Mem → Prop) → Mem → RE β) : RE β := fun K Z => r (fun xs o μ => k xs o μ K Z) Z
abbrev RI.out (r : RI) (τ : Sl) (f : List T → (Mem → Prop) → Mem → Out) : Out := fun E => r (fun xs o μ => f xs o μ E) (fun c fs μ => E.ex c fs τ μ)
abbrev RI.re (r : RI) : RE (List T × (Mem → Prop)) := fun K Z => r (fun xs o μ => K (xs, o) μ) Z
abbrev RE.it {β : Type} (r : RE β) (k : β → Mem → RI) : RI := fun K Z => r (fun a μ => k a μ K Z) Z
abbrev Di := Sl → Mem → RI
abbrev lvT : Mem → Prop := fun _ => True
abbrev lvM (i : Nat) (xs : List T) : Mem → Prop := fun μ => μ[i]? = some (.lst xs)
inductive GM where
  | fn (f : Fn)
  | fnh (nm : Str) (f : Fn)
  | met (c : Nat) (nm : Str) (f : Fn)
  | mk (c : Nat) (frozen : Bool) (f : Fn)
  | cst (t : T)
  | xcl (c : Nat)
  | xcf (c : Nat) (f : Nat)
  | xin (c f : Nat) (nm fl : Str)
  | mkd (c : Nat) (nm : Str) (n : Nat) (f : Fn)
  | metd (c : Nat) (nm : Str) (n : Nat) (d : T) (f : Fn)
  | kpr
  | none
  | bad
noncomputable abbrev getS (τ : Sl) : Nat → Option T := List.rec (motive := fun _ => Nat → Option T) (fun _ => none) (fun o _ ih i => Nat.rec (motive := fun _ => Option T) o (fun n _ => ih n) i) τ
noncomputable abbrev setS (τ : Sl) : Nat → Option T → Sl := List.rec (motive := fun _ => Nat → Option T → Sl) (fun _ _ => []) (fun o r ih i t => Nat.rec (motive := fun _ => Sl) (t :: r) (fun n _ => o :: ih n t) i) τ
theorem getS_eq : ∀ {τ : Sl} {i : Nat} {t : T}, getS τ i = some t ↔ τ[i]? = some (some t)
  | [], _, _ => by simp
  | o :: r, 0, t => by show o = some t ↔ _; simp
  | o :: r, n + 1, t => by
    show getS r n = some t ↔ _
    rw [getS_eq (τ := r) (i := n)]; simp
theorem setS_eq : ∀ {τ : Sl} {i : Nat} {t : Option T}, setS τ i t = τ.set i t
  | [], _, _ => by simp
  | o :: r, 0, t => rfl
  | o :: r, n + 1, t => by
    show o :: setS r n t = _
    rw [setS_eq (τ := r) (i := n)]; simp
noncomputable abbrev getF (fs : List (Nat × T)) : Nat → Option T := List.rec (motive := fun _ => Nat → Option T) (fun _ => none) (fun p _ ih i => Bool.rec (motive := fun _ => Option T) (ih i) (some p.2) (Nat.beq p.1 i)) fs
noncomputable abbrev putT (f : Nat) (v : T) (fs : List (Nat × T)) : List (Nat × T) := List.rec (motive := fun _ => List (Nat × T)) [(f, v)] (fun p r ih => Bool.rec (motive := fun _ => List (Nat × T)) (p :: ih) ((p.1, v) :: r) (Nat.beq p.1 f)) fs
theorem getF_cons {p : Nat × T} {r : List (Nat × T)} {i : Nat} : getF (p :: r) i = match Nat.beq p.1 i with
    | true => some p.2
    | false => getF r i := by
  show (Bool.rec (getF r i) (some p.2) (Nat.beq p.1 i) : Option T) = _
  cases Nat.beq p.1 i <;> rfl
theorem putT_cons {f : Nat} {v : T} {p : Nat × T} {r : List (Nat × T)} : putT f v (p :: r) = match Nat.beq p.1 f with
    | true => (p.1, v) :: r
    | false => p :: putT f v r := by
  show (Bool.rec (p :: putT f v r) ((p.1, v) :: r) (Nat.beq p.1 f) : List (Nat × T)) = _
  cases Nat.beq p.1 f <;> rfl
def idx : List Str → Str → Option Nat
  | [], _ => none
  | y :: r, x => if y = x then some 0 else (idx r x).map (· + 1)
abbrev tyN : T → Mem → Option Nat
  | .non, _ => some 0
  | .bl _, _ => some 1
  | .int _, _ => some 2
  | .str _, _ => some 3
  | .tup _, _ => some 4
  | .lst _, _ => some 5
  | .dic _, _ => some 6
  | .exc c _, _ => some c
  | .obj c _, _ => some c
  | _, _ => none
abbrev tyO : MO → Nat
  | .lst _ => 5
  | .obj c _ => c
  | .dic _ => 6
  | .tab _ => 99
abbrev bAnd (a b : Bool) : Bool := match a with
  | true => b
  | false => false
abbrev bOr (a b : Bool) : Bool := match a with
  | true => true
  | false => b
abbrev isinN (a c : Nat) : Bool := bOr (Nat.beq a c) (bOr (bAnd (Nat.beq a 1) (Nat.beq c 2)) (bAnd (Nat.ble 10 a) (bAnd (Nat.ble a 39) (bOr (Nat.beq c 11) (bAnd (Nat.beq c 10) (Nat.ble 12 a))))))
noncomputable abbrev isAny (t : Nat) (cs : List Nat) : Bool := List.rec (motive := fun _ => Bool) false (fun c _ ih => bOr (isinN t c) ih) cs
theorem isAny_cons {t c : Nat} {r : List Nat} : isAny t (c :: r) = bOr (isinN t c) (isAny t r) := rfl
def big : Int := 18446744073709551616
def room : Nat := 1000000
abbrev addT : T → T → Mem → RE T
  | .int i, .int j, μ => .ok (.int (i + j)) μ
  | .str x, .str y, μ => .grd (x.length + y.length ≤ room) (.ok (.str (x ++ y)) μ)
  | .lst xs, .lst ys, μ => .grd (xs.length + ys.length ≤ room) (.ok (.lst (xs ++ ys)) μ)
  | .tup xs, .tup ys, μ => .grd (xs.length + ys.length ≤ room) (.ok (.tup (xs ++ ys)) μ)
  | .mut i, .lst ys, μ => fun K _ => ∃ xs, μ[i]? = some (.lst xs) ∧ xs.length + ys.length ≤ room ∧ K (.lst (xs ++ ys)) μ
  | .lst xs, .mut j, μ => fun K _ => ∃ ys, μ[j]? = some (.lst ys) ∧ xs.length + ys.length ≤ room ∧ K (.lst (xs ++ ys)) μ
  | .mut i, .mut j, μ => fun K _ => ∃ p : List T × List T, (μ[i]? = some (.lst p.1) ∧ μ[j]? = some (.lst p.2)) ∧ p.1.length + p.2.length ≤ room ∧ K (.lst (p.1 ++ p.2)) μ
  | _, _, _ => .st
abbrev inT2 (f : Int → Int → Mem → RE T) : T → T → Mem → RE T
  | .int i, .int j, μ => f i j μ
  | _, _, _ => .st
abbrev binT : Operator → T → T → Mem → RE T
  | .Add => addT
  | .Sub => inT2 fun i j μ => .ok (.int (i - j)) μ
  | .Mult => inT2 fun i j μ => .grd ((-big < i ∧ i < big) ∨ (-big < j ∧ j < big)) (.ok (.int (i * j)) μ)
  | .FloorDiv => inT2 fun i j μ => .grd (0 < j ∧ j < 1606938044258990275541962092341162602522202993782792835301376) (.ok (.int (i / j)) μ)
  | .Mod => inT2 fun i j μ => .grd (0 < j) (.ok (.int (i % j)) μ)
  | .Pow => inT2 fun i j μ => .grd (0 ≤ j ∧ j ≤ 1000000 ∧ i.natAbs < 18446744073709551616) (.ok (.int (i ^ j.toNat)) μ)
  | .RShift => inT2 fun i j μ => .grd (0 ≤ j) (.ok (.int (i / 2 ^ j.toNat)) μ)
  | .BitAnd => inT2 fun i j μ => .ok (.int (Builtin.bitAnd i j)) μ
  | _ => fun _ _ _ => .st
mutual
def eqT : T → T → Option Bool
  | .int i, b => match b with
    | .int j => some (i == j)
    | .bl k => some (i == (if k then 1 else 0))
    | .str _ => some false
    | .non => some false
    | .tup _ => some false
    | .lst _ => some false
    | _ => none
  | .bl k, b => match b with
    | .int j => some ((if k then 1 else 0) == j)
    | .bl j => some (k == j)
    | .str _ => some false
    | .non => some false
    | .tup _ => some false
    | .lst _ => some false
    | _ => none
  | .str x, b => match b with
    | .str y => some (x == y)
    | .int _ => some false
    | .bl _ => some false
    | .non => some false
    | .tup _ => some false
    | .lst _ => some false
    | _ => none
  | .non, b => match b with
    | .non => some true
    | .int _ => some false
    | .bl _ => some false
    | .str _ => some false
    | .tup _ => some false
    | .lst _ => some false
    | _ => none
  | .tup xs, b => match b with
    | .tup ys => eqL xs ys
    | .non => some false
    | .int _ => some false
    | .bl _ => some false
    | .str _ => some false
    | .lst _ => some false
    | _ => none
  | .lst xs, b => match b with
    | .lst ys => eqL xs ys
    | .non => some false
    | .int _ => some false
    | .bl _ => some false
    | .str _ => some false
    | .tup _ => some false
    | _ => none
  | _, _ => none
def eqL : List T → List T → Option Bool
  | [], [] => some true
  | [], _ :: _ => some false
  | _ :: _, [] => some false
  | x :: xs, y :: ys => match eqT x y, eqL xs ys with
    | some a, some b => some (a && b)
    | _, _ => none
end
mutual
def depT : T → Nat
  | .tup ts => depL ts + 1
  | .lst ts => depL ts + 1
  | _ => 0
def depL : List T → Nat
  | [] => 0
  | t :: r => max (depT t) (depL r)
end
abbrev scT : T → T → Option Bool
  | .non, .non => some true
  | .non, .int _ => some false | .int _, .non => some false | .non, .bl _ => some false | .bl _, .non => some false | .non, .str _ => some false | .str _, .non => some false
  | .int i, .int j => some (decide (i = j)) | .bl i, .bl j => some (decide (i = j)) | .str i, .str j => some (decide (i = j))
  | .int _, .str _ => some false | .str _, .int _ => some false | .bl _, .str _ => some false | .str _, .bl _ => some false
  | _, _ => none
abbrev eqW (x y : T) (μ : Mem) (k : Bool → RE T) : RE T := match x, y with
  | .tup xs, .tup ys => .grd (depL xs ≤ 40) (.som (eqL xs ys) k)
  | .lst xs, .lst ys => .grd (depL xs ≤ 40) (.som (eqL xs ys) k)
  | .mut i, .lst ys => fun K Z => ∃ xs, μ[i]? = some (.lst xs) ∧ RE.grd (depL xs ≤ 40) (.som (eqL xs ys) k) K Z
  | .lst xs, .mut j => fun K Z => ∃ ys, μ[j]? = some (.lst ys) ∧ RE.grd (depL xs ≤ 40) (.som (eqL xs ys) k) K Z
  | .mut i, .mut j => fun K Z => ∃ p : List T × List T, (μ[i]? = some (.lst p.1) ∧ μ[j]? = some (.lst p.2)) ∧ RE.grd (depL p.1 ≤ 40) (.som (eqL p.1 p.2) k) K Z
  | x, y => match scT x y with
    | some b => k b
    | none => .st
def intsOf : List T → Option (List Int)
  | [] => some []
  | .int i :: r => (intsOf r).map (i :: ·)
  | _ :: _ => none
abbrev ltW (x y : T) (k : Bool → RE T) : RE T := match x, y with
  | .int i, .int j => k (decide (i < j))
  | .tup xs, .tup ys => .som (intsOf xs) fun ns => .som (intsOf ys) fun ms => k (HT.lexLt ns ms)
  | .str a, .str b => k (decide (a.cps.toList < b.cps.toList))
  | _, _ => .st
abbrev cmpT (op : CmpOp) (x y : T) (μ : Mem) : RE T :=
  match op with
  | .Eq => eqW x y μ fun b => .ok (.bl b) μ
  | .NotEq => eqW x y μ fun b => .ok (.bl (!b)) μ
  | .Lt => ltW x y fun b => .ok (.bl b) μ
  | .LtE => match x, y with | .int i, .int j => .ok (.bl (decide (i ≤ j))) μ | _, _ => .st
  | .Gt => match x, y with | .int i, .int j => .ok (.bl (decide (j < i))) μ | _, _ => .st
  | .GtE => match x, y with | .int i, .int j => .ok (.bl (decide (j ≤ i))) μ | _, _ => .st
  | .Is => (match y with
    | .non => .ok (.bl (match x with | .non => true | _ => false)) μ
    | .bl b => (match x with | .bl a => .ok (.bl (decide (a = b))) μ | _ => .st)
    | _ => .st)
  | .IsNot => (match y with
    | .non => .ok (.bl (match x with | .non => false | _ => true)) μ
    | .bl b => (match x with | .bl a => .ok (.bl (!decide (a = b))) μ | _ => .st)
    | _ => .st)
  | .In => (match x, y with | .str i, .str j => .ok (.bl (!(Builtin.Str.occurrences j i 0 j.length 1).isEmpty)) μ | _, _ => .st)
  | .NotIn => (match x, y with | .str i, .str j => .ok (.bl (!(!(Builtin.Str.occurrences j i 0 j.length 1).isEmpty))) μ | _, _ => .st)
abbrev truT : T → Mem → RE Bool
  | .bl b, μ => .ok b μ
  | _, _ => .st
abbrev eC (t : T) : De := fun _ μ => .ok t μ
noncomputable abbrev eV (i : Nat) : De := fun τ μ => match getS τ i with
  | some t => .ok t μ
  | none => .st
abbrev eBin (op : Operator) (f g : De) : De := fun τ μ => (f τ μ).bind fun x μ1 => (g τ μ1).bind fun y μ2 => binT op x y μ2
abbrev eNeg (f : De) : De := fun τ μ => (f τ μ).bind fun x μ1 => match x with | .int i => .ok (.int (-i)) μ1 | _ => .st
abbrev eNot (f : De) : De := fun τ μ => (f τ μ).bind fun x μ1 => match x with | .bl b => .ok (.bl (!b)) μ1 | _ => .st
abbrev eAnd (f g : De) : De := fun τ μ => (f τ μ).bind fun x μ1 => match x with | .bl b => .br b (g τ μ1) (.ok (.bl false) μ1) | _ => .st
abbrev eOr (f g : De) : De := fun τ μ => (f τ μ).bind fun x μ1 => match x with | .bl b => .br b (.ok (.bl true) μ1) (g τ μ1) | _ => .st
abbrev eCmp (op : CmpOp) (f g : De) : De := fun τ μ => (f τ μ).bind fun x μ1 => (g τ μ1).bind fun y μ2 => cmpT op x y μ2
abbrev chS (op : CmpOp) (last : Bool) (ih : T → Sl → Mem → RE T) (x y : T) (τ : Sl) (μ1 : Mem) : RE T := match last with
  | true => cmpT op x y μ1
  | false => (cmpT op x y μ1).bind fun k μ2 => match k with
    | .bl b => .br b (ih y τ μ2) (.ok (.bl false) μ2)
    | _ => .st
noncomputable abbrev eChn (ps : List (CmpOp × De)) : T → Sl → Mem → RE T := List.rec (motive := fun _ => T → Sl → Mem → RE T) (fun _ _ _ => .st) (fun p r ih x τ μ => (p.2 τ μ).bind fun y μ1 => chS p.1 r.isEmpty ih x y τ μ1) ps
noncomputable abbrev eCh (f : De) (ps : List (CmpOp × De)) : De := fun τ μ => (f τ μ).bind fun x μ1 => eChn ps x τ μ1
abbrev tE (f : De) : Dt := fun τ μ => (f τ μ).bind truT
abbrev tAnd (f g : Dt) : Dt := fun τ μ => (f τ μ).bind fun b μ1 => .br b (g τ μ1) (.ok false μ1)
abbrev tOr (f g : Dt) : Dt := fun τ μ => (f τ μ).bind fun b μ1 => .br b (.ok true μ1) (g τ μ1)
abbrev tNot (f : Dt) : Dt := fun τ μ => (f τ μ).bind fun b μ1 => .ok (!b) μ1
noncomputable abbrev fieldT (t : T) (f : Nat) (μ : Mem) : RE T := match t with
  | .obj _ fs => (match getF fs f with | some v => .ok v μ | none => .st)
  | .mut i => fun K _ => ∃ c fs v, μ[i]? = some (.obj c fs) ∧ getF fs f = some v ∧ K v μ
  | _ => .st
noncomputable abbrev eFld (f : De) (n : Nat) : De := fun τ μ => (f τ μ).bind fun t μ1 => fieldT t n μ1
def ixNo (n : Nat) (i : Int) : Option Nat := if 0 ≤ i then (if i < n then some i.toNat else none) else if -(n : Int) ≤ i then some (i + n).toNat else none
def ixAt {α : Type} (xs : List α) (i : Int) : Option α := (ixNo xs.length i).bind fun j => xs[j]?
abbrev itemT (t i : T) (μ : Mem) : RE T := match i with
  | .int k => (match t with
    | .lst ts => .som (ixAt ts k) fun v => .ok v μ
    | .tup ts => .som (ixAt ts k) fun v => .ok v μ
    | .mut j => fun K _ => ∃ ts v, μ[j]? = some (.lst ts) ∧ ixAt ts k = some v ∧ K v μ
    | .str z => .grd (z.length ≤ room) (.som (ixAt z.cps.toList k) fun c => .ok (.str ⟨#[c]⟩) μ)
    | _ => .st)
  | _ => .st
abbrev eIx (f g : De) : De := fun τ μ => (f τ μ).bind fun x μ1 => (g τ μ1).bind fun y μ2 => itemT x y μ2
def sIxN (n d : Nat) : Option Int → Nat
  | none => d
  | some v => if v < 0 then (v + (n : Int)).toNat else min v.toNat n
def cutL {α : Type} (xs : List α) (lo hi : Option Int) : List α := (xs.drop (sIxN xs.length 0 lo)).take (sIxN xs.length xs.length hi - sIxN xs.length 0 lo)
abbrev Dp := Sl → Mem → RE (Option Int)
abbrev pN : Dp := fun _ μ => .ok none μ
abbrev pS (f : De) : Dp := fun τ μ => (f τ μ).bind fun t μ1 => match t with | .int i => .ok (some i) μ1 | _ => .st
abbrev cutT (x : T) (l h : Option Int) (μ : Mem) : RE T := match x with
  | .lst xs => .ok (.lst (cutL xs l h)) μ
  | .tup xs => .ok (.tup (cutL xs l h)) μ
  | .str z => .grd (z.length ≤ room) (.ok (.str (Txt.slice z l h)) μ)
  | .mut i => fun K _ => ∃ ts, μ[i]? = some (.lst ts) ∧ K (.lst (cutL ts l h)) μ
  | _ => .st
abbrev eSl (f : De) (lo hi : Dp) : De := fun τ μ => (f τ μ).bind fun x μ1 => (lo τ μ1).bind fun l μ2 => (hi τ μ2).bind fun h μ3 => cutT x l h μ3
noncomputable abbrev evs (fs : List De) : Da := List.rec (motive := fun _ => Da) (fun _ μ => .ok [] μ) (fun f _ ih τ μ => (f τ μ).bind fun t μ1 => (ih τ μ1).bind fun ts μ2 => .ok (t :: ts) μ2) fs
noncomputable abbrev eLst (fs : List De) : De := fun τ μ => (evs fs τ μ).bind fun ts μ1 => .ok (.lst ts) μ1
noncomputable abbrev eTup (fs : List De) : De := fun τ μ => (evs fs τ μ).bind fun ts μ1 => .ok (.tup ts) μ1
noncomputable abbrev eLay (fs : List De) : De := fun τ μ => (evs fs τ μ).bind fun ts μ1 => .ok (.mut μ1.length) (μ1 ++ [.lst ts])
noncomputable abbrev eCall (g : Fn) (fs : List De) : De := fun τ μ => (evs fs τ μ).bind g
abbrev frozenMk (c : Nat) (g : Fn) (ts : List T) (μ : Mem) : RE T := fun K Z =>
  pureL ts = true ∧ g (.mut 0 :: ts) [.obj c []] (fun r μ1 => r = .non ∧ ∃ fs, μ1[0]? = some (.obj c fs) ∧ pureF fs = true ∧ K (.obj c fs) μ) (fun k fs _ => pureF fs = true ∧ Z k fs μ)
noncomputable abbrev eMk (c : Nat) (g : Fn) (fs : List De) : De := fun τ μ => (evs fs τ μ).bind (frozenMk c g)
noncomputable abbrev isiT (cs : List Nat) (x : T) (μ : Mem) : RE T := match x with
  | .mut i => .som μ[i]? fun o => .br (isTab o) .st (.ok (.bl (isAny (tyO o) cs)) μ)
  | x => match tyN x μ with
    | some t => .ok (.bl (isAny t cs)) μ
    | none => .st
noncomputable abbrev eIsi (cs : List Nat) (f : De) : De := fun τ μ => (f τ μ).bind (isiT cs)
abbrev eB1 (op : T → Mem → RE T) (f : De) : De := fun τ μ => (f τ μ).bind op
abbrev lenT (t : T) (μ : Mem) : RE T := match t with
  | .lst xs => .ok (.int xs.length) μ
  | .tup xs => .ok (.int xs.length) μ
  | .str s => .grd (s.length ≤ room) (.ok (.int s.length) μ)
  | .mut i => fun K _ => ∃ xs, μ[i]? = some (.lst xs) ∧ K (.int xs.length) μ
  | _ => .st
abbrev listT (t : T) (μ : Mem) : RE T := match t with
  | .lst xs => .ok (.lst xs) μ
  | .tup xs => .ok (.lst xs) μ
  | .mut i => fun K _ => ∃ xs, μ[i]? = some (.lst xs) ∧ K (.lst xs) μ
  | _ => .st
def bools : List T → Option (List Bool)
  | [] => some []
  | .bl b :: r => (bools r).map (b :: ·)
  | _ :: _ => none
abbrev allT (t : T) (μ : Mem) : RE T := match t with
  | .lst xs => .som (bools xs) fun bs => .ok (.bl (bs.all id)) μ
  | _ => .st
abbrev eApp (o f : De) : De := fun τ μ => (o τ μ).bind fun ot μ1 => match ot with
  | .mut i => fun K Z => (∃ ts, μ1[i]? = some (.lst ts)) ∧ f τ μ1 (fun t μ2 => ∃ ts, μ2[i]? = some (.lst ts) ∧ ts.length < room ∧ K .non (μ2.set i (.lst (ts ++ [t])))) Z
  | _ => .st
abbrev signsT (z : Str) : List T := z.cps.toList.map fun c => T.str ⟨#[c]⟩
abbrev itemsT (t : T) (μ : Mem) : RI := match t with
  | .lst xs => .ok xs lvT μ
  | .tup xs => .ok xs lvT μ
  | .str z => .ok (signsT z) lvT μ
  | .mut i => fun K _ => ∃ xs, μ[i]? = some (.lst xs) ∧ K xs (lvM i xs) μ
  | _ => .st
abbrev iE (f : De) : Di := fun τ μ => (f τ μ).it itemsT
def rangeT (n : Int) : List T := (List.range n.toNat).map fun (i : Nat) => T.int i
def rangeS (a b c : Int) : List T := (List.range (if a < b then (b - a - 1) / c + 1 else 0 : Int).toNat).map fun (i : Nat) => T.int (a + i * c)
abbrev inL (a : Int) : Prop := -1606938044258990275541962092341162602522202993782792835301376 ≤ a ∧ a < 1606938044258990275541962092341162602522202993782792835301376
abbrev iRng (f : De) : Di := fun τ μ => (f τ μ).it fun t μ1 => match t with
  | .int n => .grd (inL n) (.ok (rangeT n) lvT μ1)
  | _ => .st
abbrev rangeAll (x y z : T) (μ : Mem) : RI := match x, y, z with
  | .int a, .int b, .int c => .grd (inL a ∧ inL b ∧ 0 < c ∧ c < 1073741824) (.ok (rangeS a b c) lvT μ)
  | _, _, _ => .st
abbrev iRng3 (f g h : De) : Di := fun τ μ => (f τ μ).it fun x μ1 => (g τ μ1).it fun y μ2 => (h τ μ2).it fun z μ3 => rangeAll x y z μ3
abbrev iRng2 (f g : De) : Di := fun τ μ => (f τ μ).it fun x μ1 => (g τ μ1).it fun y μ2 => match x, y with
  | .int a, .int b => .grd (inL a ∧ inL b) (.ok (rangeS a b 1) lvT μ2)
  | _, _ => .st
inductive Tg where
  | one (i : Nat) | tup (is : List Nat)
noncomputable abbrev asgs (is : List Nat) : List T → Sl → Option Sl := List.rec (motive := fun _ => List T → Sl → Option Sl) (fun ts τ => List.rec (motive := fun _ => Option Sl) (some τ) (fun _ _ _ => none) ts) (fun i _ ih ts τ => List.rec (motive := fun _ => Option Sl) none (fun t ts' _ => ih ts' (setS τ i (some t))) ts) is
noncomputable abbrev asg : Tg → T → Sl → Option Sl
  | .one i, t, τ => some (setS τ i (some t))
  | .tup is, .tup ts, τ => asgs is ts τ
  | _, _, _ => none
noncomputable def compO (tg : Tg) (g : Sl → Mem → RE (Option T)) (lv : Mem → Prop) (τ : Sl) : List T → Mem → RE (List T)
  | [], μ => .ok [] μ
  | x :: r, μ => .som (asg tg x τ) fun τ' => (g τ' μ).bind fun o μ1 => .grd (lv μ1) (match o with
    | some y => (compO tg g lv τ r μ1).bind fun ys μ2 => .ok (y :: ys) μ2
    | none => compO tg g lv τ r μ1)
noncomputable abbrev cElt (cs : List Dt) (f : De) : Sl → Mem → RE (Option T) := List.rec (motive := fun _ => Sl → Mem → RE (Option T)) (fun τ μ => (f τ μ).bind fun y μ1 => .ok (some y) μ1) (fun c _ ih τ μ => (c τ μ).bind fun b μ1 => .br b (ih τ μ1) (.ok none μ1)) cs
noncomputable abbrev selS (is : List Nat) (τ : Sl) : Sl := List.rec (motive := fun _ => Sl) [] (fun i _ ih => getS τ i :: ih) is
noncomputable abbrev blk (n : Nat) (fs : List Nat) (τ : Sl) : Sl := Nat.rec (motive := fun _ => Sl) (selS fs τ) (fun _ ih => none :: ih) n
noncomputable abbrev eComp (n : Nat) (fs : List Nat) (tg : Tg) (it : Di) (cs : List Dt) (f : De) : De := fun τ μ => (it τ μ).go fun xs o μ1 => .grd (xs.length ≤ room) ((compO tg (cElt cs f) o (blk n fs τ) xs μ1).bind fun ys μ2 => .ok (.lst ys) μ2)
noncomputable abbrev eCompL (n : Nat) (fs : List Nat) (tg : Tg) (it : Di) (cs : List Dt) (f : De) : De := fun τ μ => (it τ μ).go fun xs o μ1 => .grd (xs.length ≤ room) ((compO tg (cElt cs f) o (blk n fs τ) xs μ1).bind fun ys μ2 => .ok (.mut μ2.length) (μ2 ++ [.lst ys]))
abbrev sRet (f : De) : Ds := fun τ μ => (f τ μ).out τ fun t μ1 => .rt t μ1
abbrev sRetN : Ds := fun _ μ => .rt .non μ
abbrev sExpr (f : De) : Ds := fun τ μ => (f τ μ).out τ fun _ μ1 => .nx τ μ1
noncomputable abbrev blks (ss : List Ds) : Ds := List.rec (motive := fun _ => Ds) (fun τ μ => .nx τ μ) (fun s _ ih τ μ => (s τ μ).seq ih) ss
noncomputable abbrev sIf (c : Dt) (a b : List Ds) : Ds := fun τ μ => (c τ μ).out τ fun k μ1 => .br k (blks a τ μ1) (blks b τ μ1)
noncomputable abbrev sSet (i : Nat) (f : De) : Ds := fun τ μ => (f τ μ).out τ fun t μ1 => .nx (setS τ i (some t)) μ1
noncomputable abbrev sTup (is : List Nat) (f : De) : Ds := fun τ μ => (f τ μ).out τ fun t μ1 => .som (asg (.tup is) t τ) fun τ' => .nx τ' μ1
noncomputable abbrev sFld (o : De) (n : Nat) (f : De) : Ds := fun τ μ => (f τ μ).out τ fun t μ1 => (o τ μ1).out τ fun ot μ2 => match ot with
  | .mut i => fun E => ∃ c fs, μ2[i]? = some (.obj c fs) ∧ fs.length < 900 ∧ E.nx τ (μ2.set i (.obj c (putT n t fs)))
  | _ => .st
abbrev sPut (o b f : De) : Ds := fun τ μ => (f τ μ).out τ fun t μ1 => (o τ μ1).out τ fun ot μ2 => (b τ μ2).out τ fun it μ3 => match ot, it with
  | .mut i, .int k => fun E => ∃ ts, μ3[i]? = some (.lst ts) ∧ (0 ≤ k ∧ k < ts.length ∧ k < 9223372036854775808) ∧ E.nx τ (μ3.set i (.lst (ts.set k.toNat t)))
  | _, _ => .st
noncomputable def forM (tg : Tg) (body : Ds) (lv : Mem → Prop) : List T → Ds
  | [], τ, μ => .nx τ μ
  | x :: r, τ, μ => .som (asg tg x τ) fun τ' => fun E => body τ' μ (E.turn fun τ2 μ2 => lv μ2 ∧ forM tg body lv r τ2 μ2 E)
noncomputable abbrev sFor (tg : Tg) (it : Di) (body : List Ds) : Ds := fun τ μ => (it τ μ).out τ fun xs o μ1 => forM tg (blks body) o xs τ μ1
noncomputable abbrev sRaise (c : Nat) (fs : List De) : Ds := fun τ μ => (evs fs τ μ).out τ fun ts μ1 => .grd (ts.length ≤ room) (.ex c [] τ μ1)
noncomputable abbrev pad (n : Nat) : Sl := Nat.rec (motive := fun _ => Sl) [] (fun _ ih => none :: ih) n
noncomputable abbrev argS (ts : List T) (n : Nat) : Sl := List.rec (motive := fun _ => Sl) (pad n) (fun t _ ih => some t :: ih) ts
noncomputable abbrev fnW (n m : Nat) (body : List Ds) : Fn := fun ts μ K Z => ts.length = n ∧ blks body (argS ts m) μ (En.fn K Z)
end NH
end
section
set_option linter.all false
set_option maxRecDepth 100000
set_option maxHeartbeats 4000000
namespace NH
open PySem PySem.Spec PyProof.Rows L2
structure DP where
  K : PySem.W.Frag
  adr : Nat → Option Addr
  cad : Nat → Option Addr
  fn : Nat → Option Str
  inj : ∀ i j x, fn i = some x → fn j = some x → i = j
  clo : Nat → Addr → Option HO → List V → Prop
  tabs : Nat → Option (Addr × List Pos × Str)
def XcAt (a C : Addr) (d : Option Addr) : Heap → Prop := fun h => ∃ oe vs, h.get? a = some oe ∧ oe.cls = .ref C ∧ oe.data = .fields vs ∧ oe.dict = d
def CodeIs (c : Addr) (qn : Str) : Heap → Prop := fun h => h.CodeRec (.ref c) qn
mutual
def Den (D : DP) (φ α : List Addr) (H : Hp) : T → V → Prop
  | .non, v => v = .non
  | .bl b, v => v = .bl b
  | .int i, v => v = .int i
  | .str x, v => v = .str x
  | .mut i, v => ∃ a, α[i]? = some a ∧ v = .ref a
  | .tup ts, v => ∃ a xs, v = .ref a ∧ a ∉ φ ∧ a ∉ α ∧ Rd H a (.tup xs) ∧ DenL D φ α H ts xs
  | .lst ts, v => ∃ a xs, v = .ref a ∧ a ∉ φ ∧ a ∉ α ∧ Rd H a (.lst xs) ∧ DenL D φ α H ts xs
  | .obj c fs, v => ∃ a C dx gs, v = .ref a ∧ a ∉ φ ∧ a ∉ α ∧ D.cad c = some C ∧ H a = some (.ins C dx gs) ∧ DenF D φ α H fs gs
  | .exc c fs, v => ∃ a C d, v = .ref a ∧ a ∉ φ ∧ a ∉ α ∧ D.adr c = some C ∧ H a = some (.ext (XcAt a C d)) ∧ (match d with
    | none => fs = []
    | some dx => ∃ gs, dx ∉ φ ∧ dx ∉ α ∧ H dx = some (.xd gs) ∧ DenF D φ α H fs gs)
  | .dic kvs, v => ∃ a gs, v = .ref a ∧ a ∉ φ ∧ a ∉ α ∧ H a = some (.dK gs) ∧ DenK D φ α H kvs gs
  | .clo j cs, v => ∃ a ob xs, v = .ref a ∧ D.clo j a ob xs ∧ (∀ o, ob = some o → a ∉ φ ∧ a ∉ α ∧ H a = some o) ∧ DenL D φ α H cs xs
def DenL (D : DP) (φ α : List Addr) (H : Hp) : List T → List V → Prop
  | [], vs => vs = []
  | t :: ts, vs => ∃ v r, vs = v :: r ∧ Den D φ α H t v ∧ DenL D φ α H ts r
def DenF (D : DP) (φ α : List Addr) (H : Hp) : List (Nat × T) → List (Str × V) → Prop
  | [], gs => gs = []
  | p :: fs, gs => ∃ x v r, D.fn p.1 = some x ∧ gs = (x, v) :: r ∧ Den D φ α H p.2 v ∧ DenF D φ α H fs r
def DenK (D : DP) (φ α : List Addr) (H : Hp) : List (Key × T) → List (Key × V) → Prop
  | [], gs => gs = []
  | p :: fs, gs => ∃ v r, gs = (p.1, v) :: r ∧ Den D φ α H p.2 v ∧ DenK D φ α H fs r
end
def XDict (D : DP) (φ α : List Addr) (H : Hp) (fs : List (Nat × T)) : Option Addr → Prop
  | none => fs = []
  | some dx => ∃ gs, dx ∉ φ ∧ dx ∉ α ∧ H dx = some (.xd gs) ∧ DenF D φ α H fs gs
def DenO (D : DP) (φ α : List Addr) (H : Hp) : MO → Addr → Prop
  | .lst ts, a => ∃ xs, H a = some (.lst xs) ∧ DenL D φ α H ts xs
  | .obj c fs, a => ∃ C dx gs, D.cad c = some C ∧ H a = some (.ins C dx gs) ∧ DenF D φ α H fs gs
  | .dic kvs, a => ∃ gs, H a = some (.dK gs) ∧ DenK D φ α H kvs gs
  | .tab j, a => ∃ poss qn ps, D.tabs j = some (a, poss, qn) ∧ H a = some (.tbl ps) ∧ TriplesOk ps.toList ∧ ∀ pos ∈ poss, codeAmong pos ps.toList = none ∨ ∃ c, codeAmong pos ps.toList = some (.ref c) ∧ c ∉ φ ∧ c ∉ α ∧ H c = some (.ext (CodeIs c qn))
structure Stp (α : List Addr) (H : Hp) (α' : List Addr) (H' : Hp) : Prop where
  ext : ∃ β, α' = α ++ β ∧ ∀ b ∈ β, H b = none
  keep : ∀ b o, b ∉ α → H b = some o → H' b = some o
  live : ∀ b, H' b = none → H b = none
theorem Stp.refl (α : List Addr) (H : Hp) : Stp α H α H := ⟨⟨[], by simp, by simp⟩, fun _ _ _ e => e, fun _ e => e⟩
theorem Stp.trans {α α1 α2 : List Addr} {H H1 H2 : Hp} (a : Stp α H α1 H1) (b : Stp α1 H1 α2 H2) : Stp α H α2 H2 := by
  obtain ⟨β, rfl, hβ⟩ := a.ext
  obtain ⟨γ, rfl, hγ⟩ := b.ext
  refine ⟨⟨β ++ γ, by simp, fun c hc => ?_⟩, fun c o n e => ?_, fun c e => a.live c (b.live c e)⟩
  · rcases List.mem_append.mp hc with h | h
    · exact hβ c h
    · exact a.live c (hγ c h)
  · refine b.keep c o (fun h => ?_) (a.keep c o n e)
    rcases List.mem_append.mp h with h | h
    · exact n h
    · rw [hβ c h] at e; cases e
theorem Stp.new {α : List Addr} {H H' : Hp} (s : Same H H') : Stp α H α H' := ⟨⟨[], by simp, by simp⟩, fun b o _ e => s b o e, fun b e => by
  cases q : H b with
  | none => rfl
  | some o => rw [s b o q] at e; cases e⟩
theorem same_upd {H : Hp} {p : Addr} {o : HO} (h : H p = none) : Same H (upd H p o) := fun b u e => by rw [upd_ne (ne_of_none e h)]; exact e
theorem Stp.out {α α' : List Addr} {H H' : Hp} (s : Stp α H α' H') {a : Addr} {o : HO} (n : a ∉ α) (e : H a = some o) : a ∉ α' := by
  obtain ⟨β, rfl, hβ⟩ := s.ext
  intro h
  rcases List.mem_append.mp h with h | h
  · exact n h
  · rw [hβ a h] at e; cases e
section
variable {D : DP} {φ φ' α α' : List Addr} {H H' : Hp}
structure Lk (φ α : List Addr) (H : Hp) (φ' α' : List Addr) (H' : Hp) : Prop where
  ob : ∀ a o, a ∉ φ → a ∉ α → H a = some o → a ∉ φ' ∧ a ∉ α' ∧ H' a = some o
  st : ∀ (i : Nat) (a : Addr), α[i]? = some a → α'[i]? = some a
mutual
theorem Den.lk (h : Lk φ α H φ' α' H') : ∀ {t : T} {v : V}, Den D φ α H t v → Den D φ' α' H' t v
  | .non, _, d => d
  | .bl _, _, d => d
  | .int _, _, d => d
  | .str _, _, d => d
  | .mut i, _, d => by obtain ⟨a, e, q⟩ := d; exact ⟨a, h.st i a e, q⟩
  | .tup ts, _, d => by
    obtain ⟨a, xs, rfl, n1, n2, r, l⟩ := d
    rcases r with r | ⟨o, r⟩
    · obtain ⟨m1, m2, e⟩ := h.ob a _ n1 n2 r
      exact ⟨a, xs, rfl, m1, m2, .inl e, DenL.lk h l⟩
    · obtain ⟨m1, m2, e⟩ := h.ob a _ n1 n2 r
      exact ⟨a, xs, rfl, m1, m2, .inr ⟨o, e⟩, DenL.lk h l⟩
  | .lst ts, _, d => by
    obtain ⟨a, xs, rfl, n1, n2, r, l⟩ := d
    rcases r with r | ⟨o, r⟩
    · obtain ⟨m1, m2, e⟩ := h.ob a _ n1 n2 r
      exact ⟨a, xs, rfl, m1, m2, .inl e, DenL.lk h l⟩
    · obtain ⟨m1, m2, e⟩ := h.ob a _ n1 n2 r
      exact ⟨a, xs, rfl, m1, m2, .inr ⟨o, e⟩, DenL.lk h l⟩
  | .obj c fs, _, d => by
    obtain ⟨a, C, dx, gs, rfl, n1, n2, ad, e, l⟩ := d
    obtain ⟨m1, m2, e⟩ := h.ob a _ n1 n2 e
    exact ⟨a, C, dx, gs, rfl, m1, m2, ad, e, DenF.lk h l⟩
  | .exc c fs, _, d => by
    obtain ⟨a, C, d, rfl, n1, n2, ad, e, l⟩ := d
    obtain ⟨m1, m2, e⟩ := h.ob a _ n1 n2 e
    refine ⟨a, C, d, rfl, m1, m2, ad, e, ?_⟩
    cases d with
    | none => exact l
    | some dx =>
      obtain ⟨gs, k1, k2, e2, l⟩ := l
      obtain ⟨k1, k2, e2⟩ := h.ob dx _ k1 k2 e2
      exact ⟨gs, k1, k2, e2, DenF.lk h l⟩
  | .dic kvs, _, d => by
    obtain ⟨a, gs, rfl, n1, n2, e, l⟩ := d
    obtain ⟨m1, m2, e⟩ := h.ob a _ n1 n2 e
    exact ⟨a, gs, rfl, m1, m2, e, DenK.lk h l⟩
  | .clo j cs, _, d => by
    obtain ⟨a, ob, xs, rfl, c, e, l⟩ := d
    exact ⟨a, ob, xs, rfl, c, fun o z => let ⟨n1, n2, q⟩ := e o z; h.ob a o n1 n2 q, DenL.lk h l⟩
theorem DenL.lk (h : Lk φ α H φ' α' H') : ∀ {ts : List T} {vs : List V}, DenL D φ α H ts vs → DenL D φ' α' H' ts vs
  | [], _, l => l
  | t :: ts, _, l => by
    obtain ⟨v, r, rfl, a, b⟩ := l
    exact ⟨v, r, rfl, Den.lk h a, DenL.lk h b⟩
theorem DenF.lk (h : Lk φ α H φ' α' H') : ∀ {fs : List (Nat × T)} {gs : List (Str × V)}, DenF D φ α H fs gs → DenF D φ' α' H' fs gs
  | [], _, l => l
  | p :: fs, _, l => by
    obtain ⟨x, v, r, e, rfl, a, b⟩ := l
    exact ⟨x, v, r, e, rfl, Den.lk h a, DenF.lk h b⟩
theorem DenK.lk (h : Lk φ α H φ' α' H') : ∀ {fs : List (Key × T)} {gs : List (Key × V)}, DenK D φ α H fs gs → DenK D φ' α' H' fs gs
  | [], _, l => l
  | p :: fs, _, l => by
    obtain ⟨v, r, rfl, a, b⟩ := l
    exact ⟨v, r, rfl, Den.lk h a, DenK.lk h b⟩
end
theorem Stp.lk (s : Stp α H α' H') : Lk φ α H φ α' H' := ⟨fun a o n1 n2 e => ⟨n1, s.out n2 e, s.keep a o n2 e⟩, fun i a e => by
  obtain ⟨β, rfl, _⟩ := s.ext
  rw [List.getElem?_append_left (List.getElem?_eq_some_iff.mp e).1]; exact e⟩
theorem Den.step (s : Stp α H α' H') {t : T} {v : V} (d : Den D φ α H t v) : Den D φ α' H' t v := d.lk s.lk
theorem DenL.step (s : Stp α H α' H') {t : List T} {v : List V} (d : DenL D φ α H t v) : DenL D φ α' H' t v := d.lk s.lk
theorem DenF.step (s : Stp α H α' H') {t : List (Nat × T)} {v : List (Str × V)} (d : DenF D φ α H t v) : DenF D φ α' H' t v := d.lk s.lk
theorem XDict.lk {fs : List (Nat × T)} {d : Option Addr} (h : Lk φ α H φ' α' H') (x : XDict D φ α H fs d) : XDict D φ' α' H' fs d := by
  cases d with
  | none => exact x
  | some dx =>
    obtain ⟨gs, k1, k2, e2, l⟩ := x
    obtain ⟨k1, k2, e2⟩ := h.ob dx _ k1 k2 e2
    exact ⟨gs, k1, k2, e2, DenF.lk h l⟩
mutual
theorem Den.hide {β : List Addr} : ∀ {t : T} {v : V}, pureT t = true → Den D φ α H t v → (∀ a, a ∉ φ → a ∉ α → a ∉ φ' ∧ a ∉ β) → Den D φ' β H t v
  | .non, _, _, h, _ => h
  | .bl _, _, _, h, _ => h
  | .int _, _, _, h, _ => h
  | .str _, _, _, h, _ => h
  | .mut i, _, p, _, _ => by simp [pureT] at p
  | .tup ts, _, p, h, k => by
    obtain ⟨a, xs, rfl, n1, n2, r, l⟩ := h
    exact ⟨a, xs, rfl, (k a n1 n2).1, (k a n1 n2).2, r, DenL.hide (by simpa [pureT] using p) l k⟩
  | .lst ts, _, p, h, k => by
    obtain ⟨a, xs, rfl, n1, n2, r, l⟩ := h
    exact ⟨a, xs, rfl, (k a n1 n2).1, (k a n1 n2).2, r, DenL.hide (by simpa [pureT] using p) l k⟩
  | .obj c fs, _, p, h, k => by
    obtain ⟨a, C, dx, gs, rfl, n1, n2, ad, e, l⟩ := h
    exact ⟨a, C, dx, gs, rfl, (k a n1 n2).1, (k a n1 n2).2, ad, e, DenF.hide (by simpa [pureT] using p) l k⟩
  | .exc c fs, _, p, h, k => by
    obtain ⟨a, C, d, rfl, n1, n2, ad, e, l⟩ := h
    refine ⟨a, C, d, rfl, (k a n1 n2).1, (k a n1 n2).2, ad, e, ?_⟩
    cases d with
    | none => exact l
    | some dx =>
      obtain ⟨gs, k1, k2, e2, l⟩ := l
      exact ⟨gs, (k dx k1 k2).1, (k dx k1 k2).2, e2, DenF.hide (by simpa [pureT] using p) l k⟩
  | .dic kvs, _, p, h, k => by
    obtain ⟨a, gs, rfl, n1, n2, e, l⟩ := h
    exact ⟨a, gs, rfl, (k a n1 n2).1, (k a n1 n2).2, e, DenK.hide (by simpa [pureT] using p) l k⟩
  | .clo j cs, _, p, h, k => by
    obtain ⟨a, ob, xs, rfl, c, e, l⟩ := h
    exact ⟨a, ob, xs, rfl, c, fun o z => let ⟨n1, n2, q⟩ := e o z; ⟨(k a n1 n2).1, (k a n1 n2).2, q⟩, DenL.hide (by simpa [pureT] using p) l k⟩
theorem DenL.hide {β : List Addr} : ∀ {ts : List T} {vs : List V}, pureL ts = true → DenL D φ α H ts vs → (∀ a, a ∉ φ → a ∉ α → a ∉ φ' ∧ a ∉ β) → DenL D φ' β H ts vs
  | [], _, _, h, _ => h
  | t :: ts, _, p, h, k => by
    obtain ⟨v, r, rfl, a, b⟩ := h
    simp only [pureL, Bool.and_eq_true] at p
    exact ⟨v, r, rfl, Den.hide p.1 a k, DenL.hide p.2 b k⟩
theorem DenF.hide {β : List Addr} : ∀ {fs : List (Nat × T)} {gs : List (Str × V)}, pureF fs = true → DenF D φ α H fs gs → (∀ a, a ∉ φ → a ∉ α → a ∉ φ' ∧ a ∉ β) → DenF D φ' β H fs gs
  | [], _, _, h, _ => h
  | q :: fs, _, p, h, k => by
    obtain ⟨x, v, r, e, rfl, a, b⟩ := h
    simp only [pureF, Bool.and_eq_true] at p
    exact ⟨x, v, r, e, rfl, Den.hide p.1 a k, DenF.hide p.2 b k⟩
theorem DenK.hide {β : List Addr} : ∀ {fs : List (Key × T)} {gs : List (Key × V)}, pureK fs = true → DenK D φ α H fs gs → (∀ a, a ∉ φ → a ∉ α → a ∉ φ' ∧ a ∉ β) → DenK D φ' β H fs gs
  | [], _, _, h, _ => h
  | q :: fs, _, p, h, k => by
    obtain ⟨v, r, rfl, a, b⟩ := h
    simp only [pureK, Bool.and_eq_true] at p
    exact ⟨v, r, rfl, Den.hide p.1 a k, DenK.hide p.2 b k⟩
end
theorem XDict.hide {fs : List (Nat × T)} {d : Option Addr} {β : List Addr} (p : pureF fs = true) (x : XDict D φ α H fs d) (k : ∀ a, a ∉ φ → a ∉ α → a ∉ φ' ∧ a ∉ β) : XDict D φ' β H fs d := by
  cases d with
  | none => exact x
  | some dx =>
    obtain ⟨gs, k1, k2, e2, l⟩ := x
    exact ⟨gs, (k dx k1 k2).1, (k dx k1 k2).2, e2, DenF.hide p l k⟩
theorem hide_in : ∀ a : Addr, a ∉ φ → a ∉ α → a ∉ φ ++ α ∧ a ∉ ([] : List Addr) := fun a n1 n2 => ⟨fun z => (List.mem_append.mp z).elim n1 n2, by simp⟩
theorem hide_out {β : List Addr} : ∀ a : Addr, a ∉ φ ++ α → a ∉ β → a ∉ φ ∧ a ∉ α := fun a n1 _ => ⟨fun z => n1 (List.mem_append_left _ z), fun z => n1 (List.mem_append_right _ z)⟩
theorem DenL.length : ∀ {ts : List T} {vs : List V}, DenL D φ α H ts vs → ts.length = vs.length
  | [], _, h => by have : _ = [] := h; subst this; rfl
  | t :: ts, _, h => by
    obtain ⟨v, r, rfl, _, b⟩ := h
    simp [DenL.length b]
theorem DenL.get : ∀ {ts : List T} {vs : List V} {i : Nat} {t : T}, DenL D φ α H ts vs → ts[i]? = some t → ∃ v, vs[i]? = some v ∧ Den D φ α H t v
  | [], _, _, _, _, e => by simp at e
  | t :: ts, _, 0, _, h, e => by
    obtain ⟨v, r, rfl, a, b⟩ := h
    simp at e; subst e
    exact ⟨v, rfl, a⟩
  | t :: ts, _, i + 1, u, h, e => by
    obtain ⟨v, r, rfl, a, b⟩ := h
    obtain ⟨w, e', d⟩ := DenL.get (i := i) (t := u) b (by simpa using e)
    exact ⟨w, by simpa using e', d⟩
theorem DenL.append : ∀ {ts us : List T} {vs ws : List V}, DenL D φ α H ts vs → DenL D φ α H us ws → DenL D φ α H (ts ++ us) (vs ++ ws)
  | [], us, _, ws, h, k => by have : _ = [] := h; subst this; exact k
  | t :: ts, us, _, ws, h, k => by
    obtain ⟨v, r, rfl, a, b⟩ := h
    exact ⟨v, r ++ ws, rfl, a, DenL.append b k⟩
theorem DenL.drop : ∀ (n : Nat) {ts : List T} {vs : List V}, DenL D φ α H ts vs → DenL D φ α H (ts.drop n) (vs.drop n)
  | 0, _, _, h => h
  | n + 1, [], _, h => by have : _ = [] := h; subst this; exact rfl
  | n + 1, t :: ts, _, h => by
    obtain ⟨v, r, rfl, a, b⟩ := h
    exact DenL.drop n b
theorem DenL.take : ∀ (n : Nat) {ts : List T} {vs : List V}, DenL D φ α H ts vs → DenL D φ α H (ts.take n) (vs.take n)
  | 0, _, _, h => by simp [DenL]
  | n + 1, [], _, h => by have : _ = [] := h; subst this; exact rfl
  | n + 1, t :: ts, _, h => by
    obtain ⟨v, r, rfl, a, b⟩ := h
    exact ⟨v, r.take n, rfl, a, DenL.take n b⟩
theorem DenL.set : ∀ {ts : List T} {vs : List V} {i : Nat} {t : T} {v : V}, DenL D φ α H ts vs → Den D φ α H t v → DenL D φ α H (ts.set i t) (vs.set i v)
  | [], vs, i, t, v, l, d => by have l : vs = [] := l; subst l; exact rfl
  | x :: ts, _, 0, t, v, l, d => by
    obtain ⟨w, r, rfl, dw, l⟩ := l
    exact ⟨v, r, rfl, d, l⟩
  | x :: ts, _, i + 1, t, v, l, d => by
    obtain ⟨w, r, rfl, dw, l⟩ := l
    exact ⟨w, r.set i v, rfl, dw, DenL.set l d⟩
theorem DenF.look : ∀ {fs : List (Nat × T)} {gs : List (Str × V)} {f : Nat} {t : T}, DenF D φ α H fs gs → getF fs f = some t → ∃ x v, D.fn f = some x ∧ gs.lookup x = some v ∧ Den D φ α H t v
  | [], _, _, _, _, e => by simp [getF] at e
  | p :: fs, _, f, t, h, e => by
    obtain ⟨x, v, r, ex, rfl, a, b⟩ := h
    rw [getF_cons] at e
    cases q : Nat.beq p.1 f with
    | true =>
      have q' := Nat.eq_of_beq_eq_true q
      rw [q] at e
      have e : some p.2 = some t := e
      cases e
      exact ⟨x, v, by rw [← q']; exact ex, by simp [List.lookup_cons], a⟩
    | false =>
      rw [q] at e
      obtain ⟨y, w, h1, h2, h3⟩ := DenF.look b e
      refine ⟨y, w, h1, ?_, h3⟩
      rw [List.lookup_cons]
      have ne : (y == x) = false := by
        refine beq_eq_false_iff_ne.mpr fun z => ?_
        subst z
        have := D.inj _ _ _ ex h1
        rw [this] at q
        simp at q
      rw [ne]; exact h2
theorem DenF.put {f : Nat} {x : Str} {t : T} {w : V} (hx : D.fn f = some x) : ∀ {fs : List (Nat × T)} {gs : List (Str × V)}, DenF D φ α H fs gs → Den D φ α H t w → DenF D φ α H (putT f t fs) (putF x w gs)
  | [], gs, h, d => by
    have : gs = [] := h
    subst this
    exact ⟨x, w, [], hx, rfl, d, rfl⟩
  | p :: fs, gs, h, d => by
    obtain ⟨z, y, r, ez, rfl, dy, l⟩ := h
    rw [putT_cons]
    show DenF D φ α H _ (if z = x then (z, w) :: r else (z, y) :: putF x w r)
    cases q : Nat.beq p.1 f with
    | true =>
      have q' := Nat.eq_of_beq_eq_true q
      have : z = x := by rw [q', hx] at ez; exact (Option.some.inj ez).symm
      rw [if_pos this]
      exact ⟨z, w, r, ez, rfl, d, l⟩
    | false =>
      have : z ≠ x := fun e => by
        subst e
        have := D.inj _ _ _ ez hx
        rw [this] at q
        simp at q
      rw [if_neg this]
      exact ⟨z, y, putF x w r, ez, rfl, dy, DenF.put hx l d⟩
theorem DenF.length : ∀ {fs : List (Nat × T)} {gs : List (Str × V)}, DenF D φ α H fs gs → fs.length = gs.length
  | [], _, h => by have : _ = [] := h; subst this; rfl
  | p :: fs, _, h => by
    obtain ⟨x, v, r, _, rfl, _, b⟩ := h
    simp [DenF.length b]
structure MRel (D : DP) (φ α : List Addr) (H : Hp) (μ : Mem) : Prop where
  len : α.length = μ.length
  nd : α.Nodup
  dis : ∀ b ∈ α, b ∉ φ
  phi : ∀ b ∈ φ, ∃ o, H b = some o
  ob : ∀ (i : Nat) (a : Addr) (o : MO), α[i]? = some a → μ[i]? = some o → DenO D φ α H o a
theorem MRel.nil (D : DP) {φ : List Addr} {H : Hp} (h : ∀ b ∈ φ, ∃ o, H b = some o) : MRel D φ [] H [] := ⟨rfl, by simp, by simp, h, by simp⟩
theorem DenO.lk {o : MO} {a : Addr} (s : Lk φ α H φ' α' H') (e : H' a = H a) (h : DenO D φ α H o a) : DenO D φ' α' H' o a := by
  cases o with
  | lst ts =>
    obtain ⟨xs, q, l⟩ := h
    exact ⟨xs, e.trans q, DenL.lk s l⟩
  | obj c fs =>
    obtain ⟨C, dx, gs, ad, q, l⟩ := h
    exact ⟨C, dx, gs, ad, e.trans q, DenF.lk s l⟩
  | dic kvs =>
    obtain ⟨xs, q, l⟩ := h
    exact ⟨xs, e.trans q, DenK.lk s l⟩
  | tab j =>
    obtain ⟨pos, qn, ps, h1, h2, h3, h4⟩ := h
    refine ⟨pos, qn, ps, h1, e.trans h2, h3, fun p hp => (h4 p hp).imp id fun ⟨c, k1, k2, k3, k4⟩ => ?_⟩
    obtain ⟨m1, m2, m3⟩ := s.ob c _ k2 k3 k4
    exact ⟨c, k1, m1, m2, m3⟩
theorem DenO.step {o : MO} {a : Addr} (s : Stp α H α' H') (e : H' a = H a) (h : DenO D φ α H o a) : DenO D φ α' H' o a := h.lk s.lk e
theorem DenO.some {o : MO} {a : Addr} (h : DenO D φ α H o a) : ∃ u, H a = Option.some u := by
  cases o with
  | lst ts => obtain ⟨xs, q, _⟩ := h; exact ⟨_, q⟩
  | obj c fs => obtain ⟨C, dx, gs, _, q, _⟩ := h; exact ⟨_, q⟩
  | dic ts => obtain ⟨xs, q, _⟩ := h; exact ⟨_, q⟩
  | tab j => obtain ⟨_, _, ps, _, q, _⟩ := h; exact ⟨_, q⟩
theorem MRel.new {μ : Mem} (m : MRel D φ α H μ) (s : Same H H') : MRel D φ α H' μ :=
  ⟨m.len, m.nd, m.dis, fun b hb => let ⟨o, e⟩ := m.phi b hb; ⟨o, s b o e⟩, fun i a o e1 e2 => by
    have d := m.ob i a o e1 e2
    obtain ⟨u, q⟩ := d.some
    exact d.step (Stp.new s) ((s _ _ q).trans q.symm)⟩
theorem MRel.lk {μ : Mem} (h : Lk φ α H φ' α H') (hα : ∀ a ∈ α, H' a = H a ∧ a ∉ φ') (hφ : ∀ b ∈ φ', ∃ o, H' b = some o) (m : MRel D φ α H μ) : MRel D φ' α H' μ :=
  ⟨m.len, m.nd, fun b hb => (hα b hb).2, hφ, fun i a o e1 e2 => (m.ob i a o e1 e2).lk h (hα a (List.mem_of_getElem? e1)).1⟩
structure SRel (D : DP) (φ α : List Addr) (H : Hp) (τ : Sl) (σ : St) : Prop where
  len : τ.length = σ.length
  val : ∀ (i : Nat) (t : T), τ[i]? = some (some t) → ∃ v, σ[i]? = some (some v) ∧ Den D φ α H t v
theorem SRel.lk {τ : Sl} {σ : St} (r : SRel D φ α H τ σ) (s : Lk φ α H φ' α' H') : SRel D φ' α' H' τ σ := ⟨r.len, fun i t e => by
  obtain ⟨v, q, d⟩ := r.val i t e
  exact ⟨v, q, d.lk s⟩⟩
theorem SRel.step {τ : Sl} {σ : St} (r : SRel D φ α H τ σ) (s : Stp α H α' H') : SRel D φ α' H' τ σ := r.lk s.lk
theorem SRel.set {τ : Sl} {σ : St} (r : SRel D φ α H τ σ) {i : Nat} {t : T} {v : V} (d : Den D φ α H t v) : SRel D φ α H (setS τ i (some t)) (σ.set i (some v)) := by
  rw [setS_eq]
  refine ⟨by simp [r.len], fun j u e => ?_⟩
  by_cases h : i = j
  · subst h
    rw [List.getElem?_set_self'] at e
    cases q : τ[i]? with
    | none => rw [q] at e; cases e
    | some o =>
      rw [q] at e
      simp at e
      subst e
      have hl : i < σ.length := by rw [← r.len]; exact (List.getElem?_eq_some_iff.mp q).1
      exact ⟨v, by simp [hl], d⟩
  · rw [List.getElem?_set_ne h] at e ⊢
    exact r.val j u e
theorem SRel.get {τ : Sl} {σ : St} (r : SRel D φ α H τ σ) {i : Nat} {t : T} (e : getS τ i = some t) : ∃ v, σ[i]? = some (some v) ∧ Den D φ α H t v := r.val i t (getS_eq.mp e)
end
theorem look_more {φ α : List Addr} {H : Hp} {b : Addr} (hb : H b = none) : Lk φ α H (φ ++ [b]) α H := by
  refine ⟨fun a o n1 n2 e => ⟨fun z => ?_, n2, e⟩, fun _ _ e => e⟩
  rcases List.mem_append.mp z with z | z
  · exact n1 z
  · rw [List.mem_singleton.mp z, hb] at e
    cases e
theorem look_new {φ α : List Addr} {H H' : Hp} {b : Addr} (hb : H b = none) (s : Same H H') : Lk φ α H (φ ++ [b]) α H' := ⟨fun a o n1 n2 e => let ⟨q1, q2, q3⟩ := (look_more hb).ob a o n1 n2 e; ⟨q1, q2, s a o e⟩, fun _ _ e => e⟩
theorem look_less {φ α : List Addr} {H : Hp} {b : Addr} : Lk (φ ++ [b]) α H φ α H := ⟨fun a o n1 n2 e => ⟨fun z => n1 (List.mem_append_left _ z), n2, e⟩, fun _ _ e => e⟩
theorem look_upd {φ α : List Addr} {H : Hp} {b : Addr} {u : HO} (hb : b ∈ φ) : Lk φ α H φ α (upd H b u) := ⟨fun a o n1 n2 e => ⟨n1, n2, by rw [upd_ne (fun z : a = b => n1 (by rw [z]; exact hb))]; exact e⟩, fun _ _ e => e⟩
end NH
end
section
set_option linter.all false
set_option maxRecDepth 100000
set_option maxHeartbeats 4000000
namespace NH
open PySem PySem.Spec PyProof.Rows L2
def Post (D : DP) (W : XW) (φ α : List Addr) (H : Hp) (σ : St) {β : Type} (R : β → Mem → List Addr → Hp → Prop) (r : RE β) : Prop :=
  ∃ K Z, r K Z ∧ (∀ a μ', K a μ' → ∀ α' H', Stp α H α' H' → MRel D φ α' H' μ' → R a μ' α' H') ∧
    ∀ c fs μ', Z c fs μ' → ∀ α' H' C d, Stp α H α' H' → MRel D φ α' H' μ' → D.adr c = some C → XDict D φ α' H' fs d → W (.ref C) d σ H'
section
variable {D : DP} {W : XW} {φ α α' : List Addr} {H H' : Hp} {σ : St} {β γ : Type} {R R' : β → Mem → List Addr → Hp → Prop} {S : γ → Mem → List Addr → Hp → Prop}
theorem Post.mono {r : RE β} (p : Post D W φ α H σ R r) (h : ∀ a μ' α' H', Stp α H α' H' → MRel D φ α' H' μ' → R a μ' α' H' → R' a μ' α' H') : Post D W φ α H σ R' r := by
  obtain ⟨K, Z, q, k, z⟩ := p
  exact ⟨K, Z, q, fun a μ' e α' H' s m => h a μ' α' H' s m (k a μ' e α' H' s m), z⟩
theorem Post.bind {r : RE γ} {k : γ → Mem → RE β} (p : Post D W φ α H σ R (r.bind k)) : Post D W φ α H σ (fun a μ' α' H' => Post D W φ α' H' σ R (k a μ')) r := by
  obtain ⟨K, Z, q, h, z⟩ := p
  exact ⟨fun a μ => k a μ K Z, Z, q, fun a μ' e α' H' s m => ⟨K, Z, e, fun b μ2 e2 α2 H2 s2 m2 => h b μ2 e2 α2 H2 (s.trans s2) m2, fun c fs μ2 e2 α2 H2 C d s2 m2 => z c fs μ2 e2 α2 H2 C d (s.trans s2) m2⟩, z⟩
theorem Post.elim {C : Prop} (p : Post D W φ α H σ R RE.st) : C := by obtain ⟨_, _, q, _⟩ := p; exact q.elim
theorem Post.grd {c : Prop} {r : RE β} (p : Post D W φ α H σ R (RE.grd c r)) : c ∧ Post D W φ α H σ R r := by
  obtain ⟨K, Z, q, h⟩ := p
  exact ⟨q.1, K, Z, q.2, h⟩
theorem Post.som {o : Option γ} {k : γ → RE β} (p : Post D W φ α H σ R (RE.som o k)) : ∃ a, o = some a ∧ Post D W φ α H σ R (k a) := by
  obtain ⟨K, Z, ⟨a, e, q⟩, h⟩ := p
  exact ⟨a, e, K, Z, q, h⟩
theorem Post.br {b : Bool} {r s : RE β} (p : Post D W φ α H σ R (RE.br b r s)) : (b = true ∧ Post D W φ α H σ R r) ∨ (b = false ∧ Post D W φ α H σ R s) := by
  obtain ⟨K, Z, q, h⟩ := p
  cases b with
  | true => exact .inl ⟨rfl, K, Z, q, h⟩
  | false => exact .inr ⟨rfl, K, Z, q, h⟩
theorem Post.ok {a : β} {μ : Mem} (p : Post D W φ α H σ R (RE.ok a μ)) {α' : List Addr} {H' : Hp} (s : Stp α H α' H') (m : MRel D φ α' H' μ) : R a μ α' H' := by
  obtain ⟨K, Z, q, h, _⟩ := p
  exact h a μ q α' H' s m
theorem Post.step {r : RE β} (p : Post D W φ α H σ R r) (st : Stp α H α' H') : Post D W φ α' H' σ R r := by
  obtain ⟨K, Z, q, h, z⟩ := p
  exact ⟨K, Z, q, fun b μ2 e2 α2 H2 s2 m2 => h b μ2 e2 α2 H2 (st.trans s2) m2, fun c fs μ2 e2 α2 H2 C d s2 m2 => z c fs μ2 e2 α2 H2 C d (st.trans s2) m2⟩
theorem Post.ex1 {δ : Type} {P : δ → Prop} {k : δ → RE β} (p : Post D W φ α H σ R (fun K Z => ∃ x, P x ∧ k x K Z)) : ∃ x, P x ∧ Post D W φ α H σ R (k x) := by
  obtain ⟨K, Z, ⟨x, hx, q⟩, h⟩ := p
  exact ⟨x, hx, K, Z, q, h⟩
end
def rdE (D : DP) (W : XW) (f : De) : TE := fun σ H Q => ∃ φ α τ μ, SRel D φ α H τ σ ∧ MRel D φ α H μ ∧ Post D W φ α H σ (fun t _ α' H' => ∀ v, Den D φ α' H' t v → Q v H') (f τ μ)
def rdT (D : DP) (W : XW) (f : Dt) : TT := fun σ H Q => ∃ φ α τ μ, SRel D φ α H τ σ ∧ MRel D φ α H μ ∧ Post D W φ α H σ (fun b _ _ H' => Q b H') (f τ μ)
def rdA (D : DP) (W : XW) (n : Nat) (f : Da) : TA := fun σ H Q => ∃ φ α τ μ, SRel D φ α H τ σ ∧ MRel D φ α H μ ∧ Post D W φ α H σ (fun ts _ α' H' => ∀ vs, DenL D φ α' H' ts vs → vs.length = n → Q vs H') (f τ μ)
section
variable {X : Cx} {D : DP} {W : XW} {pins : List (Addr × Obj)} {s : Shared} {σ : St} {H : Hp} {φ α : List Addr} {τ : Sl} {μ : Mem} {β : Type} {R : β → Mem → List Addr → Hp → Prop}
theorem sub {a : Expr} {f : Sl → Mem → RE T} {k : T → Mem → RE β} (ha : PE X a (rdE D W f)) (I : Inv X pins σ H s) (sr : SRel D φ α H τ σ) (mr : MRel D φ α H μ) (p : Post D W φ α H σ R ((f τ μ).bind k)) :
    wpAny (model X.prog X.w) X.A (eval a X.env) (fun u s1 => ∃ v H1 t μ1 α1, Inv X pins σ H1 s1 ∧ RelV v u ∧ Stp α H α1 H1 ∧ SRel D φ α1 H1 τ σ ∧ MRel D φ α1 H1 μ1 ∧ Den D φ α1 H1 t v ∧ Post D W φ α1 H1 σ R (k t μ1)) X.xe s := by
  refine thn (ha pins s σ H (fun v H1 => ∃ t μ1 α1, Stp α H α1 H1 ∧ SRel D φ α1 H1 τ σ ∧ MRel D φ α1 H1 μ1 ∧ Den D φ α1 H1 t v ∧ Post D W φ α1 H1 σ R (k t μ1)) I ⟨φ, α, τ, μ, sr, mr, p.bind.mono fun t μ' α' H' st m q v d => ⟨t, μ', α', st, sr.step st, m, d, q⟩⟩) ?_
  rintro u s1 ⟨v, H1, I1, r, t, μ1, α1, h⟩
  exact ⟨v, H1, t, μ1, α1, I1, r, h⟩
theorem subT {a : Expr} {f : Sl → Mem → RE Bool} {k : Bool → Mem → RE β} (ha : PT X a (rdT D W f)) (I : Inv X pins σ H s) (sr : SRel D φ α H τ σ) (mr : MRel D φ α H μ) (p : Post D W φ α H σ R ((f τ μ).bind k)) :
    wpAny (model X.prog X.w) X.A (isTrue a X.env (eval a X.env)) (fun b s1 => ∃ H1 μ1 α1, Inv X pins σ H1 s1 ∧ Stp α H α1 H1 ∧ SRel D φ α1 H1 τ σ ∧ MRel D φ α1 H1 μ1 ∧ Post D W φ α1 H1 σ R (k b μ1)) X.xe s := by
  refine thn (ha pins s σ H (fun b H1 => ∃ μ1 α1, Stp α H α1 H1 ∧ SRel D φ α1 H1 τ σ ∧ MRel D φ α1 H1 μ1 ∧ Post D W φ α1 H1 σ R (k b μ1)) I ⟨φ, α, τ, μ, sr, mr, p.bind.mono fun b μ' α' H' st m q => ⟨μ', α', st, sr.step st, m, q⟩⟩) ?_
  rintro b s1 ⟨H1, I1, μ1, α1, h⟩
  exact ⟨H1, μ1, α1, I1, h⟩
theorem subA {es : List Expr} {n : Nat} {pos : Pos} {f : Da} {k : List T → Mem → RE β} (ha : PA X es (rdA D W n f)) (I : Inv X pins σ H s) (sr : SRel D φ α H τ σ) (mr : MRel D φ α H μ) (p : Post D W φ α H σ R ((f τ μ).bind k)) :
    wpAny (model X.prog X.w) X.A (spliced (backTo pos (starEach es X.env))) (fun us s1 => ∃ vs H1 ts μ1 α1, Inv X pins σ H1 s1 ∧ Vals vs us ∧ Stp α H α1 H1 ∧ SRel D φ α1 H1 τ σ ∧ MRel D φ α1 H1 μ1 ∧ DenL D φ α1 H1 ts vs ∧ vs.length = n ∧ Post D W φ α1 H1 σ R (k ts μ1)) X.xe s := by
  refine thn (ha pos pins s σ H (fun vs H1 => ∃ ts μ1 α1, Stp α H α1 H1 ∧ SRel D φ α1 H1 τ σ ∧ MRel D φ α1 H1 μ1 ∧ DenL D φ α1 H1 ts vs ∧ vs.length = n ∧ Post D W φ α1 H1 σ R (k ts μ1)) I ⟨φ, α, τ, μ, sr, mr, p.bind.mono fun ts μ' α' H' st m q vs d hn => ⟨ts, μ', α', st, sr.step st, m, d, hn, q⟩⟩) ?_
  rintro us s1 ⟨vs, H1, I1, r, ts, μ1, α1, h⟩
  exact ⟨vs, H1, ts, μ1, α1, I1, r, h⟩
abbrev RV (D : DP) (φ : List Addr) (Q : VK) : T → Mem → List Addr → Hp → Prop := fun t _ α' H' => ∀ v, Den D φ α' H' t v → Q v H'
theorem Post.here {Q : VK} {t : T} {v : V} (p : Post D W φ α H σ (RV D φ Q) (.ok t μ)) (mr : MRel D φ α H μ) (d : Den D φ α H t v) : Q v H := p.ok (Stp.refl _ _) mr v d
theorem Post.fresh {Q : VK} {t : T} {v : V} {H' : Hp} (p : Post D W φ α H σ (RV D φ Q) (.ok t μ)) (mr : MRel D φ α H μ) (sm : Same H H') (d : Den D φ α H' t v) : Q v H' := p.ok (Stp.new sm) (mr.new sm) v d
theorem room_line {n : Nat} (h : n ≤ room) : n ≤ sizeLine := Nat.le_trans h (by unfold room; decide)
theorem fresh_phi {α : List Addr} (mr : MRel D φ α H μ) {p : Addr} (h : H p = none) : p ∉ φ := fun z => by
  obtain ⟨o, e⟩ := mr.phi p z
  rw [h] at e; cases e
theorem fresh_out {α : List Addr} (mr : MRel D φ α H μ) {p : Addr} (h : H p = none) : p ∉ α := fun z => by
  obtain ⟨i, hi⟩ := List.mem_iff_getElem?.mp z
  have hl : i < μ.length := by rw [← mr.len]; exact (List.getElem?_eq_some_iff.mp hi).1
  obtain ⟨u, e⟩ := (mr.ob i p μ[i] hi (by simp [hl])).some
  rw [h] at e; cases e
theorem intsOf_den : ∀ {ts : List T} {ns : List Int} {vs : List V}, intsOf ts = some ns → DenL D φ α H ts vs → vs = ns.map V.int
  | [], ns, vs, h, l => by
    simp [intsOf] at h; subst h
    exact l
  | t :: ts, ns, vs, h, l => by
    obtain ⟨v, r, rfl, d, l⟩ := l
    cases t with
    | int i =>
      simp only [intsOf] at h
      cases q : intsOf ts with
      | none => rw [q] at h; cases h
      | some ms =>
        rw [q] at h; cases h
        rw [intsOf_den q l]
        have d : v = .int i := d
        rw [d]; rfl
    | _ => simp [intsOf] at h
theorem op_catR : OpR X (binaryOp .Add) (fun x y H Q => ∃ l b xs zs, x = .ref l ∧ y = .ref b ∧ Rd H l (.lst xs) ∧ Rd H b (.lst zs) ∧ xs.length + zs.length ≤ sizeLine ∧ ∀ p, H p = none → Q (.ref p) (upd H p (.lst (xs ++ zs)))) := by
  intro pins s σ H x y v u Q I rx ry h
  obtain ⟨l, b, xs, zs, rfl, rfl, hH, hB, hz, q⟩ := h
  cases rx
  cases ry
  obtain ⟨z, its, n, r, e⟩ := hH.ok I.hok
  obtain ⟨z2, its2, n2, r2, e2⟩ := hB.ok I.hok
  refine PySem.P.add_list e e2 ?_ (by rw [List.size_toArray, List.size_toArray, ← r.length, ← r2.length]; exact hz)
  rw [show its.toArray ++ its2.toArray = (its ++ its2).toArray by simp]
  exact ⟨.ref _, _, I.lnew (t' := s.toks) (r.append r2) (by rw [List.length_append]; exact hz), rfl, q _ I.fresh⟩
theorem op_catT0 : OpR X (binaryOp .Add) (fun x y H Q => ∃ a b ys, x = .ref a ∧ y = .ref b ∧ SqT X.K H a [] ∧ SqT X.K H b ys ∧ Q (.ref b) H) := by
  intro pins s σ H x y v u Q I rx ry h
  obtain ⟨a, b, ys, rfl, rfl, ha, hb, q⟩ := h
  cases rx
  cases ry
  obtain ⟨its, r1, p1, _⟩ := I.tuple ha
  obtain ⟨its2, r2, p2, _⟩ := I.tuple hb
  cases r1
  obtain ⟨⟨cls, dd, data, sl⟩, ho, hc, n, hd⟩ := id p1
  obtain ⟨⟨cls2, dd2, data2, sl2⟩, ho2, hc2, n2, hd2⟩ := id p2
  simp only at hc hd hc2 hd2
  subst hc hd hc2 hd2
  exact concat_meets ⟨_, ho, rfl⟩ ⟨_, ho2, rfl⟩ noFill_tuple_add seq_tuple_add PySem.F.slot_tuple_add PySem.F.entry_tuple_add (PySem.F.args_tuple_add_2 _ _)
    (tuple_addW0 a b #[] its2.toArray n n2 dd dd2 sl sl2 rfl) ⟨ho, ho2, ⟨.ref b, H, I, rfl, q⟩⟩
theorem op_fdiv2 : OpR X (binaryOp .FloorDiv) (rI (fun _ j => 0 < j ∧ j < 1606938044258990275541962092341162602522202993782792835301376) fun i j => .int (i / j)) := opI fun i j _ _ _ _ _ hc q => by
  have h1 : (0 : Int) < j := hc.1
  have h2 : j < 1606938044258990275541962092341162602522202993782792835301376 := hc.2
  refine floordiv_int (by omega) (by rw [Int.fdiv_eq_ediv_of_nonneg i (by omega)]; exact q) (.inl (PyProof.noPylong_of_log2 ?_))
  refine Nat.lt_of_lt_of_le ((Nat.log2_lt (by omega)).2 (show j.natAbs < 2 ^ 200 by omega)) (by decide)
theorem inT2_of {f : Int → Int → Mem → RE T} {x y : T} {Q : VK} (p : Post D W φ α H σ (RV D φ Q) (inT2 f x y μ)) : ∃ i j, x = .int i ∧ y = .int j ∧ Post D W φ α H σ (RV D φ Q) (f i j μ) := by
  unfold inT2 at p
  split at p
  · exact ⟨_, _, rfl, rfl, p⟩
  · exact p.elim
theorem op_bin {op : Operator} {x y : T} {v1 v2 : V} {u1 u2 : Value} {Q : VK} (I : Inv X pins σ H s) (mr : MRel D φ α H μ) (d1 : Den D φ α H x v1) (d2 : Den D φ α H y v2) (r1 : RelV v1 u1) (r2 : RelV v2 u2)
    (p : Post D W φ α H σ (RV D φ Q) (binT op x y μ)) : wpAny (model X.prog X.w) X.A (binaryOp op u1 u2) (EP X pins σ Q) X.xe s := by
  have cat : ∀ {a b : Addr} {vs ws : List V} {xs ys : List T}, Rd H a (.lst vs) → Rd H b (.lst ws) → DenL D φ α H xs vs → DenL D φ α H ys ws → v1 = .ref a → v2 = .ref b → xs.length + ys.length ≤ room → Post D W φ α H σ (RV D φ Q) (RE.ok (.lst (xs ++ ys)) μ) → wpAny (model X.prog X.w) X.A (binaryOp .Add u1 u2) (EP X pins σ Q) X.xe s := fun {a b vs ws xs ys} q1 q2 l1 l2 e1 e2 h p => by
    subst e1 e2
    refine op_catR pins s σ H _ _ _ _ Q I r1 r2 ⟨a, b, vs, ws, rfl, rfl, q1, q2, by rw [← l1.length, ← l2.length]; exact room_line h, fun z hz => ?_⟩
    have sm := same_upd (o := .lst (vs ++ ws)) hz
    exact p.fresh mr sm ⟨z, _, rfl, fresh_phi mr hz, fresh_out mr hz, .inl upd_same, (l1.step (Stp.new sm)).append (l2.step (Stp.new sm))⟩
  cases op with
  | Add =>
    replace p : Post D W φ α H σ (RV D φ Q) (addT x y μ) := p
    unfold addT at p
    split at p
    · cases d1; cases d2
      exact op_add pins s σ H _ _ _ _ Q I r1 r2 ⟨_, _, rfl, rfl, p.here mr rfl⟩
    · cases d1; cases d2
      obtain ⟨h, p⟩ := p.grd
      exact op_add_str pins s σ H _ _ _ _ Q I r1 r2 ⟨_, _, rfl, rfl, room_line h, p.here mr rfl⟩
    · obtain ⟨h, p⟩ := p.grd
      obtain ⟨a, vs, rfl, n1, n2, q1, l1⟩ := d1
      obtain ⟨b, ws, rfl, m1, m2, q2, l2⟩ := d2
      refine op_catR pins s σ H _ _ _ _ Q I r1 r2 ⟨a, b, vs, ws, rfl, rfl, q1, q2, by rw [← l1.length, ← l2.length]; exact room_line h, fun z hz => ?_⟩
      have sm := same_upd (o := .lst (vs ++ ws)) hz
      exact p.fresh mr sm ⟨z, _, rfl, fresh_phi mr hz, fresh_out mr hz, .inl upd_same, (l1.step (Stp.new sm)).append (l2.step (Stp.new sm))⟩
    · rename_i xs ys
      obtain ⟨h, p⟩ := p.grd
      · obtain ⟨a, vs, rfl, n1, n2, q1, l1⟩ := d1
        obtain ⟨b, ws, rfl, m1, m2, q2, l2⟩ := d2
        cases vs with
        | nil =>
          cases xs with
          | cons x xs => obtain ⟨_, _, e, _⟩ := l1; cases e
          | nil => exact op_catT0 pins s σ H _ _ _ _ Q I r1 r2 ⟨a, b, ws, rfl, rfl, .inl q1, .inl q2, p.here mr ⟨b, ws, rfl, m1, m2, q2, l2⟩⟩
        | cons v vs =>
          refine op_catT pins s σ H _ _ _ _ Q I r1 r2 ⟨a, b, v :: vs, ws, rfl, rfl, .inl q1, .inl q2, by simp, by rw [← l1.length, ← l2.length]; exact room_line h, fun hw => ?_, fun hw z hz => ?_⟩
          · subst hw
            cases ys with
            | cons y ys => obtain ⟨_, _, e, _⟩ := l2; cases e
            | nil =>
              rw [List.append_nil] at p
              exact p.here mr ⟨a, v :: vs, rfl, n1, n2, q1, l1⟩
          · have sm := same_upd (o := .tup (v :: vs ++ ws)) hz
            exact p.fresh mr sm ⟨z, _, rfl, fresh_phi mr hz, fresh_out mr hz, .inl upd_same, (l1.step (Stp.new sm)).append (l2.step (Stp.new sm))⟩
    · obtain ⟨xs, hi, p⟩ := p.ex1
      obtain ⟨h, p⟩ := Post.grd p
      obtain ⟨a, hi', rfl⟩ := d1
      obtain ⟨vs, q1, l1⟩ := mr.ob _ a _ hi' hi
      obtain ⟨b, ws, rfl, m1, m2, q2, l2⟩ := d2
      exact cat (.inl q1) q2 l1 l2 rfl rfl h p
    · obtain ⟨ys, hi, p⟩ := p.ex1
      obtain ⟨h, p⟩ := Post.grd p
      obtain ⟨a, hi', rfl⟩ := d2
      obtain ⟨vs, q1, l1⟩ := mr.ob _ a _ hi' hi
      obtain ⟨b, ws, rfl, m1, m2, q2, l2⟩ := d1
      exact cat q2 (.inl q1) l2 l1 rfl rfl h p
    · obtain ⟨pr, hi, p⟩ := p.ex1
      obtain ⟨h, p⟩ := Post.grd p
      obtain ⟨a, hi', rfl⟩ := d1
      obtain ⟨vs, q1, l1⟩ := mr.ob _ a _ hi' hi.1
      obtain ⟨b, hj', rfl⟩ := d2
      obtain ⟨ws, q2, l2⟩ := mr.ob _ b _ hj' hi.2
      exact cat (.inl q1) (.inl q2) l1 l2 rfl rfl h p
    · exact p.elim
  | Sub =>
    obtain ⟨i, j, rfl, rfl, p⟩ := inT2_of p
    cases d1; cases d2
    exact op_sub pins s σ H _ _ _ _ Q I r1 r2 ⟨_, _, rfl, rfl, p.here mr rfl⟩
  | Mult =>
    obtain ⟨i, j, rfl, rfl, p⟩ := inT2_of p
    cases d1; cases d2
    obtain ⟨h, p⟩ := p.grd
    exact op_mul pins s σ H _ _ _ _ Q I r1 r2 ⟨_, _, rfl, rfl, by simpa [CMul, big] using h, p.here mr rfl⟩
  | FloorDiv =>
    obtain ⟨i, j, rfl, rfl, p⟩ := inT2_of p
    cases d1; cases d2
    obtain ⟨h, p⟩ := p.grd
    exact op_fdiv2 pins s σ H _ _ _ _ Q I r1 r2 ⟨_, _, rfl, rfl, h, p.here mr rfl⟩
  | Mod =>
    obtain ⟨i, j, rfl, rfl, p⟩ := inT2_of p
    cases d1; cases d2
    obtain ⟨h, p⟩ := p.grd
    exact op_mod pins s σ H _ _ _ _ Q I r1 r2 ⟨_, _, rfl, rfl, h, p.here mr rfl⟩
  | Pow =>
    obtain ⟨i, j, rfl, rfl, p⟩ := inT2_of p
    cases d1; cases d2
    obtain ⟨h, p⟩ := p.grd
    exact op_pow pins s σ H _ _ _ _ Q I r1 r2 ⟨_, _, rfl, rfl, ⟨h.1, h.2.1, by simpa using h.2.2⟩, p.here mr rfl⟩
  | RShift =>
    obtain ⟨i, j, rfl, rfl, p⟩ := inT2_of p
    cases d1; cases d2
    obtain ⟨h, p⟩ := p.grd
    exact op_shr pins s σ H _ _ _ _ Q I r1 r2 ⟨_, _, rfl, rfl, h, p.here mr rfl⟩
  | BitAnd =>
    obtain ⟨i, j, rfl, rfl, p⟩ := inT2_of p
    cases d1; cases d2
    exact op_and pins s σ H _ _ _ _ Q I r1 r2 ⟨_, _, rfl, rfl, p.here mr rfl⟩
  | _ => exact (show Post D W φ α H σ (RV D φ Q) .st from p).elim
end
end NH
end
section
set_option linter.all false
set_option maxRecDepth 100000
set_option maxHeartbeats 8000000
namespace NH
open PySem PySem.Spec PyProof.Rows L2
section
variable {D : DP} {φ α : List Addr} {H : Hp}
theorem Rd.inj {a : Addr} {u w : HO} (hu : ∀ o z, u ≠ .frz o z) (hw : ∀ o z, w ≠ .frz o z) (r : Rd H a u) (q : Rd H a w) : u = w := by
  rcases r with r | ⟨o, r⟩ <;> rcases q with q | ⟨o', q⟩ <;> rw [r] at q
  · exact Option.some.inj q
  · exact absurd (Option.some.inj q) (hu _ _)
  · exact absurd (Option.some.inj q).symm (hw _ _)
  · injection Option.some.inj q
mutual
theorem den_same : ∀ {t u : T} {v : V} {k : Bool}, Den D φ α H t v → Den D φ α H u v → eqT t u = some k → k = true
  | .int i, u, _, k, h1, h2, e => by
    have h1 : _ = V.int i := h1
    subst h1
    cases u with
    | int j => have h2 : V.int i = V.int j := h2; injection h2 with h2; subst h2; rw [← Option.some.inj e]; simp
    | bl b => have h2 : V.int i = V.bl b := h2; cases h2
    | str b => have h2 : V.int i = V.str b := h2; cases h2
    | non => have h2 : V.int i = V.non := h2; cases h2
    | tup b => obtain ⟨_, _, h2, _⟩ := h2; cases h2
    | lst b => obtain ⟨_, _, h2, _⟩ := h2; cases h2
    | _ => cases e
  | .bl i, u, _, k, h1, h2, e => by
    have h1 : _ = V.bl i := h1
    subst h1
    cases u with
    | bl j => have h2 : V.bl i = V.bl j := h2; injection h2 with h2; subst h2; rw [← Option.some.inj e]; simp
    | int b => have h2 : V.bl i = V.int b := h2; cases h2
    | str b => have h2 : V.bl i = V.str b := h2; cases h2
    | non => have h2 : V.bl i = V.non := h2; cases h2
    | tup b => obtain ⟨_, _, h2, _⟩ := h2; cases h2
    | lst b => obtain ⟨_, _, h2, _⟩ := h2; cases h2
    | _ => cases e
  | .str i, u, _, k, h1, h2, e => by
    have h1 : _ = V.str i := h1
    subst h1
    cases u with
    | str j => have h2 : V.str i = V.str j := h2; injection h2 with h2; subst h2; rw [← Option.some.inj e]; simp
    | int b => have h2 : V.str i = V.int b := h2; cases h2
    | bl b => have h2 : V.str i = V.bl b := h2; cases h2
    | non => have h2 : V.str i = V.non := h2; cases h2
    | tup b => obtain ⟨_, _, h2, _⟩ := h2; cases h2
    | lst b => obtain ⟨_, _, h2, _⟩ := h2; cases h2
    | _ => cases e
  | .non, u, _, k, h1, h2, e => by
    have h1 : _ = V.non := h1
    subst h1
    cases u with
    | non => exact (Option.some.inj e).symm
    | int b => have h2 : V.non = V.int b := h2; cases h2
    | bl b => have h2 : V.non = V.bl b := h2; cases h2
    | str b => have h2 : V.non = V.str b := h2; cases h2
    | tup b => obtain ⟨_, _, h2, _⟩ := h2; cases h2
    | lst b => obtain ⟨_, _, h2, _⟩ := h2; cases h2
    | _ => cases e
  | .tup ts, u, _, k, h1, h2, e => by
    obtain ⟨a, xs, rfl, _, _, r, l⟩ := h1
    cases u with
    | tup us =>
      obtain ⟨b, ys, e2, _, _, r', l'⟩ := h2
      cases e2
      have := Rd.inj (by intro _ _ z; cases z) (by intro _ _ z; cases z) r r'
      injection this with this
      subst this
      exact denL_same l l' e
    | lst us =>
      obtain ⟨b, ys, e2, _, _, r', l'⟩ := h2
      cases e2
      have := Rd.inj (by intro _ _ z; cases z) (by intro _ _ z; cases z) r r'
      cases this
    | int b => have h2 : V.ref a = V.int b := h2; cases h2
    | bl b => have h2 : V.ref a = V.bl b := h2; cases h2
    | str b => have h2 : V.ref a = V.str b := h2; cases h2
    | non => have h2 : V.ref a = V.non := h2; cases h2
    | _ => cases e
  | .lst ts, u, _, k, h1, h2, e => by
    obtain ⟨a, xs, rfl, _, _, r, l⟩ := h1
    cases u with
    | lst us =>
      obtain ⟨b, ys, e2, _, _, r', l'⟩ := h2
      cases e2
      have := Rd.inj (by intro _ _ z; cases z) (by intro _ _ z; cases z) r r'
      injection this with this
      subst this
      exact denL_same l l' e
    | tup us =>
      obtain ⟨b, ys, e2, _, _, r', l'⟩ := h2
      cases e2
      have := Rd.inj (by intro _ _ z; cases z) (by intro _ _ z; cases z) r r'
      cases this
    | int b => have h2 : V.ref a = V.int b := h2; cases h2
    | bl b => have h2 : V.ref a = V.bl b := h2; cases h2
    | str b => have h2 : V.ref a = V.str b := h2; cases h2
    | non => have h2 : V.ref a = V.non := h2; cases h2
    | _ => cases e
  | .obj _ _, _, _, _, _, _, e => by cases e
  | .mut _, _, _, _, _, _, e => by cases e
  | .exc _ _, _, _, _, _, _, e => by cases e
  | .dic _, _, _, _, _, _, e => by cases e
  | .clo _ _, _, _, _, _, _, e => by cases e
theorem denL_same : ∀ {ts us : List T} {vs : List V} {k : Bool}, DenL D φ α H ts vs → DenL D φ α H us vs → eqL ts us = some k → k = true
  | [], [], _, k, _, _, e => by simpa [eqL] using e.symm
  | [], _ :: _, _, k, h1, h2, e => by
    have h1 : _ = [] := h1
    obtain ⟨_, _, h2, _⟩ := h2
    rw [h1] at h2; cases h2
  | _ :: _, [], _, k, h1, h2, e => by
    have h2 : _ = [] := h2
    obtain ⟨_, _, h1, _⟩ := h1
    rw [h2] at h1; cases h1
  | t :: ts, u :: us, _, k, h1, h2, e => by
    obtain ⟨v, r, rfl, a1, b1⟩ := h1
    obtain ⟨v', r', q, a2, b2⟩ := h2
    injection q with q1 q2
    subst q1 q2
    cases h : eqT t u with
    | none => simp [eqL, h] at e
    | some x =>
      cases h' : eqL ts us with
      | none => simp [eqL, h, h'] at e
      | some y =>
        have e1 := den_same a1 a2 h
        have e2 := denL_same b1 b2 h'
        subst e1 e2
        simpa [eqL, h, h'] using e.symm
end
end
section
variable {X : Cx} {D : DP} {pins : List (Addr × Obj)} {s : Shared} {σ : St} {H : Hp} {φ α : List Addr}
theorem eqL_at : ∀ {ts us : List T} {k : Bool}, eqL ts us = some k → (∀ j (h1 : j < ts.length) (h2 : j < us.length), ∃ b, eqT ts[j] us[j] = some b) ∧
    k = ((List.range (min ts.length us.length)).all (fun j => match ts[j]?, us[j]? with | some t, some u => (eqT t u).getD false | _, _ => false) && ts.length == us.length)
  | [], [], k, e => by
    simp [eqL] at e; subst e
    exact ⟨fun j h1 => by simp at h1, by simp⟩
  | [], u :: us, k, e => by
    simp [eqL] at e; subst e
    exact ⟨fun j h1 => by simp at h1, by simp⟩
  | t :: ts, [], k, e => by
    simp [eqL] at e; subst e
    exact ⟨fun j h1 h2 => by simp at h2, by simp⟩
  | t :: ts, u :: us, k, e => by
    cases h : eqT t u with
    | none => simp [eqL, h] at e
    | some x =>
      cases h' : eqL ts us with
      | none => simp [eqL, h, h'] at e
      | some y =>
        obtain ⟨g, ih⟩ := eqL_at h'
        simp [eqL, h, h'] at e
        subst e
        refine ⟨fun j h1 h2 => ?_, ?_⟩
        · cases j with
          | zero => exact ⟨x, h⟩
          | succ j => exact g j (by simpa using h1) (by simpa using h2)
        · rw [ih]
          have e1 : min (t :: ts).length (u :: us).length = min ts.length us.length + 1 := by simp [Nat.succ_min_succ]
          rw [e1, List.range_succ_eq_map, List.all_cons, List.all_map]
          simp only [List.getElem?_cons_zero, h, Option.getD_some, Function.comp_def, List.getElem?_cons_succ, List.length_cons]
          rw [Bool.and_assoc]
          congr 2
          simp
theorem in1_units (A : Around) : A.in1.units = A.units + 1 := by first | rfl | simp [Around.in1, Around.units]
theorem eqAt_int (I : Inv X pins σ H s) {i : Int} {u : T} {v w : V} {a b : Value} {k : Bool} {A : Around} (h1 : Den D φ α H (.int i) v) (h2 : Den D φ α H u w) (r1 : RelV v a) (r2 : RelV w b) (e : eqT (.int i) u = some k) (hu : A.units + depT (.int i) + 1 < cLine) : SeqAt.EqAt A s a b k := by
  have h1 : _ = V.int i := h1
  subst h1
  obtain ⟨t1, rfl⟩ := r1
  cases u with
  | int j => have h2 : w = V.int j := h2; subst h2; obtain ⟨t2, rfl⟩ := r2; cases Option.some.inj e; exact SeqAt.EqAt.int_int _ _ _ _
  | bl j => have h2 : w = V.bl j := h2; subst h2; cases r2; cases Option.some.inj e; exact SeqAt.EqAt.int_bool _ _ _
  | str j => have h2 : w = V.str j := h2; subst h2; obtain ⟨t2, rfl⟩ := r2; cases Option.some.inj e; exact SeqAt.EqAt.int_str _ _ _ _
  | non => have h2 : w = V.non := h2; subst h2; cases r2; cases Option.some.inj e; exact SeqAt.EqAt.int_none _ _
  | tup ys => obtain ⟨c, xs, rfl, _, _, r, _⟩ := h2; cases r2; obtain ⟨its, _, p, _⟩ := I.tuple (.inl r); cases Option.some.inj e; exact SeqAt.EqAt.int_tuple _ _ p (by omega)
  | lst ys => obtain ⟨c, xs, rfl, _, _, r, _⟩ := h2; cases r2; obtain ⟨its, _, p, _⟩ := I.list (.inl r); cases Option.some.inj e; exact SeqAt.EqAt.int_list _ _ p.isList (by omega)
  | _ => cases e
theorem eqAt_bl (I : Inv X pins σ H s) {i : Bool} {u : T} {v w : V} {a b : Value} {k : Bool} {A : Around} (h1 : Den D φ α H (.bl i) v) (h2 : Den D φ α H u w) (r1 : RelV v a) (r2 : RelV w b) (e : eqT (.bl i) u = some k) (hu : A.units + depT (.bl i) + 1 < cLine) : SeqAt.EqAt A s a b k := by
  have h1 : _ = V.bl i := h1
  subst h1
  cases r1
  cases u with
  | int j => have h2 : w = V.int j := h2; subst h2; obtain ⟨t2, rfl⟩ := r2; cases Option.some.inj e; exact SeqAt.EqAt.bool_int _ _ _
  | bl j => have h2 : w = V.bl j := h2; subst h2; cases r2; cases Option.some.inj e; exact SeqAt.EqAt.bool_bool _ _
  | str j => have h2 : w = V.str j := h2; subst h2; obtain ⟨t2, rfl⟩ := r2; cases Option.some.inj e; exact SeqAt.EqAt.bool_str _ _ _
  | non => have h2 : w = V.non := h2; subst h2; cases r2; cases Option.some.inj e; exact SeqAt.EqAt.bool_none _
  | tup ys => obtain ⟨c, xs, rfl, _, _, r, _⟩ := h2; cases r2; obtain ⟨its, _, p, _⟩ := I.tuple (.inl r); cases Option.some.inj e; exact SeqAt.EqAt.bool_tuple _ p (by omega)
  | lst ys => obtain ⟨c, xs, rfl, _, _, r, _⟩ := h2; cases r2; obtain ⟨its, _, p, _⟩ := I.list (.inl r); cases Option.some.inj e; exact SeqAt.EqAt.bool_list _ p.isList (by omega)
  | _ => cases e
theorem eqAt_str (I : Inv X pins σ H s) {i : Str} {u : T} {v w : V} {a b : Value} {k : Bool} {A : Around} (h1 : Den D φ α H (.str i) v) (h2 : Den D φ α H u w) (r1 : RelV v a) (r2 : RelV w b) (e : eqT (.str i) u = some k) (hu : A.units + depT (.str i) + 1 < cLine) : SeqAt.EqAt A s a b k := by
  have h1 : _ = V.str i := h1
  subst h1
  obtain ⟨t1, rfl⟩ := r1
  cases u with
  | int j => have h2 : w = V.int j := h2; subst h2; obtain ⟨t2, rfl⟩ := r2; cases Option.some.inj e; exact SeqAt.EqAt.str_int _ _ _ _
  | bl j => have h2 : w = V.bl j := h2; subst h2; cases r2; cases Option.some.inj e; exact SeqAt.EqAt.str_bool _ _ _
  | str j => have h2 : w = V.str j := h2; subst h2; obtain ⟨t2, rfl⟩ := r2; cases Option.some.inj e; exact SeqAt.EqAt.str_str _ _ _ _
  | non => have h2 : w = V.non := h2; subst h2; cases r2; cases Option.some.inj e; exact SeqAt.EqAt.str_none _ _
  | tup ys => obtain ⟨c, xs, rfl, _, _, r, _⟩ := h2; cases r2; obtain ⟨its, _, p, _⟩ := I.tuple (.inl r); cases Option.some.inj e; exact SeqAt.EqAt.str_tuple _ _ p (by omega)
  | lst ys => obtain ⟨c, xs, rfl, _, _, r, _⟩ := h2; cases r2; obtain ⟨its, _, p, _⟩ := I.list (.inl r); cases Option.some.inj e; exact SeqAt.EqAt.str_list _ _ p.isList (by omega)
  | _ => cases e
theorem eqAt_non (I : Inv X pins σ H s) {u : T} {v w : V} {a b : Value} {k : Bool} {A : Around} (h1 : Den D φ α H .non v) (h2 : Den D φ α H u w) (r1 : RelV v a) (r2 : RelV w b) (e : eqT .non u = some k) (hu : A.units + depT .non + 1 < cLine) : SeqAt.EqAt A s a b k := by
  have h1 : _ = V.non := h1
  subst h1
  cases r1
  cases u with
  | int j => have h2 : w = V.int j := h2; subst h2; obtain ⟨t2, rfl⟩ := r2; cases Option.some.inj e; exact SeqAt.EqAt.none_int _ _
  | bl j => have h2 : w = V.bl j := h2; subst h2; cases r2; cases Option.some.inj e; exact SeqAt.EqAt.none_bool _
  | str j => have h2 : w = V.str j := h2; subst h2; obtain ⟨t2, rfl⟩ := r2; cases Option.some.inj e; exact SeqAt.EqAt.none_str _ _
  | non => have h2 : w = V.non := h2; subst h2; cases r2; cases Option.some.inj e; exact SeqAt.EqAt.same _
  | tup ys => obtain ⟨c, xs, rfl, _, _, r, _⟩ := h2; cases r2; obtain ⟨its, _, p, _⟩ := I.tuple (.inl r); cases Option.some.inj e; exact SeqAt.EqAt.none_tuple p (by omega)
  | lst ys => obtain ⟨c, xs, rfl, _, _, r, _⟩ := h2; cases r2; obtain ⟨its, _, p, _⟩ := I.list (.inl r); cases Option.some.inj e; exact SeqAt.EqAt.none_list p.isList (by omega)
  | _ => cases e
theorem eqAt_tupNo (I : Inv X pins σ H s) {ts : List T} {u : T} {v0 w : V} {a b : Value} {k : Bool} {A : Around} (hn : ∀ us, u ≠ .tup us) (h1 : Den D φ α H (.tup ts) v0) (h2 : Den D φ α H u w) (r1 : RelV v0 a) (r2 : RelV w b) (e : eqT (.tup ts) u = some k) (hu : A.units + depT (.tup ts) + 1 < cLine) : SeqAt.EqAt A s a b k := by
  cases u with
  | tup us => exact absurd rfl (hn us)
  | lst us =>
    obtain ⟨c, xs, rfl, _, _, r, l⟩ := h1
    obtain ⟨d, ys, rfl, _, _, r', l'⟩ := h2
    cases r1; cases r2
    obtain ⟨_, _, p, _⟩ := I.tuple (.inl r)
    obtain ⟨_, _, p', _⟩ := I.list (.inl r')
    cases Option.some.inj e
    exact SeqAt.EqAt.tuple_list p p'.isList (by omega)
  | int j => have h2 : w = V.int j := h2; subst h2; obtain ⟨t2, rfl⟩ := r2; obtain ⟨c, xs, rfl, _, _, r, _⟩ := h1; cases r1; obtain ⟨its, _, p, _⟩ := I.tuple (.inl r); cases Option.some.inj e; exact SeqAt.EqAt.tuple_int _ _ p (by omega)
  | bl j => have h2 : w = V.bl j := h2; subst h2; cases r2; obtain ⟨c, xs, rfl, _, _, r, _⟩ := h1; cases r1; obtain ⟨its, _, p, _⟩ := I.tuple (.inl r); cases Option.some.inj e; exact SeqAt.EqAt.tuple_bool _ p (by omega)
  | str j => have h2 : w = V.str j := h2; subst h2; obtain ⟨t2, rfl⟩ := r2; obtain ⟨c, xs, rfl, _, _, r, _⟩ := h1; cases r1; obtain ⟨its, _, p, _⟩ := I.tuple (.inl r); cases Option.some.inj e; exact SeqAt.EqAt.tuple_str _ _ p (by omega)
  | non => have h2 : w = V.non := h2; subst h2; cases r2; obtain ⟨c, xs, rfl, _, _, r, _⟩ := h1; cases r1; obtain ⟨its, _, p, _⟩ := I.tuple (.inl r); cases Option.some.inj e; exact SeqAt.EqAt.tuple_none p (by omega)
  | _ => cases e
theorem eqAt_lstNo (I : Inv X pins σ H s) {ts : List T} {u : T} {v0 w : V} {a b : Value} {k : Bool} {A : Around} (hn : ∀ us, u ≠ .lst us) (h1 : Den D φ α H (.lst ts) v0) (h2 : Den D φ α H u w) (r1 : RelV v0 a) (r2 : RelV w b) (e : eqT (.lst ts) u = some k) (hu : A.units + depT (.lst ts) + 1 < cLine) : SeqAt.EqAt A s a b k := by
  cases u with
  | lst us => exact absurd rfl (hn us)
  | tup us =>
    obtain ⟨c, xs, rfl, _, _, r, l⟩ := h1
    obtain ⟨d, ys, rfl, _, _, r', l'⟩ := h2
    cases r1; cases r2
    obtain ⟨_, _, p, _⟩ := I.list (.inl r)
    obtain ⟨_, _, p', _⟩ := I.tuple (.inl r')
    cases Option.some.inj e
    exact SeqAt.EqAt.list_tuple p.isList p' (by omega)
  | int j => have h2 : w = V.int j := h2; subst h2; obtain ⟨t2, rfl⟩ := r2; obtain ⟨c, xs, rfl, _, _, r, _⟩ := h1; cases r1; obtain ⟨its, _, p, _⟩ := I.list (.inl r); cases Option.some.inj e; exact SeqAt.EqAt.list_int _ _ p.isList (by omega)
  | bl j => have h2 : w = V.bl j := h2; subst h2; cases r2; obtain ⟨c, xs, rfl, _, _, r, _⟩ := h1; cases r1; obtain ⟨its, _, p, _⟩ := I.list (.inl r); cases Option.some.inj e; exact SeqAt.EqAt.list_bool _ p.isList (by omega)
  | str j => have h2 : w = V.str j := h2; subst h2; obtain ⟨t2, rfl⟩ := r2; obtain ⟨c, xs, rfl, _, _, r, _⟩ := h1; cases r1; obtain ⟨its, _, p, _⟩ := I.list (.inl r); cases Option.some.inj e; exact SeqAt.EqAt.list_str _ _ p.isList (by omega)
  | non => have h2 : w = V.non := h2; subst h2; cases r2; obtain ⟨c, xs, rfl, _, _, r, _⟩ := h1; cases r1; obtain ⟨its, _, p, _⟩ := I.list (.inl r); cases Option.some.inj e; exact SeqAt.EqAt.list_none p.isList (by omega)
  | _ => cases e
def EqN (D : DP) (φ α : List Addr) (H : Hp) (s : Shared) (n : Nat) : Prop := ∀ (t u : T) (v w : V) (a b : Value) (k : Bool) (A : Around), depT t < n → Den D φ α H t v → Den D φ α H u w → RelV v a → RelV w b → eqT t u = some k → A.units + depT t + 1 < cLine → SeqAt.EqAt A s a b k
theorem eqAt_itemsN {n : Nat} (ih : EqN D φ α H s n) : ∀ {ts us : List T} {xs ys : List V} {its its2 : List Value} {A : Around}, depL ts < n → DenL D φ α H ts xs → DenL D φ α H us ys → Vals xs its → Vals ys its2 → A.units + depL ts + 1 < cLine →
    ∀ (j : Nat) (h1 : j < its.length) (h2 : j < its2.length), (∀ (g1 : j < ts.length) (g2 : j < us.length), ∃ b, eqT ts[j] us[j] = some b) → SeqAt.EqAt A s its[j] its2[j] (match ts[j]?, us[j]? with | some t, some u => (eqT t u).getD false | _, _ => false)
  | [], _, xs, _, its, _, A, _, l, _, rv, _, _, j, h1, _, _ => by
    have l : xs = [] := l
    subst l
    cases rv
    simp at h1
  | t :: ts, us, xs, ys, its, its2, A, hd, l, l', rv, rv', hu, j, h1, h2, g => by
    obtain ⟨v, r, rfl, d1, l⟩ := l
    cases rv with
    | @cons _ u0 _ us0 r0 rv =>
    cases us with
    | nil =>
      have l' : ys = [] := l'
      subst l'
      cases rv'
      simp at h2
    | cons u us =>
      obtain ⟨w, r', rfl, d2, l'⟩ := l'
      cases rv' with
      | @cons _ u0' _ us0' r0' rv' =>
      simp only [depL] at hu hd
      cases j with
      | zero =>
        obtain ⟨b, hb⟩ := g (by simp) (by simp)
        have hb' : eqT t u = some b := by simpa using hb
        simp only [List.getElem?_cons_zero, hb', Option.getD_some, List.getElem_cons_zero]
        exact ih _ _ _ _ _ _ _ _ (by omega) d1 d2 r0 r0' hb' (by omega)
      | succ j =>
        simp only [List.getElem?_cons_succ, List.getElem_cons_succ]
        exact eqAt_itemsN ih (by omega) l l' rv rv' (by omega) j (by simpa using h1) (by simpa using h2) fun g1 g2 => by
          obtain ⟨b, hb⟩ := g (by simpa using g1) (by simpa using g2)
          exact ⟨b, by simpa using hb⟩
theorem rcAt_tupN (I : Inv X pins σ H s) {n : Nat} (ih : EqN D φ α H s n) {ts us : List T} {xs ys : List V} {c d : Addr} {k : Bool} {A : Around} (hd : depL ts < n) (l : DenL D φ α H ts xs) (l' : DenL D φ α H us ys) (r : Rd H c (.tup xs)) (r' : Rd H d (.tup ys)) (e : eqL ts us = some k) (hu : A.units + depL ts + 2 < cLine) : SeqAt.RcAt A s (.ref c) (.ref d) k := by
  obtain ⟨its, rv, p, _⟩ := I.tuple (.inl r)
  obtain ⟨its2, rv', p', _⟩ := I.tuple (.inl r')
  obtain ⟨g, rfl⟩ := eqL_at e
  have h1 : ts.length = its.length := l.length.trans rv.length
  have h2 : us.length = its2.length := l'.length.trans rv'.length
  have := SeqAt.RcAt.tuples (A := A) (e := fun j => match ts[j]?, us[j]? with | some t, some u => (eqT t u).getD false | _, _ => false) p p' (by omega) fun j q1 q2 => by
    have := eqAt_itemsN (A := A.in1) ih hd l l' rv rv' (by rw [in1_units]; omega) j (by simpa using q1) (by simpa using q2) fun g1 g2 => g j g1 g2
    simpa using this
  simpa [h1, h2] using this
theorem rcAt_lstN (I : Inv X pins σ H s) {n : Nat} (ih : EqN D φ α H s n) {ts us : List T} {xs ys : List V} {c d : Addr} {k : Bool} {A : Around} (hd : depL ts < n) (l : DenL D φ α H ts xs) (l' : DenL D φ α H us ys) (r : Rd H c (.lst xs)) (r' : Rd H d (.lst ys)) (e : eqL ts us = some k) (hu : A.units + depL ts + 2 < cLine) : SeqAt.RcAt A s (.ref c) (.ref d) k := by
  obtain ⟨its, rv, p, _⟩ := I.list (.inl r)
  obtain ⟨its2, rv', p', _⟩ := I.list (.inl r')
  obtain ⟨g, rfl⟩ := eqL_at e
  have h1 : ts.length = its.length := l.length.trans rv.length
  have h2 : us.length = its2.length := l'.length.trans rv'.length
  by_cases hl : ts.length = us.length
  · have := SeqAt.RcAt.lists (A := A) (e := fun j => match ts[j]?, us[j]? with | some t, some u => (eqT t u).getD false | _, _ => false) p.isList p'.isList (by simp; omega) (by omega) fun j q1 q2 => by
      have := eqAt_itemsN (A := A.in1) ih hd l l' rv rv' (by rw [in1_units]; omega) j (by simpa using q1) (by simpa using q2) fun g1 g2 => g j g1 g2
      simpa using this
    have e2 : min ts.length us.length = its.length := by omega
    have e3 : (ts.length == us.length) = true := by simpa using hl
    rw [e2, e3, Bool.and_true]
    simpa using this
  · have e3 : (ts.length == us.length) = false := by simpa using hl
    rw [e3, Bool.and_false]
    exact SeqAt.RcAt.lists_lengths p.isList p'.isList (by simp; omega) (by omega)
theorem eqAt_n (I : Inv X pins σ H s) : ∀ n, EqN D φ α H s n
  | 0 => fun _ _ _ _ _ _ _ _ hn => absurd hn (by omega)
  | n + 1 => fun t u v w a b k A hn h1 h2 r1 r2 e hu => by
    have ih := eqAt_n I n
    cases t with
    | int i => exact eqAt_int I h1 h2 r1 r2 e hu
    | bl i => exact eqAt_bl I h1 h2 r1 r2 e hu
    | str i => exact eqAt_str I h1 h2 r1 r2 e hu
    | non => exact eqAt_non I h1 h2 r1 r2 e hu
    | tup ts =>
      cases u with
      | tup us =>
        have hs := fun (q : w = v) => den_same h1 (q ▸ h2) e
        obtain ⟨c, xs, rfl, _, _, r, l⟩ := h1
        obtain ⟨d, ys, rfl, _, _, r', l'⟩ := h2
        cases r1; cases r2
        by_cases hcd : c = d
        · subst hcd
          rw [hs rfl]
          exact SeqAt.EqAt.same _
        · refine SeqAt.EqAt.of_refs hcd ?_
          exact rcAt_tupN I ih (by simp only [depT] at hn; omega) l l' r r' e (by simp only [depT] at hu; omega)
      | _ => exact eqAt_tupNo I (by intro _ z; cases z) h1 h2 r1 r2 e hu
    | lst ts =>
      cases u with
      | lst us =>
        have hs := fun (q : w = v) => den_same h1 (q ▸ h2) e
        obtain ⟨c, xs, rfl, _, _, r, l⟩ := h1
        obtain ⟨d, ys, rfl, _, _, r', l'⟩ := h2
        cases r1; cases r2
        by_cases hcd : c = d
        · subst hcd
          rw [hs rfl]
          exact SeqAt.EqAt.same _
        · refine SeqAt.EqAt.of_refs hcd ?_
          exact rcAt_lstN I ih (by simp only [depT] at hn; omega) l l' r r' e (by simp only [depT] at hu; omega)
      | _ => exact eqAt_lstNo I (by intro _ z; cases z) h1 h2 r1 r2 e hu
    | _ => cases e
theorem eqAt_tree (I : Inv X pins σ H s) {t u : T} {v w : V} {a b : Value} {k : Bool} {A : Around} (h1 : Den D φ α H t v) (h2 : Den D φ α H u w) (r1 : RelV v a) (r2 : RelV w b) (e : eqT t u = some k) (hu : A.units + depT t + 1 < cLine) : SeqAt.EqAt A s a b k := eqAt_n I _ _ _ _ _ _ _ _ _ (Nat.lt_succ_self _) h1 h2 r1 r2 e hu
theorem rcAt_tup (I : Inv X pins σ H s) {ts us : List T} {xs ys : List V} {c d : Addr} {k : Bool} {A : Around} (l : DenL D φ α H ts xs) (l' : DenL D φ α H us ys) (r : Rd H c (.tup xs)) (r' : Rd H d (.tup ys)) (e : eqL ts us = some k) (hu : A.units + depL ts + 2 < cLine) : SeqAt.RcAt A s (.ref c) (.ref d) k := rcAt_tupN I (eqAt_n I _) (Nat.lt_succ_self _) l l' r r' e hu
theorem rcAt_lst (I : Inv X pins σ H s) {ts us : List T} {xs ys : List V} {c d : Addr} {k : Bool} {A : Around} (l : DenL D φ α H ts xs) (l' : DenL D φ α H us ys) (r : Rd H c (.lst xs)) (r' : Rd H d (.lst ys)) (e : eqL ts us = some k) (hu : A.units + depL ts + 2 < cLine) : SeqAt.RcAt A s (.ref c) (.ref d) k := rcAt_lstN I (eqAt_n I _) (Nat.lt_succ_self _) l l' r r' e hu
theorem eqAt_items (I : Inv X pins σ H s) : ∀ {ts us : List T} {xs ys : List V} {its its2 : List Value} {A : Around}, DenL D φ α H ts xs → DenL D φ α H us ys → Vals xs its → Vals ys its2 → A.units + depL ts + 1 < cLine →
    ∀ (j : Nat) (h1 : j < its.length) (h2 : j < its2.length), (∀ (g1 : j < ts.length) (g2 : j < us.length), ∃ b, eqT ts[j] us[j] = some b) → SeqAt.EqAt A s its[j] its2[j] (match ts[j]?, us[j]? with | some t, some u => (eqT t u).getD false | _, _ => false) := fun l l' rv rv' hu => eqAt_itemsN (eqAt_n I _) (Nat.lt_succ_self _) l l' rv rv' hu
theorem rcNe_tup (I : Inv X pins σ H s) {ts us : List T} {xs ys : List V} {c d : Addr} {k : Bool} {A : Around} (l : DenL D φ α H ts xs) (l' : DenL D φ α H us ys) (r : Rd H c (.tup xs)) (r' : Rd H d (.tup ys)) (e : eqL ts us = some k) (hu : A.units + depL ts + 2 < cLine) : SeqAt.RcNeAt A s (.ref c) (.ref d) (!k) := by
  obtain ⟨its, rv, p, _⟩ := I.tuple (.inl r)
  obtain ⟨its2, rv', p', _⟩ := I.tuple (.inl r')
  obtain ⟨g, rfl⟩ := eqL_at e
  have h1 : ts.length = its.length := l.length.trans rv.length
  have h2 : us.length = its2.length := l'.length.trans rv'.length
  have := SeqAt.RcNeAt.tuples (A := A) (e := fun j => match ts[j]?, us[j]? with | some t, some u => (eqT t u).getD false | _, _ => false) p p' (by omega) fun j q1 q2 => by
    have := eqAt_items (A := A.in1) I l l' rv rv' (by rw [in1_units]; omega) j (by simpa using q1) (by simpa using q2) fun g1 g2 => g j g1 g2
    simpa using this
  simpa [h1, h2] using this
theorem rcNe_lst (I : Inv X pins σ H s) {ts us : List T} {xs ys : List V} {c d : Addr} {k : Bool} {A : Around} (l : DenL D φ α H ts xs) (l' : DenL D φ α H us ys) (r : Rd H c (.lst xs)) (r' : Rd H d (.lst ys)) (e : eqL ts us = some k) (hu : A.units + depL ts + 2 < cLine) : SeqAt.RcNeAt A s (.ref c) (.ref d) (!k) := by
  obtain ⟨its, rv, p, _⟩ := I.list (.inl r)
  obtain ⟨its2, rv', p', _⟩ := I.list (.inl r')
  obtain ⟨g, rfl⟩ := eqL_at e
  have h1 : ts.length = its.length := l.length.trans rv.length
  have h2 : us.length = its2.length := l'.length.trans rv'.length
  by_cases hl : ts.length = us.length
  · have := SeqAt.RcNeAt.lists (A := A) (e := fun j => match ts[j]?, us[j]? with | some t, some u => (eqT t u).getD false | _, _ => false) p.isList p'.isList (by simp; omega) (by omega) fun j q1 q2 => by
      have := eqAt_items (A := A.in1) I l l' rv rv' (by rw [in1_units]; omega) j (by simpa using q1) (by simpa using q2) fun g1 g2 => g j g1 g2
      simpa using this
    have e2 : min ts.length us.length = its.length := by omega
    have e3 : (ts.length == us.length) = true := by simpa using hl
    rw [e2, e3, Bool.and_true]
    simpa using this
  · have e3 : (ts.length == us.length) = false := by simpa using hl
    rw [e3, Bool.and_false]
    exact SeqAt.RcNeAt.lists_lengths p.isList p'.isList (by simp; omega) (by omega)
end
end NH
end
section
set_option linter.all false
set_option maxRecDepth 100000
set_option maxHeartbeats 4000000
namespace NH
open PySem PySem.Spec PyProof.Rows L2
def spM (D : DP) (f : Fn) : Sp := fun vs H Q E => ∃ φ α ts μ, DenL D φ α H ts vs ∧ MRel D φ α H μ ∧ Post D (wOf E) φ α H [] (fun t _ α' H' => ∀ v, Den D φ α' H' t v → Q v H') (f ts μ)
def spN (D : DP) (n : Nat) (f : Fn) : Sp := fun vs H Q E => vs.length = n ∧ spM D f vs H Q E
def TyNm (D : DP) (t : Nat) (u : Value) : Prop :=
  (t = 0 ∧ u = .type "NoneType") ∨ (t = 1 ∧ u = .type "bool") ∨ (t = 2 ∧ u = .type "int") ∨ (t = 3 ∧ u = .type "str") ∨ (t = 4 ∧ u = .type "tuple") ∨ (t = 5 ∧ u = .type "list") ∨ (∃ C, D.adr t = some C ∧ u = .ref C) ∨ (t = 6 ∧ u = .type "dict") ∨ (∃ C, D.cad t = some C ∧ u = .ref C)
def ClValM (mg : Str → Option Value) (c : Str) (u : Value) : Prop := mg c = some u ∨ (mg c = none ∧ bootBuiltins c = some u ∧ c ≠ "__name__")
abbrev ClVal (X : Cx) (c : Str) (u : Value) : Prop := ClValM X.mg c u
def ClsV (v : V) (u : Value) : Prop := (∃ C, v = .ref C ∧ u = .ref C) ∨ ∃ n, v = .ty n ∧ u = .type n
theorem ClsV.rel {v : V} {u : Value} (h : ClsV v u) : L2.RelV v u := by
  rcases h with ⟨C, rfl, rfl⟩ | ⟨n, rfl, rfl⟩ <;> rfl
theorem ClsV.only {v : V} {u u' : Value} (h : ClsV v u) (r : L2.RelV v u') : u' = u := by
  rcases h with ⟨C, rfl, rfl⟩ | ⟨n, rfl, rfl⟩ <;> exact r
structure XCls (K : PySem.W.Frag) (C : Addr) : Prop where
  ga : PySem.W.findIn K (.ref C) "__getattribute__" = some (some (.builtin "BaseException.__getattribute__"))
  hk : PySem.W.findIn K (.ref C) "__getattr__" = some none
  fi : PySem.W.findIn K (.ref C) "__class__" = some (some (.builtin "object.__class__"))
  sp : PySem.W.specialIn K (.builtin "object.__class__") "__get__" = some (some (.builtin "getset_descriptor.__get__"))
  tk : PySem.W.takesIn K (.builtin "object.__class__") = some true
  ob : PySem.W.mroIn K C (.type "object") = some true
  bx : PySem.W.mroIn K C (.type "BaseException") = some true
  cl : (PySem.W.clsIn K C).isSome = true
structure OCls (K : PySem.W.Frag) (C : Addr) : Prop where
  cl : Cls K C
  fi : PySem.W.findIn K (.ref C) "__class__" = some (some (.builtin "object.__class__"))
  sp : PySem.W.specialIn K (.builtin "object.__class__") "__get__" = some (some (.builtin "getset_descriptor.__get__"))
  tk : PySem.W.takesIn K (.builtin "object.__class__") = some true
  ob : PySem.W.mroIn K C (.type "object") = some true
abbrev veMro : List Value := [.type "ValueError", .type "Exception", .type "BaseException", .type "object"]
def FOk (D : DP) (P : Program) (w : World) (K : PySem.W.Frag) (mg : Str → Option Value) (base : Heap) (k : Nat) (fa : Addr) (f : Fn) : Prop :=
  ∃ fd ps kk, PySem.W.keepIn K (.ref fa) = true ∧ Binds K fd ps [] ∧ kk ≤ k ∧ FnOk P w K mg base (CX1 P w) kk fa fd ps (spN D ps.length f) ∧ ∀ ts μ K Z, f ts μ K Z → ts.length = ps.length
structure RoomH (k : Nat) (A : Around) : Prop where
  dp : A.depth + 3 * k + 5 < recursionLimit
  un : A.units + 16 * k + 200 < cLine
theorem RoomH.units {k : Nat} {A : Around} (r : RoomH k A) : A.units + 64 < cLine := by have := r.un; omega
def FnOkH (P : Program) (w : World) (K : PySem.W.Frag) (mg : Str → Option Value) (base : Heap) (k : Nat) (f : Addr) (fd : FuncData) (ps : List Str) (sp : Sp) : Prop :=
  ∀ (A : Around) (outer : List Env) (s : Shared) (H : Hp) (args : Args) (us : List Value) (vs : List V) (Q : VK), RoomH k A → Env0 P w K mg base A outer s H → BindsTo s fd args (ps.zip us) → Vals vs us → sp vs H Q (fun _ _ _ => False) →
    codeAny (model P w) A (.call (.ref f) args) (CR (fun _ _ _ _ _ _ => False) outer P w H s Q (fun _ _ _ => False)) s
def XRaw (x C : Addr) : Heap → Prop := fun h => ∃ t, h.get? x = some { cls := .ref C, data := .fields #[.ref t, .none, .none, .none, .bool false, .none] }
def XDone (x C dx : Addr) : Heap → Prop := fun h => ∃ t, h.get? x = some { cls := .ref C, dict := some dx, data := .fields #[.ref t, .none, .none, .none, .bool false, .none] }
structure XIn (K : PySem.W.Frag) (C HE fI : Addr) (fl : Str) : Prop where
  cls : ∃ N nm q bs hd sn sub ab col dd k0 k1 k2 k3 k5, K.lookup C = some (excClassObj nm q C N bs (.ref HE :: veMro) hd sn sub ab col dd k0 k1 k2 k3 k5 "ValueError.__new__") ∧ PySem.W.nsOkIn K N = true ∧ PySem.W.nsIn K N "__init__" = some (some (.ref fI))
  he : PySem.W.excIn K HE veMro "ValueError.__new__" = true
  fn : PySem.W.typeIn K (.ref fI) = some (.type "function")
  sa : PySem.W.findIn K (.ref C) "__setattr__" = some (some (.builtin "object.__setattr__"))
  no : PySem.W.findIn K (.ref C) fl = some none
  dct : PySem.W.hasDictIn K C = true
  kp : PySem.W.keepIn K (.ref C) = true
def spI (C : Addr) (fl : Str) : Sp := fun vs H Q E => ∃ (x : Addr) (i : Int), vs = [.ref x, .int i] ∧ i.natAbs.log2 < 1920 ∧ H x = some (.ext (XRaw x C)) ∧ ∀ dx, H dx = none → dx ≠ x → Q .non (upd (upd H x (.ext (XDone x C dx))) dx (.xd [(fl, .int i)]))
def nopSc (y : Str) (sc : Scope) : Bool := (sc.kind == .function) && !sc.isCoroutine && !sc.isGenerator && sc.names.all (fun y => y.2 != .free) && (sc.names.lookup y == some .local) && y != ("__debug__" : Str) && y != ("__classdict__" : Str)
def NopAt (a c : Addr) (qn : Str) : Heap → Prop := fun h => ∃ (y : Str) (pa : Pos) (kk : Nat) (bp : Pos) (sc : Scope) (pm ctv : Value), nopSc y sc = true ∧ h.get? a = some (PySem.W.kla_obj "<lambda>" qn ⟨[], [⟨y, none, pa⟩], none, [], [], none, []⟩ (.Constant .none kk bp) sc [] pm c ctv)
def nopT (t : T) : Prop := t = .clo 0 [.clo 100 []] ∨ t = .clo 1 [] ∨ t = .clo 2 [.clo 101 []]
def KpOk (D : DP) (P : Program) (w : World) (K : PySem.W.Frag) (mg : Str → Option Value) (base : Heap) (k : Nat) : Prop :=
  ∀ (t : T) (φ α : List Addr) (H : Hp) (v : V), nopT t → Den D φ α H t v → ∃ a kk, v = .ref a ∧ kk ≤ k ∧ ∀ (A : Around) (outer : List Env) (s : Shared), Env0 P w K mg base A outer s H → PySem.W.FnAt a s.heap ∧ (Room kk A → ∀ (u : Value) (x : V) (Q : VK) (t : T) (φ α : List Addr) (μ : Mem), RelV x u → Den D φ α H t x → MRel D φ α H μ → (∀ α' H', Stp α H α' H' → MRel D φ α' H' μ → Q .non H') →
    codeAny (model P w) A (.call (.ref a) ⟨[u], []⟩) (CR (CX1 P w) outer P w H s Q (fun _ _ _ => False)) s)
def GlOkM (D : DP) (P : Program) (w : World) (K : PySem.W.Frag) (mg : Str → Option Value) (base : Heap) (k : Nat) (x : Str) : GM → Prop
  | .fn f => ∃ fa, mg x = some (.ref fa) ∧ FOk D P w K mg base k fa f
  | .fnh nm f => ∃ fa, mg nm = some (.ref fa) ∧ ∃ fd ps kk, PySem.W.keepIn K (.ref fa) = true ∧ Binds K fd ps [] ∧ kk ≤ k ∧ FnOkH P w K mg base kk fa fd ps (spN D ps.length f) ∧ ∀ ts μ K Z, f ts μ K Z → ts.length = ps.length
  | .met c nm f => ∃ C fI fd ps kk, D.cad c = some C ∧ Cls K C ∧ Meth K C nm fI ∧ (∀ i, D.fn i ≠ some nm) ∧ Binds K fd ps [] ∧ kk ≤ k ∧ FnOk P w K mg base (CX1 P w) kk fI fd ps (spN D ps.length f) ∧ ∀ ts μ K Z, f ts μ K Z → ts.length = ps.length
  | .mk c _ f => ∃ C fI fd ps kk, D.cad c = some C ∧ mg x = some (.ref C) ∧ Mk K C fI ∧ Binds K fd ps [] ∧ kk + 1 ≤ k ∧ FnOk P w K mg base (CX1 P w) kk fI fd ps (spN D ps.length f) ∧ ∀ ts μ K Z, f ts μ K Z → ts.length = ps.length
  | .cst t => ∃ u v, mg x = some u ∧ RelV v u ∧ ∀ φ α H, Den D φ α H t v
  | .xcl c => ∃ C, D.adr c = some C ∧ mg x = some (.ref C) ∧ PySem.W.excIn K C veMro "ValueError.__new__" = true
  | .xcf c _ => ∃ C, D.adr c = some C ∧ mg x = some (.ref C)
  | .xin c f nm fl => ∃ C HE fI fd ps kk, D.adr c = some C ∧ mg nm = some (.ref C) ∧ D.fn f = some fl ∧ XIn K C HE fI fl ∧ Binds K fd ps [] ∧ kk + 1 ≤ k ∧ FnOk P w K mg base (CX1 P w) kk fI fd ps (spI C fl)
  | .mkd c nm n f => ∃ C fI fd ps kk, D.cad c = some C ∧ mg nm = some (.ref C) ∧ Mk K C fI ∧ Binds K fd ps [.none] ∧ kk + 1 ≤ k ∧ FnOk P w K mg base (CX1 P w) kk fI fd ps (spN D ps.length f) ∧ (∀ ts μ K Z, f ts μ K Z → ts.length = ps.length) ∧ ps.length = n + 2
  | .metd c nm n d f => ∃ C fI fd ps kk du dv, D.cad c = some C ∧ Cls K C ∧ Meth K C nm fI ∧ (∀ i, D.fn i ≠ some nm) ∧ Binds K fd ps [du] ∧ RelV dv du ∧ (∀ φ α H, Den D φ α H d dv) ∧ kk ≤ k ∧ FnOk P w K mg base (CX1 P w) kk fI fd ps (spN D ps.length f) ∧ (∀ ts μ K Z, f ts μ K Z → ts.length = ps.length) ∧ ps.length = n + 2
  | .kpr => KpOk D P w K mg base k ∧ ∀ j P' pos qn, j < 2 → D.tabs j = some (P', pos, qn) → ∀ a c, D.clo (2 * j) a (some (.ext (NopAt a c qn))) [.ref c] ∧ D.clo (100 + j) c (some (.ext (CodeIs c qn))) []
  | .none => mg x = none
  | .bad => True
abbrev GlOk (D : DP) (X : Cx) (k : Nat) (x : Str) (g : GM) : Prop := GlOkM D X.prog X.w X.K X.mg X.base k x g
structure Cn where
  N : List Str
  G : List Str
  calm : Bool
  gl : Str → GM
  cls : List (Str × Nat)
  fld : List (Str × Nat)
  U : List Str
  cel : List Str
  own : List Str
  lam : Option (Nat × List Pos) := none
def Cn.look (Γ : Cn) (x : Str) : GM := if Γ.G.contains x then Γ.gl x else .bad
def LamOk (D : DP) (mg : Str → Option Value) (base : Heap) (code : Value) (qual : Str) (k : Nat) (l : Option (Nat × List Pos)) : Prop := ∀ j poss, l = some (j, poss) → 2 ≤ k ∧ ∃ c P, code = .ref c ∧ PySem.W.CodeHd base c P ∧ base.BuiltinsAt mg P ∧ D.tabs j = some (P, poss, qual ++ "<lambda>")
theorem LamOk.no {D : DP} {mg : Str → Option Value} {base : Heap} {code : Value} {qual : Str} {k : Nat} {l : Option (Nat × List Pos)} (h : l = none) : LamOk D mg base code qual k l := fun j pos e => by rw [h] at e; cases e
structure Ck (D : DP) (W : XW) (Γ : Cn) (X : Cx) (k : Nat) : Prop where
  hK : X.K = D.K
  hN : X.N = Γ.N
  nd : Γ.N.Nodup
  vis : ∀ x ∈ Γ.N, Vis X.env.scope x
  dbg : ∀ x ∈ Γ.N, (x == ("__debug__" : Str)) = false ∧ (x == ("__classdict__" : Str)) = false
  dbG : ∀ x ∈ Γ.G, (x == ("__debug__" : Str)) = false
  glb : ∀ x ∈ Γ.G, Gl X x
  glo : ∀ x ∈ Γ.G, GlOk D X k x (Γ.gl x)
  glU : ∀ x ∈ Γ.U, GlOk D X k x (Γ.gl x) ∧ (x == ("__debug__" : Str)) = false
  cel : ∀ x ∈ Γ.cel, X.env.kindOf x = some .cell ∨ X.env.kindOf x = some .free
  isi : ∀ t x c, (x, c) ∈ Γ.cls → ∀ u v, TyNm D t u → ClVal X x v → PySem.W.kitOne X.K u v = some (isinN t c)
  fld : ∀ c C x f, D.cad c = some C → (x, f) ∈ Γ.fld → D.fn f = some x ∧ Cls X.K C ∧ NoAttr X.K C x
  xcx : ∀ c C, D.adr c = some C → XCls X.K C
  ocx : ∀ c C, D.cad c = some C → OCls X.K C
  clv : ∀ x c, (x, c) ∈ Γ.cls → ∃ u v, ClVal X x u ∧ ClsV v u
  clm : Γ.calm = true → X.calm = true
  rom : Γ.calm = true → Room k X.A
  rmh : RoomH k X.A
  xe : ∀ e s, XP X W e s → X.xe e s
  frm : ∃ e0 out L, Frm X e0 out L
  lam : LamOk D X.mg X.base X.env.code X.env.qual k Γ.lam
theorem Ck.unt {D : DP} {W : XW} {Γ : Cn} {X : Cx} {k : Nat} (C : Ck D W Γ X k) : X.A.units + 64 < cLine := C.rmh.units
theorem idx_get : ∀ {N : List Str} {x : Str} {i : Nat}, idx N x = some i → N[i]? = some x
  | [], _, _, h => by simp [idx] at h
  | y :: r, x, i, h => by
    simp only [idx] at h
    split at h
    · rename_i e; cases h; simp [e]
    · cases q : idx r x with
      | none => rw [q] at h; cases h
      | some j => rw [q] at h; cases h; simpa using idx_get q
theorem idx_mem {N : List Str} {x : Str} {i : Nat} (h : idx N x = some i) : x ∈ N := List.mem_of_getElem? (idx_get h)
section
variable {X : Cx} {D : DP} {W : XW} {Γ : Cn} {k : Nat} {pins : List (Addr × Obj)} {s : Shared} {σ : St} {H : Hp} {φ α : List Addr} {τ : Sl} {μ : Mem} {f g h : De} {a b c : Expr} {pos : Pos}
theorem PE.mono {e : Expr} {t t' : TE} (h : PE X e t) (m : ∀ σ H Q, t' σ H Q → t σ H Q) : PE X e t' := fun pins s σ H Q I q => h pins s σ H Q I (m σ H Q q)
theorem se_int {i j pos} : PE X (.Constant (.int i) j pos) (rdE D W (eC (.int i))) := PE.mono pe_int fun σ H Q ⟨φ, α, τ, μ, sr, mr, p⟩ => Post.here p mr rfl
theorem se_bl {i j pos} : PE X (.Constant (.bool i) j pos) (rdE D W (eC (.bl i))) := PE.mono pe_bl fun σ H Q ⟨φ, α, τ, μ, sr, mr, p⟩ => Post.here p mr rfl
theorem se_non {j pos} : PE X (.Constant .none j pos) (rdE D W (eC .non)) := PE.mono pe_non fun σ H Q ⟨φ, α, τ, μ, sr, mr, p⟩ => Post.here p mr rfl
theorem se_str {i j pos} : PE X (.Constant (.str i) j pos) (rdE D W (eC (.str i))) := PE.mono pe_str fun σ H Q ⟨φ, α, τ, μ, sr, mr, p⟩ => Post.here p mr rfl
theorem se_var (C : Ck D W Γ X k) {x : Str} {i : Nat} (hi : idx Γ.N x = some i) : PE X (.Name x pos) (rdE D W (eV i)) := by
  refine PE.mono (pe_var (i := i) (by rw [C.hN]; exact idx_get hi) (C.vis x (idx_mem hi)) (C.dbg x (idx_mem hi)).1 (C.dbg x (idx_mem hi)).2) ?_
  rintro σ H Q ⟨φ, α, τ, μ, sr, mr, p⟩
  dsimp only [eV] at p
  split at p
  · rename_i t e
    obtain ⟨v, q, d⟩ := sr.get e
    exact ⟨v, q, p.here mr d⟩
  · exact p.elim
theorem se_cst (C : Ck D W Γ X k) {x : Str} {t : T} (hx : x ∈ Γ.G) (ht : Γ.gl x = .cst t) : PE X (.Name x pos) (rdE D W (eC t)) := by
  have g := C.glo x hx
  rw [ht] at g
  obtain ⟨u, v, hm, r, d⟩ := g
  exact PE.mono (pe_glob (C.glb x hx) hm r (C.dbG x hx)) fun σ H Q ⟨φ, α, τ, μ, sr, mr, p⟩ => Post.here p mr (d _ _ _)
theorem se_bin {op : Operator} (ha : PE X a (rdE D W f)) (hb : PE X b (rdE D W g)) : PE X (.BinOp a op b pos) (rdE D W (eBin op f g)) := by
  rintro pins s σ H Q I ⟨φ, α, τ, μ, sr, mr, p⟩
  refine wpAny_BinOp (thn (sub ha I sr mr p) ?_)
  rintro u s1 ⟨v, H1, t, μ1, α1, I1, r1, st1, sr1, mr1, d1, p1⟩
  refine thn (sub hb I1 sr1 mr1 p1) ?_
  rintro u' s2 ⟨v', H2, t', μ2, α2, I2, r2, st2, sr2, mr2, d2, p2⟩
  exact op_bin I2 mr2 (d1.step st2) d2 r1 r2 p2
theorem se_neg (ha : PE X a (rdE D W f)) : PE X (.UnaryOp .USub a pos) (rdE D W (eNeg f)) := by
  rintro pins s σ H Q I ⟨φ, α, τ, μ, sr, mr, p⟩
  refine UnaryOp_ (thn (sub ha I sr mr p) ?_)
  rintro u s1 ⟨v, H1, t, μ1, α1, I1, r1, st1, sr1, mr1, d1, p1⟩
  try dsimp only at p1
  split at p1
  · cases d1
    exact un_neg pins s1 σ H1 _ _ Q I1 r1 ⟨_, rfl, p1.here mr1 rfl⟩
  · exact p1.elim
theorem se_not (ha : PE X a (rdE D W f)) : PE X (.UnaryOp .Not a pos) (rdE D W (eNot f)) := by
  rintro pins s σ H Q I ⟨φ, α, τ, μ, sr, mr, p⟩
  refine UnaryOp_ (thn (sub ha I sr mr p) ?_)
  rintro u s1 ⟨v, H1, t, μ1, α1, I1, r1, st1, sr1, mr1, d1, p1⟩
  try dsimp only at p1
  split at p1
  · rename_i b
    cases d1
    cases r1
    exact not_of (wpAny_truthy_bool ⟨.bl (!b), H1, I1, rfl, p1.here mr1 rfl⟩)
  · exact p1.elim
theorem se_one {op : BoolOp} (ha : PE X a (rdE D W f)) : PE X (.BoolOp op [a] pos) (rdE D W f) := pe_one ha
theorem se_and {r : List Expr} (ha : PE X a (rdE D W f)) (hb : PE X (.BoolOp .And (b :: r) pos) (rdE D W g)) : PE X (.BoolOp .And (a :: b :: r) pos) (rdE D W (eAnd f g)) := by
  rintro pins s σ H Q I ⟨φ, α, τ, μ, sr, mr, p⟩
  refine BoolOp_and (thn (sub ha I sr mr p) ?_)
  rintro u s1 ⟨v, H1, t, μ1, α1, I1, r1, st1, sr1, mr1, d1, p1⟩
  try dsimp only at p1
  split at p1
  · cases d1
    cases r1
    rcases p1.br with ⟨rfl, p1⟩ | ⟨rfl, p1⟩
    · exact wpAny_truthy_bool (hb pins s1 σ H1 Q I1 ⟨φ, α1, τ, μ1, sr1, mr1, p1⟩)
    · exact wpAny_truthy_bool ⟨.bl false, H1, I1, rfl, p1.here mr1 rfl⟩
  · exact p1.elim
theorem se_or {r : List Expr} (ha : PE X a (rdE D W f)) (hb : PE X (.BoolOp .Or (b :: r) pos) (rdE D W g)) : PE X (.BoolOp .Or (a :: b :: r) pos) (rdE D W (eOr f g)) := by
  rintro pins s σ H Q I ⟨φ, α, τ, μ, sr, mr, p⟩
  refine BoolOp_or (thn (sub ha I sr mr p) ?_)
  rintro u s1 ⟨v, H1, t, μ1, α1, I1, r1, st1, sr1, mr1, d1, p1⟩
  try dsimp only at p1
  split at p1
  · cases d1
    cases r1
    rcases p1.br with ⟨rfl, p1⟩ | ⟨rfl, p1⟩
    · exact wpAny_truthy_bool ⟨.bl true, H1, I1, rfl, p1.here mr1 rfl⟩
    · exact wpAny_truthy_bool (hb pins s1 σ H1 Q I1 ⟨φ, α1, τ, μ1, sr1, mr1, p1⟩)
  · exact p1.elim
theorem scT_ok {x y : T} {v w : V} {b : Bool} (d1 : Den D φ α H x v) (d2 : Den D φ α H y w) (h : scT x y = some b) : scal v w = true ∧ decide (v = w) = b := by
  unfold scT at h
  split at h <;> first
    | (cases h; cases d1; cases d2; exact ⟨rfl, by simp⟩)
    | cases h
theorem op_isB : OpR X (compareOp .Is) (fun x y H Q => ∃ a b, x = .bl a ∧ y = .bl b ∧ Q (.bl (decide (a = b))) H) := by
  intro pins s σ H x y v u Q I rx ry h
  obtain ⟨a, b, rfl, rfl, q⟩ := h
  cases rx; cases ry
  refine wpAny_is_plain (by rfl) ⟨.bl (decide (a = b)), H, I, ?_, q⟩
  cases a <;> cases b <;> rfl
theorem op_isntB : OpR X (compareOp .IsNot) (fun x y H Q => ∃ a b, x = .bl a ∧ y = .bl b ∧ Q (.bl (!decide (a = b))) H) := by
  intro pins s σ H x y v u Q I rx ry h
  obtain ⟨a, b, rfl, rfl, q⟩ := h
  cases rx; cases ry
  refine wpAny_isNot_plain (by rfl) ⟨.bl (!decide (a = b)), H, I, ?_, q⟩
  cases a <;> cases b <;> rfl
theorem eqW_ok {b : Bool} {C : Prop} {x y : T} {v w : V} {kk : Bool → RE T} {Q : VK} (I : Inv X pins σ H s) (hu : X.A.units + 64 < cLine) (mr : MRel D φ α H μ) (d1 : Den D φ α H x v) (d2 : Den D φ α H y w) (p : Post D W φ α H σ (RV D φ Q) (eqW x y μ kk))
    (h1 : ∀ b, Post D W φ α H σ (RV D φ Q) (kk b) → scal v w = true ∧ decide (v = w) = b → C)
    (h2 : ∀ b, Post D W φ α H σ (RV D φ Q) (kk b) → ((∀ u1 u2, RelV v u1 → RelV w u2 → ∀ {R : Value → Shared → Prop}, R (.bool b) s → wpAny (model X.prog X.w) X.A (compareOp .Eq u1 u2) R X.xe s) ∧ (∀ u1 u2, RelV v u1 → RelV w u2 → ∀ {R : Value → Shared → Prop}, R (.bool (!b)) s → wpAny (model X.prog X.w) X.A (compareOp .NotEq u1 u2) R X.xe s)) → C) : C := by
  have lst : ∀ {xs ys : List T} {c d : Addr} {vs ws : List V}, v = .ref c → w = .ref d → Rd H c (.lst vs) → Rd H d (.lst ws) → DenL D φ α H xs vs → DenL D φ α H ys ws → Post D W φ α H σ (RV D φ Q) (RE.grd (depL xs ≤ 40) (.som (eqL xs ys) kk)) → C := fun {xs ys c d vs ws} e1 e2 r r' l l' p => by
    obtain ⟨hd, p⟩ := p.grd
    obtain ⟨b, hb, p⟩ := p.som
    subst e1 e2
    exact h2 b p ⟨fun u1 u2 r1 r2 R q => by cases r1; cases r2; exact rcAt_lst I l l' r r' hb (by omega) _ _ _ _ q, fun u1 u2 r1 r2 R q => by cases r1; cases r2; exact rcNe_lst I l l' r r' hb (by omega) _ _ _ _ q⟩
  unfold eqW at p
  split at p
  · obtain ⟨hd, p⟩ := p.grd
    obtain ⟨b, hb, p⟩ := p.som
    obtain ⟨c, vs, rfl, _, _, r, l⟩ := d1
    obtain ⟨d, ws, rfl, _, _, r', l'⟩ := d2
    exact h2 b p ⟨fun u1 u2 r1 r2 R q => by cases r1; cases r2; exact rcAt_tup I l l' r r' hb (by omega) _ _ _ _ q, fun u1 u2 r1 r2 R q => by cases r1; cases r2; exact rcNe_tup I l l' r r' hb (by omega) _ _ _ _ q⟩
  · obtain ⟨c, vs, e1, _, _, r, l⟩ := d1
    obtain ⟨d, ws, e2, _, _, r', l'⟩ := d2
    exact lst e1 e2 r r' l l' p
  · obtain ⟨xs, hi, p⟩ := p.ex1
    obtain ⟨c, hc, e1⟩ := d1
    obtain ⟨vs, q, l⟩ := mr.ob _ c _ hc hi
    obtain ⟨d, ws, e2, _, _, r', l'⟩ := d2
    exact lst e1 e2 (.inl q) r' l l' p
  · obtain ⟨ys, hi, p⟩ := p.ex1
    obtain ⟨c, hc, e2⟩ := d2
    obtain ⟨vs, q, l⟩ := mr.ob _ c _ hc hi
    obtain ⟨d, ws, e1, _, _, r', l'⟩ := d1
    exact lst e1 e2 r' (.inl q) l' l p
  · obtain ⟨z, hi, p⟩ := p.ex1
    obtain ⟨c, hc, e1⟩ := d1
    obtain ⟨vs, q, l⟩ := mr.ob _ c _ hc hi.1
    obtain ⟨d, hd, e2⟩ := d2
    obtain ⟨ws, q', l'⟩ := mr.ob _ d _ hd hi.2
    exact lst e1 e2 (.inl q) (.inl q') l l' p
  · split at p
    · rename_i hb
      exact h1 _ p (scT_ok d1 d2 hb)
    · exact p.elim
theorem op_cmp {op : CmpOp} {x y : T} {v w : V} {u1 u2 : Value} {Q : VK} (I : Inv X pins σ H s) (hu : X.A.units + 64 < cLine) (mr : MRel D φ α H μ) (d1 : Den D φ α H x v) (d2 : Den D φ α H y w) (r1 : RelV v u1) (r2 : RelV w u2)
    (p : Post D W φ α H σ (RV D φ Q) (cmpT op x y μ)) : wpAny (model X.prog X.w) X.A (compareOp op u1 u2) (EP X pins σ Q) X.xe s := by
  unfold cmpT at p
  split at p
  · refine eqW_ok (b := true) I hu mr d1 d2 p (fun b q h => ?_) (fun b q h => ?_)
    · obtain ⟨s1, s2⟩ := h
      exact op_eq pins s σ H v w u1 u2 Q I r1 r2 ⟨s1, by rw [s2]; exact Post.here q mr rfl⟩
    · exact h.1 _ _ r1 r2 ⟨.bl b, H, I, rfl, Post.here q mr rfl⟩
  · refine eqW_ok (b := false) I hu mr d1 d2 p (fun b q h => ?_) (fun b q h => ?_)
    · obtain ⟨s1, s2⟩ := h
      exact op_ne pins s σ H v w u1 u2 Q I r1 r2 ⟨s1, by rw [s2]; exact Post.here q mr rfl⟩
    · exact h.2 _ _ r1 r2 ⟨.bl (!b), H, I, rfl, Post.here q mr rfl⟩
  · unfold ltW at p
    split at p
    · cases d1; cases d2
      exact op_lt pins s σ H _ _ u1 u2 Q I r1 r2 ⟨_, _, rfl, rfl, Post.here p mr rfl⟩
    · obtain ⟨ns, h1, p⟩ := p.som
      obtain ⟨ms, h2, p⟩ := p.som
      obtain ⟨a, vs, rfl, _, _, q1, l1⟩ := d1
      obtain ⟨c, ws, rfl, _, _, q2, l2⟩ := d2
      rw [intsOf_den h1 l1] at q1
      rw [intsOf_den h2 l2] at q2
      exact op_ltT (by omega) pins s σ H _ _ u1 u2 Q I r1 r2 ⟨a, c, ns, ms, rfl, rfl, .inl q1, .inl q2, Post.here p mr rfl⟩
    · have d1 : v = .str _ := d1
      have d2 : w = .str _ := d2
      subst d1 d2
      obtain ⟨t1, rfl⟩ := r1
      obtain ⟨t2, rfl⟩ := r2
      exact PySem.P.lt_str ⟨.bl _, H, I, rfl, Post.here p mr rfl⟩
    · exact p.elim
  · split at p
    · cases d1; cases d2
      exact op_le pins s σ H _ _ u1 u2 Q I r1 r2 ⟨_, _, rfl, rfl, p.here mr rfl⟩
    · exact p.elim
  · split at p
    · cases d1; cases d2
      exact op_gt pins s σ H _ _ u1 u2 Q I r1 r2 ⟨_, _, rfl, rfl, p.here mr rfl⟩
    · exact p.elim
  · split at p
    · cases d1; cases d2
      exact op_ge pins s σ H _ _ u1 u2 Q I r1 r2 ⟨_, _, rfl, rfl, p.here mr rfl⟩
    · exact p.elim
  · split at p
    · cases d2
      refine op_isN pins s σ H _ _ u1 u2 Q I r1 r2 ⟨rfl, ?_⟩
      have q := p.here mr rfl
      cases x <;> first
        | (have d1 : v = _ := d1; subst d1; simpa using q)
        | (obtain ⟨_, _, rfl, _⟩ := d1; simpa using q)
        | (obtain ⟨_, _, _, _, rfl, _⟩ := d1; simpa using q)
        | (obtain ⟨_, _, rfl⟩ := d1; simpa using q)
        | (obtain ⟨_, _, _, rfl, _⟩ := d1; simpa using q)
    · split at p
      · have d1 : v = .bl _ := d1
        have d2 : w = .bl _ := d2
        subst d1 d2
        exact op_isB pins s σ H _ _ u1 u2 Q I r1 r2 ⟨_, _, rfl, rfl, p.here mr rfl⟩
      · exact p.elim
    · exact p.elim
  · split at p
    · cases d2
      refine op_notN pins s σ H _ _ u1 u2 Q I r1 r2 ⟨rfl, ?_⟩
      have q := p.here mr rfl
      cases x <;> first
        | (have d1 : v = _ := d1; subst d1; simpa using q)
        | (obtain ⟨_, _, rfl, _⟩ := d1; simpa using q)
        | (obtain ⟨_, _, _, _, rfl, _⟩ := d1; simpa using q)
        | (obtain ⟨_, _, rfl⟩ := d1; simpa using q)
        | (obtain ⟨_, _, _, rfl, _⟩ := d1; simpa using q)
    · split at p
      · have d1 : v = .bl _ := d1
        have d2 : w = .bl _ := d2
        subst d1 d2
        exact op_isntB pins s σ H _ _ u1 u2 Q I r1 r2 ⟨_, _, rfl, rfl, p.here mr rfl⟩
      · exact p.elim
    · exact p.elim
  · split at p
    · have d1 : v = .str _ := d1
      have d2 : w = .str _ := d2
      subst d1 d2
      exact op_in_str pins s σ H _ _ u1 u2 Q I r1 r2 ⟨_, _, rfl, rfl, p.here mr rfl⟩
    · exact p.elim
  · split at p
    · have d1 : v = .str _ := d1
      have d2 : w = .str _ := d2
      subst d1 d2
      exact op_notin_str pins s σ H _ _ u1 u2 Q I r1 r2 ⟨_, _, rfl, rfl, p.here mr rfl⟩
    · exact p.elim
def plainIx : Expr → Bool
  | .Name _ _ => true
  | .Constant _ _ _ => true
  | .BinOp _ _ _ _ => true
  | .UnaryOp _ _ _ => true
  | .Call _ _ _ _ => true
  | .Subscript _ _ _ => true
  | .Attribute _ _ _ => true
  | _ => false
def plainIn : Expr → Bool
  | .Set _ _ _ => false
  | _ => true
def plainCmp : CmpOp → Bool
  | .In => false | .NotIn => false
  | _ => true
def okCmp (op : CmpOp) (b : Expr) : Bool := plainCmp op || plainIn b
def bySize : CmpOp → Bool
  | .Lt => true | .LtE => true | .Gt => true | .GtE => true | .Eq => true | .NotEq => true
  | _ => false
theorem mark_of {op : CmpOp} {b : Expr} (h : okCmp op b = true) : behindInMarks op b = false := by
  cases hp : plainCmp op with
  | true => exact nomark b (by rintro rfl; simp [plainCmp] at hp) (by rintro rfl; simp [plainCmp] at hp)
  | false =>
    have hb : plainIn b = true := by unfold okCmp at h; rw [hp] at h; exact h
    cases b <;> first | rfl | (simp [plainIn] at hb)
theorem se_cmp (C : Ck D W Γ X k) {op : CmpOp} (ho : okCmp op b = true) (ha : PE X a (rdE D W f)) (hb : PE X b (rdE D W g)) : PE X (.Compare a [op] [b] pos) (rdE D W (eCmp op f g)) := by
  rintro pins s σ H Q I ⟨φ, α, τ, μ, sr, mr, p⟩
  refine wpAny_Compare1 (thn (sub ha I sr mr p) ?_) (mark_of ho)
  rintro u s1 ⟨v, H1, t, μ1, α1, I1, r1, st1, sr1, mr1, d1, p1⟩
  refine thn (sub hb I1 sr1 mr1 p1) ?_
  rintro u' s2 ⟨v', H2, t', μ2, α2, I2, r2, st2, sr2, mr2, d2, p2⟩
  exact op_cmp I2 C.unt mr2 (d1.step st2) d2 r1 r2 p2
theorem op_cmp' {op : CmpOp} {β : Type} {R : β → Mem → List Addr → Hp → Prop} {kk : T → Mem → RE β} {x y : T} {v w : V} {u1 u2 : Value} (I : Inv X pins σ H s) (hu : X.A.units + 64 < cLine) (mr : MRel D φ α H μ) (d1 : Den D φ α H x v) (d2 : Den D φ α H y w) (r1 : RelV v u1) (r2 : RelV w u2)
    (p : Post D W φ α H σ R ((cmpT op x y μ).bind kk)) : wpAny (model X.prog X.w) X.A (compareOp op u1 u2) (EP X pins σ fun z H1 => ∃ t μ1 α1, Stp α H α1 H1 ∧ MRel D φ α1 H1 μ1 ∧ Den D φ α1 H1 t z ∧ Post D W φ α1 H1 σ R (kk t μ1)) X.xe s :=
  op_cmp I hu mr d1 d2 r1 r2 (p.bind.mono fun t μ' α' H' st m q v d => ⟨t, μ', α', st, m, d, q⟩)
theorem lastMarks_of : ∀ {ops : List CmpOp} {es : List Expr}, ops.all bySize = true → lastMarks ops es = false
  | [], es, _ => by cases es <;> rfl
  | [op], [], _ => rfl
  | [op], [e], h => nomark e (by rintro rfl; simp [bySize] at h) (by rintro rfl; simp [bySize] at h)
  | [op], _ :: _ :: _, _ => rfl
  | op :: op' :: ops, [], _ => rfl
  | op :: op' :: ops, e :: es, h => by
    have : lastMarks (op' :: ops) es = false := lastMarks_of (by simp only [List.all_cons, Bool.and_eq_true] at h ⊢; exact h.2)
    cases es with
    | nil => cases ops <;> rfl
    | cons e' es => exact this
def ChOk (X : Cx) (D : DP) (W : XW) : List Expr → List (CmpOp × De) → Prop
  | [], [] => True
  | e :: es, p :: ps => PE X e (rdE D W p.2) ∧ ChOk X D W es ps
  | _, _ => False
theorem chain_go (hu : X.A.units + 64 < cLine) {Q : VK} : ∀ {ps : List (CmpOp × De)} {es : List Expr} {s : Shared} {H : Hp} {α : List Addr} {μ : Mem} {x : T} {v : V} {u : Value}, ChOk X D W es ps → Inv X pins σ H s → SRel D φ α H τ σ → MRel D φ α H μ → Den D φ α H x v → RelV v u → Post D W φ α H σ (RV D φ Q) (eChn ps x τ μ) →
    wpAny (model X.prog X.w) X.A (compareChain pos u (ps.map (·.1)) (evalEach es X.env)) (EP X pins σ Q) X.xe s
  | [], _, _, _, _, _, _, _, _, _, _, _, _, _, _, p => p.elim
  | [(op, g)], [], _, _, _, _, _, _, _, h, _, _, _, _, _, _ => h.elim
  | [(op, g)], [e], s, H, α, μ, x, v, u, h, I, sr, mr, d, r, p => by
    refine chain_last (thn (sub h.1 I sr mr p) ?_)
    rintro u' s2 ⟨v', H2, t', μ2, α2, I2, r2, st2, sr2, mr2, d2, p2⟩
    exact op_cmp I2 hu mr2 (d.step st2) d2 r r2 p2
  | [(op, g)], _ :: _ :: _, _, _, _, _, _, _, _, h, _, _, _, _, _, _ => h.2.elim
  | (op, g) :: p' :: ps, [], _, _, _, _, _, _, _, h, _, _, _, _, _, _ => h.elim
  | (op, g) :: p' :: ps, [e], _, _, _, _, _, _, _, h, _, _, _, _, _, _ => h.2.elim
  | (op, g) :: (op', g') :: ps, e :: e' :: es, s, H, α, μ, x, v, u, h, I, sr, mr, d, r, p => by
    refine chain_link (thn (sub h.1 I sr mr p) ?_)
    rintro u' s2 ⟨v', H2, t', μ2, α2, I2, r2, st2, sr2, mr2, d2, p2⟩
    refine thn (op_cmp' I2 hu mr2 (d.step st2) d2 r r2 p2) ?_
    rintro dd s3 ⟨z, H3, I3, r3, t3, μ3, α3, st3, mr3, d3, p3⟩
    try dsimp only at p3
    split at p3
    · cases d3
      cases r3
      rcases p3.br with ⟨rfl, p3⟩ | ⟨rfl, p3⟩
      · exact wpAny_truthy_bool (ite_tt (chain_go hu (ps := (op', g') :: ps) (es := e' :: es) h.2 I3 (sr2.step st3) mr3 (d2.step st3) r2 p3))
      · exact wpAny_truthy_bool (ite_ff ⟨.bl false, H3, I3, rfl, p3.here mr3 rfl⟩)
    · exact p3.elim
theorem se_chain (C : Ck D W Γ X k) {e1 e2 : Expr} {es : List Expr} {p1 p2 : CmpOp × De} {ps : List (CmpOp × De)} (ho : (p1 :: p2 :: ps).all (fun p => bySize p.1) = true) (ha : PE X a (rdE D W f)) (h : ChOk X D W (e1 :: e2 :: es) (p1 :: p2 :: ps)) : PE X (.Compare a (p1.1 :: p2.1 :: ps.map (·.1)) (e1 :: e2 :: es) pos) (rdE D W (eCh f (p1 :: p2 :: ps))) := by
  rintro pins s σ H Q I ⟨φ, α, τ, μ, sr, mr, p⟩
  refine Compare_chain (thn (sub ha I sr mr p) ?_) (lastMarks_of (by simpa [List.all_map, Function.comp_def] using ho))
  rintro u s1 ⟨v, H1, t, μ1, α1, I1, r1, st1, sr1, mr1, d1, p1⟩
  exact chain_go C.unt h I1 sr1 mr1 d1 r1 p1
theorem test_go (hu : X.A.units + 64 < cLine) {β : Type} {R : β → Mem → List Addr → Hp → Prop} {kk : Bool → Mem → RE β} : ∀ {ps : List (CmpOp × De)} {es : List Expr} {s : Shared} {H : Hp} {α : List Addr} {μ : Mem} {x : T} {v : V} {u : Value} {Q : Bool → Hp → Prop}, ChOk X D W es ps → Inv X pins σ H s → SRel D φ α H τ σ → MRel D φ α H μ → Den D φ α H x v → RelV v u → Post D W φ α H σ (fun b _ _ H' => Q b H') ((eChn ps x τ μ).bind truT) →
    wpAny (model X.prog X.w) X.A (testChain pos u (ps.map (·.1)) (evalEach es X.env)) (TP X pins σ Q) X.xe s
  | [], _, _, _, _, _, _, _, _, _, _, _, _, _, _, _, p => Post.elim p
  | [(op, g)], [], _, _, _, _, _, _, _, _, h, _, _, _, _, _, _ => h.elim
  | [(op, g)], [e], s, H, α, μ, x, v, u, Q, h, I, sr, mr, d, r, p => by
    have p : Post D W φ α H σ (fun b _ _ H' => Q b H') ((g τ μ).bind fun y μ1 => (cmpT op x y μ1).bind truT) := p
    refine test_last (thn (sub h.1 I sr mr p) ?_)
    rintro u' s2 ⟨v', H2, t', μ2, α2, I2, r2, st2, sr2, mr2, d2, p2⟩
    refine thn (op_cmp' I2 hu mr2 (d.step st2) d2 r r2 p2) ?_
    rintro dd s3 ⟨z, H3, I3, r3, t3, μ3, α3, st3, mr3, d3, p3⟩
    unfold truT at p3
    split at p3
    · cases d3
      cases r3
      exact wpAny_truthy_bool ⟨H3, I3, p3.ok (Stp.refl _ _) mr3⟩
    · exact p3.elim
  | [(op, g)], _ :: _ :: _, _, _, _, _, _, _, _, _, h, _, _, _, _, _, _ => h.2.elim
  | (op, g) :: p' :: ps, [], _, _, _, _, _, _, _, _, h, _, _, _, _, _, _ => h.elim
  | (op, g) :: p' :: ps, [e], _, _, _, _, _, _, _, _, h, _, _, _, _, _, _ => h.2.elim
  | (op, g) :: (op', g') :: ps, e :: e' :: es, s, H, α, μ, x, v, u, Q, h, I, sr, mr, d, r, p => by
    have p : Post D W φ α H σ (fun b _ _ H' => Q b H') ((g τ μ).bind fun y μ1 => (cmpT op x y μ1).bind fun k μ2 => (match k with | .bl b => RE.br b (eChn ((op', g') :: ps) y τ μ2) (.ok (.bl false) μ2) | _ => RE.st : RE T).bind truT) := p
    refine test_link (thn (sub h.1 I sr mr p) ?_)
    rintro u' s2 ⟨v', H2, t', μ2, α2, I2, r2, st2, sr2, mr2, d2, p2⟩
    refine thn (op_cmp' I2 hu mr2 (d.step st2) d2 r r2 p2) ?_
    rintro dd s3 ⟨z, H3, I3, r3, t3, μ3, α3, st3, mr3, d3, p3⟩
    try dsimp only at p3
    split at p3
    · rename_i bb
      cases d3
      cases r3
      cases bb with
      | true => exact wpAny_truthy_bool (ite_tt (test_go hu (kk := kk) (R := R) (ps := (op', g') :: ps) (es := e' :: es) h.2 I3 (sr2.step st3) mr3 (d2.step st3) r2 p3))
      | false =>
        have p3 : Post D W φ α3 H3 σ (fun b _ _ H' => Q b H') (RE.ok false μ3) := p3
        exact wpAny_truthy_bool (ite_ff ⟨H3, I3, p3.ok (Stp.refl _ _) mr3⟩)
    · have p3 : Post D W φ α3 H3 σ (fun b _ _ H' => Q b H') RE.st := p3
      exact p3.elim
end
end NH
end
section
set_option linter.all false
set_option maxRecDepth 100000
set_option maxHeartbeats 4000000
namespace NH
open PySem PySem.Spec PyProof.Rows L2
section
variable {X : Cx} {D : DP} {W : XW} {Γ : Cn} {k : Nat} {pins : List (Addr × Obj)} {s : Shared} {σ : St} {H : Hp} {φ α : List Addr} {τ : Sl} {μ : Mem} {f g h : De} {ft gt : Dt} {a b c : Expr} {pos : Pos}
theorem stest (ha : PE X a (rdE D W f)) (he : ∀ whole, isTrue a X.env whole = (do let v ← whole; standAt a.pos; holding [v] (truthy v))) : PT X a (rdT D W (tE f)) := by
  rintro pins s σ H Q I ⟨φ, α, τ, μ, sr, mr, p⟩
  rw [he]
  refine wpAny_bind (thn (sub ha I sr mr p) ?_)
  rintro u s1 ⟨v, H1, t, μ1, α1, I1, r1, st1, sr1, mr1, d1, p1⟩
  unfold truT at p1
  split at p1
  · cases d1
    cases r1
    exact wpAny_bind (wpAny_standAt (wpAny_holding (wpAny_truthy_bool ⟨H1, I1, p1.ok (Stp.refl _ _) mr1⟩)))
  · exact p1.elim
theorem stest_cmp1 (C : Ck D W Γ X k) {op : CmpOp} (ho : okCmp op b = true) (ha : PE X a (rdE D W f)) (hb : PE X b (rdE D W g)) : PT X (.Compare a [op] [b] pos) (rdT D W (tE (eCmp op f g))) := by
  rintro pins s σ H Q I ⟨φ, α, τ, μ, sr, mr, p⟩
  have p : Post D W φ α H σ (fun b _ _ H' => Q b H') ((f τ μ).bind fun x μ1 => (g τ μ1).bind fun y μ2 => (cmpT op x y μ2).bind truT) := p
  refine wpAny_isTrue_Compare1 (thn (sub ha I sr mr p) ?_) (mark_of ho)
  rintro u s1 ⟨v, H1, t, μ1, α1, I1, r1, st1, sr1, mr1, d1, p1⟩
  refine thn (sub hb I1 sr1 mr1 p1) ?_
  rintro u' s2 ⟨v', H2, t', μ2, α2, I2, r2, st2, sr2, mr2, d2, p2⟩
  refine thn (op_cmp' I2 C.unt mr2 (d1.step st2) d2 r1 r2 p2) ?_
  rintro d s3 ⟨z, H3, I3, r3, t3, μ3, α3, st3, mr3, d3, p3⟩
  unfold truT at p3
  split at p3
  · cases d3
    cases r3
    exact wpAny_truthy_bool ⟨H3, I3, p3.ok (Stp.refl _ _) mr3⟩
  · exact p3.elim
theorem stest_chain (C : Ck D W Γ X k) {e1 e2 : Expr} {es : List Expr} {p1 p2 : CmpOp × De} {ps : List (CmpOp × De)} (ho : (p1 :: p2 :: ps).all (fun p => bySize p.1) = true) (ha : PE X a (rdE D W f)) (h : ChOk X D W (e1 :: e2 :: es) (p1 :: p2 :: ps)) : PT X (.Compare a (p1.1 :: p2.1 :: ps.map (·.1)) (e1 :: e2 :: es) pos) (rdT D W (tE (eCh f (p1 :: p2 :: ps)))) := by
  rintro pins s σ H Q I ⟨φ, α, τ, μ, sr, mr, p⟩
  have p : Post D W φ α H σ (fun b _ _ H' => Q b H') ((f τ μ).bind fun x μ1 => (eChn (p1 :: p2 :: ps) x τ μ1).bind truT) := p
  refine isTrue_chain (thn (sub ha I sr mr p) ?_) (lastMarks_of (by simpa [List.all_map, Function.comp_def] using ho))
  rintro u s1 ⟨v, H1, t, μ1, α1, I1, r1, st1, sr1, mr1, d1, p1⟩
  exact test_go (kk := fun _ _ => RE.st (β := Bool)) (R := fun _ _ _ _ => True) C.unt h I1 sr1 mr1 d1 r1 p1
theorem st_and {r : List Expr} (ha : PT X a (rdT D W ft)) (hb : PW X (.BoolOp .And (b :: r) pos) (rdT D W gt)) : PW X (.BoolOp .And (a :: b :: r) pos) (rdT D W (tAnd ft gt)) := by
  intro whole pins s σ H Q I hq
  refine pw_and ha hb whole pins s σ H Q I ?_
  obtain ⟨φ, α, τ, μ, sr, mr, p⟩ := hq
  refine ⟨φ, α, τ, μ, sr, mr, p.bind.mono fun c μ' α' H' st m q => ?_⟩
  rcases q.br with ⟨rfl, q⟩ | ⟨rfl, q⟩
  · exact ⟨φ, α', τ, μ', sr.step st, m, q⟩
  · exact q.ok (Stp.refl _ _) m
theorem st_or {r : List Expr} (ha : PT X a (rdT D W ft)) (hb : PW X (.BoolOp .Or (b :: r) pos) (rdT D W gt)) : PW X (.BoolOp .Or (a :: b :: r) pos) (rdT D W (tOr ft gt)) := by
  intro whole pins s σ H Q I hq
  refine pw_or ha hb whole pins s σ H Q I ?_
  obtain ⟨φ, α, τ, μ, sr, mr, p⟩ := hq
  refine ⟨φ, α, τ, μ, sr, mr, p.bind.mono fun c μ' α' H' st m q => ?_⟩
  rcases q.br with ⟨rfl, q⟩ | ⟨rfl, q⟩
  · exact q.ok (Stp.refl _ _) m
  · exact ⟨φ, α', τ, μ', sr.step st, m, q⟩
theorem st_not (ha : PT X a (rdT D W ft)) : PT X (.UnaryOp .Not a pos) (rdT D W (tNot ft)) := by
  intro pins s σ H Q I hq
  refine pt_not ha pins s σ H Q I ?_
  obtain ⟨φ, α, τ, μ, sr, mr, p⟩ := hq
  exact ⟨φ, α, τ, μ, sr, mr, p.bind.mono fun c μ' α' H' st m q => q.ok (Stp.refl _ _) m⟩
def plainOb : Expr → Bool
  | .Name _ _ => true
  | .Attribute _ _ _ => true
  | .Subscript _ _ _ => true
  | .Call (.Name x _) _ _ _ => x != ("super" : Str)
  | .Call (.Attribute _ _ _) _ _ _ => true
  | _ => false
theorem Post.ex3 {β δ1 δ2 δ3 : Type} {R : β → Mem → List Addr → Hp → Prop} {P : δ1 → δ2 → Prop} {P2 : δ1 → δ2 → δ3 → Prop} {r : δ1 → δ2 → δ3 → RE β} (p : Post D W φ α H σ R (fun K Z => ∃ x y z, P x y ∧ P2 x y z ∧ r x y z K Z)) : ∃ x y z, P x y ∧ P2 x y z ∧ Post D W φ α H σ R (r x y z) := by
  obtain ⟨K, Z, ⟨x, y, z, h1, h2, q⟩, h⟩ := p
  exact ⟨x, y, z, h1, h2, K, Z, q, h⟩
theorem Post.ex2 {β δ1 δ2 : Type} {R : β → Mem → List Addr → Hp → Prop} {P : δ1 → Prop} {P2 : δ1 → δ2 → Prop} {r : δ1 → δ2 → RE β} (p : Post D W φ α H σ R (fun K Z => ∃ x y, P x ∧ P2 x y ∧ r x y K Z)) : ∃ x y, P x ∧ P2 x y ∧ Post D W φ α H σ R (r x y) := by
  obtain ⟨K, Z, ⟨x, y, h1, h2, q⟩, h⟩ := p
  exact ⟨x, y, h1, h2, K, Z, q, h⟩
theorem plainIx_of {b : Expr} (h : plainIx b = true) : PlainIx b := by
  intro o i
  cases b <;> first | (simp [plainIx] at h; done) | rfl
theorem ixAt_get {D : DP} {ts : List T} {xs : List V} {i : Int} {t : T} (l : DenL D φ α H ts xs) (h : ixAt ts i = some t) : ∃ v, atI xs i = some v ∧ Den D φ α H t v := by
  unfold ixAt at h
  have e : ixN xs.length i = ixNo ts.length i := by rw [l.length]; rfl
  unfold atI
  rw [e]
  cases q : ixNo ts.length i with
  | none => rw [q] at h; cases h
  | some j =>
    rw [q] at h
    exact l.get h
theorem se_ix (hb' : plainIx b = true) (hK : X.K = D.K) (ha : PE X a (rdE D W f)) (hb : PE X b (rdE D W g)) : PE X (.Subscript a b pos) (rdE D W (eIx f g)) := by
  rintro pins s σ H Q I ⟨φ, α, τ, μ, sr, mr, p⟩
  refine Subscript_ (thn (sub ha I sr mr p) ?_)
  rintro u s1 ⟨v, H1, t, μ1, α1, I1, r1, st1, sr1, mr1, d1, p1⟩
  refine thn (sub hb I1 sr1 mr1 p1) ?_
  rintro u' s2 ⟨v', H2, t', μ2, α2, I2, r2, st2, sr2, mr2, d2, p2⟩
  have d1 := d1.step st2
  unfold itemT at p2
  split at p2
  · cases d2
    split at p2
    · obtain ⟨w, hw, p2⟩ := p2.som
      obtain ⟨ad, xs, rfl, _, _, r, l⟩ := d1
      obtain ⟨z, hz, dz⟩ := ixAt_get l hw
      exact ix_list a b pins s2 σ H2 _ _ _ _ Q I2 r1 r2 ⟨ad, xs, _, z, rfl, rfl, .inl r, hz, p2.here mr2 dz⟩ (plainIx_of hb' _ _)
    · obtain ⟨w, hw, p2⟩ := p2.som
      obtain ⟨ad, xs, rfl, _, _, r, l⟩ := d1
      obtain ⟨z, hz, dz⟩ := ixAt_get l hw
      exact ix_tup a b pins s2 σ H2 _ _ _ _ Q I2 r1 r2 ⟨ad, xs, _, z, rfl, rfl, .inl r, hz, p2.here mr2 dz⟩ (plainIx_of hb' _ _)
    · obtain ⟨ts, w, hj, hw, p2⟩ := p2.ex2
      obtain ⟨ad, hi', rfl⟩ := d1
      obtain ⟨xs, e2, l⟩ := mr2.ob _ ad _ hi' hj
      obtain ⟨z, hz, dz⟩ := ixAt_get l hw
      exact ix_list a b pins s2 σ H2 _ _ _ _ Q I2 r1 r2 ⟨ad, xs, _, z, rfl, rfl, .inl (.inl e2), hz, Post.here p2 mr2 dz⟩ (plainIx_of hb' _ _)
    · obtain ⟨hl, p2⟩ := p2.grd
      obtain ⟨c, hc, p2⟩ := p2.som
      have d1 : v = .str _ := d1
      subst d1
      exact ix_str a b pins s2 σ H2 _ _ _ _ Q I2 r1 r2 ⟨_, _, c, rfl, rfl, room_line hl, hc, p2.here mr2 rfl⟩ (plainIx_of hb' _ _)
    · exact p2.elim
  · exact p2.elim
def noStar : Expr → Bool
  | .Starred _ _ => false
  | _ => true
theorem noStar_of {e : Expr} {es : List Expr} {env : Env} (h : noStar e = true) : starEach (e :: es) env = (false, eval e env) :: starEach es env := by
  cases e <;> first | (simp [noStar] at h; done) | rfl
theorem noStars {es : List Expr} {env : Env} {pos : Pos} (h : es.all noStar = true) : (backTo pos (starEach es env)).any (·.1) = false := by
  induction es with
  | nil => rfl
  | cons e es ih =>
    simp only [List.all_cons, Bool.and_eq_true] at h
    rw [noStar_of h.1]
    have := ih h.2
    first
      | (simp [backTo] at this ⊢; exact this)
      | (simpa [backTo] using this)
theorem sa_nil : PA X [] (rdA D W 0 (evs [])) := by
  rintro pos pins s σ H Q I ⟨φ, α, τ, μ, sr, mr, p⟩
  exact pa_nil pos pins s σ H Q I (Post.ok p (Stp.refl _ _) mr [] rfl rfl)
theorem sa_cons {e : Expr} {es : List Expr} {fs : List De} {n : Nat} (hs : noStar e = true) (ha : PE X e (rdE D W f)) (hr : PA X es (rdA D W n (evs fs))) : PA X (e :: es) (rdA D W (n + 1) (evs (f :: fs))) := by
  intro pos pins s σ H Q I hq
  refine pa_cons ha hr (noStar_of hs) pos pins s σ H Q I ?_
  obtain ⟨φ, α, τ, μ, sr, mr, p⟩ := hq
  have p : Post D W φ α H σ _ ((f τ μ).bind fun t μ1 => (evs fs τ μ1).bind fun ts μ2 => .ok (t :: ts) μ2) := p
  refine ⟨φ, α, τ, μ, sr, mr, p.bind.mono fun t μ1 α1 H1 st m q v d => ?_⟩
  refine ⟨φ, α1, τ, μ1, sr.step st, m, q.bind.mono fun ts μ2 α2 H2 st2 m2 q2 vs dl hn => ?_⟩
  exact q2.ok (Stp.refl _ _) m2 _ ⟨v, vs, rfl, d.step st2, dl⟩ (by simp [hn])
def EsOk (X : Cx) (D : DP) (W : XW) : List Expr → List De → Prop
  | [], [] => True
  | e :: es, f :: fs => noStar e = true ∧ PE X e (rdE D W f) ∧ EsOk X D W es fs
  | _, _ => False
theorem sa_all : ∀ {es : List Expr} {fs : List De}, EsOk X D W es fs → PA X es (rdA D W es.length (evs fs))
  | [], [], _ => sa_nil
  | e :: es, f :: fs, h => sa_cons h.1 h.2.1 (sa_all h.2.2)
  | [], _ :: _, h => h.elim
  | _ :: _, [], h => h.elim
theorem EsOk.stars : ∀ {es : List Expr} {fs : List De}, EsOk X D W es fs → es.all noStar = true
  | [], [], _ => rfl
  | e :: es, f :: fs, h => by simp [h.1, EsOk.stars h.2.2]
  | [], _ :: _, h => h.elim
  | _ :: _, [], h => h.elim
theorem se_lst {es : List Expr} {fs : List De} (hl : es.length ≤ room) (h : EsOk X D W es fs) : PE X (.List es pos) (rdE D W (eLst fs)) := by
  refine PE.mono (pe_lst (sa_all h)) ?_
  rintro σ H Q ⟨φ, α, τ, μ, sr, mr, p⟩
  refine ⟨φ, α, τ, μ, sr, mr, p.bind.mono fun ts μ1 α1 H1 st m q vs dl hn => ⟨by rw [hn]; exact room_line hl, fun z hz => ?_⟩⟩
  exact q.fresh m (same_upd hz) ⟨z, vs, rfl, fresh_phi m hz, fresh_out m hz, .inl upd_same, dl.step (Stp.new (same_upd hz))⟩
theorem se_tup {es : List Expr} {fs : List De} {kk : Nat} (hl : es.length ≤ room) (h : EsOk X D W es fs) : PE X (.Tuple es kk pos) (rdE D W (eTup fs)) := by
  refine PE.mono (pe_tup (sa_all h)) ?_
  rintro σ H Q ⟨φ, α, τ, μ, sr, mr, p⟩
  refine ⟨φ, α, τ, μ, sr, mr, p.bind.mono fun ts μ1 α1 H1 st m q vs dl hn => ⟨by rw [hn]; exact room_line hl, fun z hz => ?_⟩⟩
  exact q.fresh m (same_upd hz) ⟨z, vs, rfl, fresh_phi m hz, fresh_out m hz, .inl upd_same, dl.step (Stp.new (same_upd hz))⟩
end
end NH
end
section
set_option linter.all false
set_option maxRecDepth 100000
set_option maxHeartbeats 4000000
namespace NH
open PySem PySem.Spec PyProof.Rows L2
section
open PySem.W
theorem exc_class {prog : Program} {w : World} {A : Around} {E : Value → Shared → Prop} {s : Shared} {K : Frag} {x D : Addr} {ox : Obj} {od : Option Obj} {Q : Option Value → Shared → Prop} (X : K.In s.heap) (I : InstAt s.heap x ox D od)
  (hga : findIn K (.ref D) "__getattribute__" = some (some (.builtin "BaseException.__getattribute__"))) (hk : findIn K (.ref D) "__getattr__" = some none)
  (hf : findObj K D od "__class__" = some (.bind (.builtin "getset_descriptor.__get__") (.builtin "object.__class__"))) (hm : mroIn K D (.type "object") = some true) (hb : mroIn K D (.type "BaseException") = some true)
  (h : Q (some (.ref D)) { s with toks := s.toks + 1 }) : wpAny (model prog w) A (getAttr? (.ref x) "__class__") Q E s := by
  obtain ⟨hh, g, d, t, os⟩ := s
  have L0 := I.type (M := model prog w)
  have L1 := looks_findIn (M := model prog w) X hga
  have L2 := looks_findIn (M := model prog w) X hk
  have L3 := looks_find (M := model prog w) X I hf
  have L4 := looks_mroIn (M := model prog w) X hb
  have f3 := PySem.F.attr_ValueError.ga.bind (.ref x)
  unfold getAttr? getAttrBy? getAttrBy
  refine wpAny_bind (wpAny_mkText (wpAny_bind (wpAny_attempt (wpAny_holding (wpAny_bind (L0.at (wpAny_bind (L1.at ?_))))))))
  show wpAny _ _ (getAttrByItsOwn (.ref x) _ (.ref D) (.builtin "BaseException.__getattribute__") false false) _ _ _
  unfold getAttrByItsOwn hookBefore
  refine wpAny_bind ?_
  show wpAny _ _ (typeLookup (.ref D) "__getattr__") _ _ _
  refine L2.at ?_
  refine wpAny_bind (wpAny_attempt (wpAny_holding ?_))
  unfold callGetattribute boundAndCalled
  show wpAny _ _ (bindSpecial (.builtin "BaseException.__getattribute__") (.ref x) >>= _) _ _ _
  rw [f3]
  refine wpAny_bind (wpAny_pure ?_)
  show wpAny _ _ (call (.builtin "BaseException.__getattribute__") [.ref x, .str "__class__" _]) _ _ _
  refine wpAny_call (codeAny_call_builtin PySem.F.attr_ValueError.ga.plain PySem.F.entry_bexc_ga ?_)
  have hkd : builtinKind "BaseException.__getattribute__" = some .slot := by decide +kernel
  have hsp : splitId "BaseException.__getattribute__" = some ("BaseException", "__getattribute__") := by decide +kernel
  have ha := PySem.F.args_bexc_ga (.ref x) (.str "__class__" t)
  have LI : Looks (model prog w) hh (isInstance (.ref x) (.type "BaseException")) true := L0.andThen L4
  simp only [checkBuiltinCall, hkd, hsp]
  refine wpAny_bind (LI.at ?_)
  simp only [Bool.not_true, Bool.false_eq_true, if_false]
  refine wpAny_of_eq (a := ()) ha ?_
  unfold Builtin.«object.__getattribute__»
  refine wpAny_bind (m := slotArgs _ _ _) (wpAny_pure ?_)
  dsimp only
  refine wpAny_bind ?_
  show wpAny _ _ (Builtin.ObjectAttr.attrName (.str "__class__" t)) _ _ _
  first
    | exact wpAny_pure (wpAny_bind (L0.at (wpAny_bind (L3.at ?_))))
    | (refine wpAny_pure (wpAny_bind (L0.at (wpAny_bind (L3.at ?_)))))
    | (unfold Builtin.ObjectAttr.attrName; refine wpAny_pure (wpAny_bind (L0.at (wpAny_bind (L3.at ?_)))))
  dsimp only
  unfold Builtin.ObjectAttr.bindTo
  show wpAny _ _ (holding [Value.builtin "object.__class__"] (call (.builtin "getset_descriptor.__get__") [.builtin "object.__class__", .ref x, .ref D]) >>= ret) _ _ _
  refine wpAny_bind (wpAny_holding (wpAny_call (class_get (s := ⟨hh, g, d, t + 1, os⟩) X I hm ?_)))
  refine wpAny_pure ?_
  exact handed_on rfl (wpAny_pure h)
theorem XCls.fo {K : Frag} {C : Addr} (h : XCls K C) (od : Option Obj) : findObj K C od "__class__" = some (.bind (.builtin "getset_descriptor.__get__") (.builtin "object.__class__")) := by
  have hc := h.cl
  obtain ⟨cd, e⟩ := Option.isSome_iff_exists.mp hc
  unfold findObj
  rw [e, h.fi]
  simp only [Option.bind_some]
  rw [h.sp]
  simp only [Option.bind_some]
  rw [h.tk]
  rfl
def XcP (x C : Addr) (d : Option Addr) (h : Heap) : Prop := XcAt x C d h ∧ ∀ dx, d = some dx → ∃ o, h.get? dx = some o
theorem kitx_exc {K : Frag} {x C : Addr} {d : Option Addr} (hC : XCls K C) : KitX K (.ref x) (.ref C) (XcP x C d) where
  ty := fun M h _ p => by
    obtain ⟨⟨oe, vs, h1, h2, h3, h4⟩, _⟩ := p
    exact h2 ▸ (Looks.ld h1).andThen .now
  it := fun M h X _ => by
    have hcD := hC.cl
    unfold clsIn at hcD
    split at hcD
    · rename_i c' d' cd' sl' ho
      intro A' Q' E' s' k q
      unfold isType loadHead
      exact wpAny_bind (wpAny_loadPart (k _ _ (X _ _ ho)) (wpAny_pure q))
    · cases hcD
  ne := fun h tp dd its n sl X htp => by
    refine Bool.eq_false_iff.mpr fun q => ?_
    have e : C = tp := Value.ref.inj (beq_iff_eq.mp q)
    subst e
    have hcD := hC.cl
    unfold clsIn at hcD
    split at hcD
    · rename_i c' d' cd' sl' ho
      have z := (X _ _ ho).symm.trans htp
      cases z
    · cases hcD
  ca := fun X p k => by
    obtain ⟨⟨oe, vs, h1, h2, h3, h4⟩, h5⟩ := p
    cases d with
    | none =>
      refine exc_class (ox := oe) (od := none) X ⟨h1, h2, ?_, ?_⟩ hC.ga hC.hk (hC.fo _) hC.ob hC.bx k
      · unfold notCls; rw [h3]
      · rw [h4]; trivial
    | some dx =>
      obtain ⟨o, ho⟩ := h5 dx rfl
      refine exc_class (ox := oe) (od := some o) X ⟨h1, h2, ?_, ?_⟩ hC.ga hC.hk (hC.fo _) hC.ob hC.bx k
      · unfold notCls; rw [h3]
      · rw [h4]; exact ho
end
section
variable {X : Cx} {D : DP} {W : XW} {Γ : Cn} {k : Nat} {pins : List (Addr × Obj)} {s : Shared} {σ : St} {H : Hp} {φ α : List Addr} {τ : Sl} {μ : Mem} {f g h : De} {a b c : Expr} {pos : Pos} {es : List Expr} {fs : List De}
theorem base_of {e : Expr} {f : Str} {env : Env} (h : plainOb e = true) : attributeBase e f env (eval e env) = eval e env := by
  cases e with
  | Call g args kws p =>
    cases g with
    | Name x p0 =>
      have hx : (x != ("super" : Str)) = true := h
      cases args <;> cases kws <;> first | rfl | (unfold attributeBase; simp [hx])
    | Attribute _ _ _ => rfl
    | _ => exact absurd (show false = true from h) Bool.false_ne_true
  | _ => first | exact absurd (show false = true from h) Bool.false_ne_true | rfl
theorem XDict.ext {D : DP} {fs : List (Nat × T)} {d : Option Addr} (x : XDict D φ α H fs d) (I : Inv X pins σ H s) : ∀ dx, d = some dx → ∃ o, s.heap.get? dx = some o := fun dx e => by
  subst e
  obtain ⟨gs, _, _, e, _⟩ := x
  exact objOk_get (I.hok dx _ e)
def rdO (D : DP) (W : XW) (f : Dp) : TO := fun σ H Q => ∃ φ α τ μ, SRel D φ α H τ σ ∧ MRel D φ α H μ ∧ Post D W φ α H σ (fun o _ _ H' => Q o H') (f τ μ)
theorem so_none : PO X none (rdO D W pN) := by
  rintro pins s σ H Q I ⟨φ, α, τ, μ, sr, mr, p⟩
  exact po_none pins s σ H Q I (Post.ok p (Stp.refl _ _) mr)
theorem so_some (h : PE X a (rdE D W f)) : PO X (some a) (rdO D W (pS f)) := by
  rintro pins s σ H Q I ⟨φ, α, τ, μ, sr, mr, p⟩
  refine po_some h pins s σ H Q I ⟨φ, α, τ, μ, sr, mr, p.bind.mono fun t μ' α' H' st m q v d => ?_⟩
  split at q
  · cases d
    exact ⟨_, rfl, q.ok (Stp.refl _ _) m⟩
  · exact q.elim
theorem cutL_den {ts : List T} {xs : List V} (l : DenL D φ α H ts xs) (lo hi : Option Int) : DenL D φ α H (cutL ts lo hi) (cutV xs lo hi) := by
  have e : ts.length = xs.length := l.length
  have e1 : ∀ n d o, sIxN n d o = HT.sIx n d o := fun n d o => by cases o <;> rfl
  unfold cutL cutV
  rw [e1, e1, e]
  exact (l.drop _).take _
theorem getItem_tuple_all {prog : Program} {w : World} {A : Around} {E : Value → Shared → Prop} {s : Shared} {t sl : Addr} {items : Array Value} {vl vu : Value} {lo hi : Option Int} {Q : Value → Shared → Prop} (ht : IsTup s.heap t items) (hs : s.heap.IsSliceOf sl vl vu .none) (pl : IsPart vl lo) (pu : IsPart vu hi)
    (hw : HT.sIx items.size 0 lo = 0 ∧ HT.sIx items.size items.size hi = items.size) (h : Q (.ref t) s) : wpAny (model prog w) A (getItem (.ref t) (.ref sl)) Q E s := by
  obtain ⟨os, hos, hcs, hds⟩ := id hs
  have hTs : s.TypeIs (.ref sl) "slice" := ⟨os, hos, hcs⟩
  unfold getItem
  try with_reducible refine wpAny_holding ?_
  first | refine wpAny_bind (wpAny_pure ?_) | skip
  refine wpAny_bind (wpAny_sequenceKey ht.typeIs (by decide) ?_)
  refine wpAny_bind (wpAny_callSpecial?_slot (name := Str.ofString "__getitem__") ht.typeIs slot_tuple_getitem (wpAny_call_entry slot_tuple_getitem ht.typeIs entry_tuple_getitem ?_ (args_tuple_getitem _ _)))
  show wpAny _ _ (Builtin.Tuple.tupleItemsOf (.ref t) >>= _) _ _ s
  refine wpAny_bind (tupleItemsOf_ ht ?_)
  refine wpAny_bind (wpAny_typeOf hTs ?_)
  rw [if_pos (by decide)]
  refine wpAny_bind (HT.sliceApplied_gen hs pl pu ?_)
  show wpAny _ _ (if (((HT.sIx items.size 0 lo : Nat) : Int) == 0 && (1 : Int) == 1 && (HT.sIx items.size items.size hi - HT.sIx items.size 0 lo) == items.size) = true then _ else _) _ _ s
  rw [if_pos (by rw [hw.1, hw.2]; simp)]
  refine wpAny_bind ?_
  unfold Builtin.Tuple.tupleIsExact
  refine wpAny_bind (wpAny_typeOf ht.typeIs (wpAny_pure ?_))
  rw [if_pos (by decide)]
  first
    | exact wpAny_bind (wpAny_rule (wpAny_pure ⟨_, rfl, wpAny_pure h⟩))
    | exact wpAny_bind (wpAny_rule (wpAny_bind (wpAny_pure (wpAny_pure ⟨_, rfl, wpAny_pure h⟩))))
theorem sl_tupR : SlR X (fun x lo hi H Q => ∃ a xs, x = .ref a ∧ SqT X.K H a xs ∧ (HT.sIx xs.length 0 lo = 0 ∧ HT.sIx xs.length xs.length hi = xs.length) ∧ Q (.ref a) H) := by
  intro pins s σ H x v vl vu lo hi sl Q I rx hs pl pu h
  obtain ⟨a, xs, rfl, hx, hw, q⟩ := h
  cases rx
  obtain ⟨its, r, ht, hz⟩ := I.tuple hx
  have hlen : its.toArray.size = xs.length := by rw [List.size_toArray]; exact r.length.symm
  exact ⟨"tuple", _, PyProof.Rows.slot_tuple_getitem.lookup, ht.typeIs, getItem_tuple_all ht hs pl pu (by rw [hlen]; exact hw) ⟨.ref a, H, I, rfl, q⟩⟩
theorem sl_str : SlR X (fun x lo hi H Q => ∃ z, x = .str z ∧ z.length ≤ sizeLine ∧ Q (.str (Txt.slice z lo hi)) H) := by
  intro pins s σ H x v vl vu lo hi sl Q I rx hs pl pu h
  obtain ⟨z, rfl, hz, q⟩ := h
  obtain ⟨t0, rfl⟩ := rx
  refine ⟨"str", _, F.slot_str_getitem.lookup, typeIs_str _ _ _, ?_⟩
  obtain ⟨o, h1, h2, h3⟩ := hs
  have fin : ∀ (l u : Option (Int × Tok)), vl = partValue l → vu = partValue u → lo = l.map (·.1) → hi = u.map (·.1) → wpAny (model X.prog X.w) X.A (getItem (.str z t0) (.ref sl)) (EP X pins σ Q) X.xe s := by
    rintro l u rfl rfl rfl rfl
    exact wpAny_getItem_str_slice (l := l) (u := u) (st := none) ⟨o, h1, h2, h3⟩ rfl (post_val_or_str ⟨Nat.le_trans (Txt.slice_le z _ _) hz, fun t' k => ⟨.str _, H, I.tok _, ⟨t', rfl⟩, q⟩⟩)
  cases pl with
  | none =>
    cases pu with
    | none => exact fin none none rfl rfl rfl rfl
    | int j u => exact fin none (some (j, u)) rfl rfl rfl rfl
  | int i t =>
    cases pu with
    | none => exact fin (some (i, t)) none rfl rfl rfl rfl
    | int j u => exact fin (some (i, t)) (some (j, u)) rfl rfl rfl rfl
theorem se_slice {lo hi : Option Expr} {fo go : Dp} {p2 : Pos} (ha : PE X a (rdE D W f)) (hl : PO X lo (rdO D W fo)) (hu : PO X hi (rdO D W go)) : PE X (.Subscript a (.Slice lo hi none p2) pos) (rdE D W (eSl f fo go)) := by
  refine PE.mono (pe_slice (sl_list.or (sl_tup.or (sl_tupR.or sl_str))) ha hl hu) ?_
  rintro σ H Q ⟨φ, α, τ, μ, sr, mr, p⟩
  refine ⟨φ, α, τ, μ, sr, mr, p.bind.mono fun t μ1 α1 H1 st m q v d => ?_⟩
  refine ⟨φ, α1, τ, μ1, sr.step st, m, q.bind.mono fun l μ2 α2 H2 st2 m2 q2 => ?_⟩
  refine ⟨φ, α2, τ, μ2, (sr.step st).step st2, m2, q2.bind.mono fun u μ3 α3 H3 st3 m3 q3 => ?_⟩
  unfold cutT at q3
  split at q3
  · obtain ⟨ad, xs, rfl, _, _, r, dl⟩ := (d.step st2).step st3
    refine .inl ⟨ad, xs, rfl, .inl r, fun z hz => ?_⟩
    exact q3.fresh m3 (same_upd hz) ⟨z, _, rfl, fresh_phi m3 hz, fresh_out m3 hz, .inl upd_same, cutL_den (dl.step (Stp.new (same_upd hz))) _ _⟩
  · obtain ⟨ad, xs, rfl, n1, n2, r, dl⟩ := (d.step st2).step st3
    by_cases hw : HT.sIx xs.length 0 l = 0 ∧ HT.sIx xs.length xs.length u = xs.length
    · refine .inr (.inr (.inl ⟨ad, xs, rfl, .inl r, hw, ?_⟩))
      have e : cutV xs l u = xs := by unfold cutV; rw [hw.1, hw.2]; simp
      have dd := cutL_den dl l u
      rw [e] at dd
      exact q3.here m3 ⟨ad, xs, rfl, n1, n2, r, dd⟩
    · refine .inr (.inl ⟨ad, xs, rfl, .inl r, hw, fun z hz => ?_⟩)
      exact q3.fresh m3 (same_upd hz) ⟨z, _, rfl, fresh_phi m3 hz, fresh_out m3 hz, .inl upd_same, cutL_den (dl.step (Stp.new (same_upd hz))) _ _⟩
  · obtain ⟨hz, q3⟩ := q3.grd
    have d : v = .str _ := d
    subst d
    exact .inr (.inr (.inr ⟨_, rfl, room_line hz, q3.here m3 rfl⟩))
  · obtain ⟨ts, hj, q3⟩ := q3.ex1
    obtain ⟨ad, hi', rfl⟩ := (d.step st2).step st3
    obtain ⟨xs, e2, dl⟩ := m3.ob _ ad _ hi' hj
    refine .inl ⟨ad, xs, rfl, .inl (.inl e2), fun z hz => ?_⟩
    exact Post.fresh q3 m3 (same_upd hz) ⟨z, _, rfl, fresh_phi m3 hz, fresh_out m3 hz, .inl upd_same, cutL_den (dl.step (Stp.new (same_upd hz))) _ _⟩
  · exact q3.elim
theorem run_own {g : Fn} {fa : Addr} {fd : FuncData} {ps : List Str} {kk : Nat} {us : List Value} {vs : List V} {ts : List T} {Q : VK} (C : Ck D W Γ X k) (F : FnOk X.prog X.w X.K X.mg X.base (CX1 X.prog X.w) kk fa fd ps (spN D ps.length g))
    (hr : Room kk X.A) (hb : Binds X.K fd ps []) (har : ∀ ts μ K Z, g ts μ K Z → ts.length = ps.length) (I : Inv X pins σ H s) (r : Vals vs us) (mr : MRel D φ α H μ) (d : DenL D φ α H ts vs) (p : Post D W φ α H σ (RV D φ Q) (g ts μ)) :
    wpAny (model X.prog X.w) X.A (call (.ref fa) us) (EP X pins σ Q) X.xe s := by
  obtain ⟨K, Z, q, hq, hz⟩ := p
  have hl : ts.length = ps.length := har ts μ K Z q
  have sp : spN D ps.length g vs H Q (fun c d H' => W c d σ H') := ⟨by rw [← d.length]; exact hl, φ, α, ts, μ, d, mr, K, Z, q, hq, hz⟩
  have hl2 : us.length = ps.length := by rw [← r.length, ← d.length]; exact hl
  refine wpAny_call (codeAny_mono (F.run X.A X.stack s H ⟨us, []⟩ us vs Q (fun c d H' => W c d σ H') hr I.env0 (by simpa using hb s us I.kIn (by simpa using hl2)) r sp) fun r s' hq => ?_)
  cases r with
  | error e => exact C.xe e s' (xp_call (E := fun c d H' => W c d σ H') I hq fun cls d H' w => w)
  | ok fl =>
    cases fl with
    | ret u => exact I.after hq
    | next => exact False.elim hq
    | brk => exact False.elim hq
    | cont => exact False.elim hq
theorem se_call (C : Ck D W Γ X k) {x : Str} {g : Fn} {p0 : Pos} (hx : x ∈ Γ.G) (hg : Γ.gl x = .fn g) (hc : Γ.calm = true) (ha : EsOk X D W es fs) : PE X (.Call (.Name x p0) es [] pos) (rdE D W (eCall g fs)) := by
  have q := C.glo x hx
  rw [hg] at q
  obtain ⟨fa, hm, fd, ps, kk, hk, hb, hkk, Fn, har⟩ := q
  have hr := (C.rom hc).mono hkk
  have hs := ha.stars
  have pa := sa_all ha
  rintro pins s σ H Q I ⟨φ, α, τ, μ, sr, mr, p⟩
  refine wpAny_Call_Name_kw (ld_glob I (C.glb x hx) hm ?_ (C.dbG x hx))
  cases es with
  | nil =>
    cases fs with
    | nil => exact PySem.W.callWith_K0 I.kIn hk (run_own (ts := []) C Fn hr hb har I .nil mr rfl p)
    | cons f fs => exact ha.elim
  | cons e es =>
    simp only [List.all_cons, Bool.and_eq_true] at hs
    refine PySem.W.callWith_K (h₀ := X.base) I.ok.mod.kin hk (thn (subA pa I sr mr p) ?_) (noStar_of hs.1) (noStars hs.2)
    rintro us s1 ⟨vs, H1, ts, μ1, α1, I1, r1, st1, sr1, mr1, d1, _, p1⟩
    exact ⟨I1.kIn, run_own C Fn hr hb har I1 r1 mr1 d1 p1⟩
theorem run_mk {c : Nat} {g : Fn} {C0 fI : Addr} {fd : FuncData} {ps : List Str} {kk : Nat} {us : List Value} {vs : List V} {ts : List T} {Q : VK} (C : Ck D W Γ X k) (ad : D.cad c = some C0) (M : Mk X.K C0 fI) (F : FnOk X.prog X.w X.K X.mg X.base (CX1 X.prog X.w) kk fI fd ps (spN D ps.length g))
    (hr : Room (kk + 1) X.A) (hb : Binds X.K fd ps []) (har : ∀ ts μ K Z, g ts μ K Z → ts.length = ps.length) (I : Inv X pins σ H s) (r : Vals vs us) (mr : MRel D φ α H μ) (d : DenL D φ α H ts vs) (p : Post D W φ α H σ (RV D φ Q) (frozenMk c g ts μ)) :
    wpAny (model X.prog X.w) X.A (call (.ref C0) us) (EP X pins σ Q) X.xe s := by
  obtain ⟨K, Z, ⟨hp, hg⟩, hk, hz⟩ := p
  have hl : (T.mut 0 :: ts).length = ps.length := har _ _ _ _ hg
  have hq : ∀ x dx, H x = none → H dx = none → dx ≠ x → spN D ps.length g (.ref x :: (vs ++ [])) (upd (upd H dx (.own x)) x (.ins C0 dx [])) (fun v H2 => v = .non ∧ Q (.ref x) H2) (fun c d H' => W c d σ H') := by
    intro x dx hx hdx hne
    have sm : Same H (upd (upd H dx (.own x)) x (.ins C0 dx [])) := fun b o e => by rw [upd_ne (ne_of_none e hx), upd_ne (ne_of_none e hdx)]; exact e
    have st0 : Stp [] H [x] (upd (upd H dx (.own x)) x (.ins C0 dx [])) := ⟨⟨[x], rfl, fun b hb' => by rw [List.mem_singleton.mp hb']; exact hx⟩, fun b o _ e => sm b o e, fun b e => by
      cases q : H b with
      | none => rfl
      | some o => rw [sm b o q] at e; cases e⟩
    have nx : x ∉ φ ++ α := fun z => (List.mem_append.mp z).elim (fresh_phi mr hx) (fresh_out mr hx)
    have ph : ∀ b ∈ φ ++ α, ∃ o, H b = some o := fun b hb' => (List.mem_append.mp hb').elim (mr.phi b) fun z => by
      obtain ⟨i, hi⟩ := List.mem_iff_getElem?.mp z
      have hl' : i < μ.length := by rw [← mr.len]; exact (List.getElem?_eq_some_iff.mp hi).1
      exact (mr.ob i b μ[i] hi (by simp [hl'])).some
    refine ⟨by simp only [List.length_cons, List.append_nil] at hl ⊢; rw [← d.length]; exact hl, φ ++ α, [x], .mut 0 :: ts, [.obj c []], ⟨.ref x, vs ++ [], rfl, ⟨x, rfl, rfl⟩, by rw [List.append_nil]; exact (DenL.hide hp d hide_in).step st0⟩, ⟨rfl, by simp, fun b hb' => by rw [List.mem_singleton.mp hb']; exact nx, fun b hb' => let ⟨o, e⟩ := ph b hb'; ⟨o, sm b o e⟩, fun i a o e1 e2 => ?_⟩, ?_⟩
    · cases i with
      | zero => simp at e1 e2; subst e1 e2; exact ⟨C0, dx, [], ad, upd_same, rfl⟩
      | succ i => simp at e1
    have back : ∀ {α2 : List Addr} {H3 : Hp}, Stp [x] (upd (upd H dx (.own x)) x (.ins C0 dx [])) α2 H3 → Same H H3 := fun st b o e => st.keep b o (fun z => by rw [List.mem_singleton.mp z, hx] at e; cases e) (sm b o e)
    refine ⟨_, _, hg, ?_, ?_⟩
    · rintro t μ2 ⟨rfl, fs, h0, hpf, q⟩ α2 H3 st m v dv
      refine ⟨dv, ?_⟩
      obtain ⟨β, rfl, _⟩ := st.ext
      obtain ⟨C1, dx1, gs, ad1, e1, lf⟩ := m.ob 0 x _ rfl h0
      have sm3 := back st
      exact hk _ _ q α H3 (Stp.new sm3) (mr.new sm3) _ ⟨x, C1, dx1, gs, rfl, fresh_phi mr hx, fresh_out mr hx, ad1, e1, DenF.hide hpf lf hide_out⟩
    · rintro e fs μ2 ⟨hpf, q⟩ α2 H3 C1 d1 st m had xd
      have sm3 := back st
      exact hz _ _ _ q α H3 C1 d1 (Stp.new sm3) (mr.new sm3) had (XDict.hide hpf xd hide_out)
  have hq1 := hq (s.heap.objs.size + 1) s.heap.objs.size (I.hok.fresh (Nat.le_succ _)) (I.hok.fresh (Nat.le_refl _)) (Nat.ne_of_lt (Nat.lt_succ_self _))
  have I2 := Inv.made (C := C0) I
  have r2 : Vals (V.ref (s.heap.objs.size + 1) :: (vs ++ [])) (Value.ref (s.heap.objs.size + 1) :: us) := .cons rfl (by rw [List.append_nil]; exact r)
  have hlu : (Value.ref (s.heap.objs.size + 1) :: us ++ []).length = ps.length := by
    rw [List.append_nil, List.length_cons, ← r.length, ← d.length]
    exact hl
  refine wpAny_call (make_map (f := fI) I.kIn M.makes M.init (beq_iff_eq.mp M.fn) (codeAny_mono (F.run _ X.stack _ _ ⟨Value.ref (s.heap.objs.size + 1) :: us, []⟩ (Value.ref (s.heap.objs.size + 1) :: us) _ _ (fun c d H' => W c d σ H') (hr.make C0 us [])
    (I2.env0.make C0 us []) (by simpa using hb _ (Value.ref (s.heap.objs.size + 1) :: us) I2.kIn hlu) r2 hq1) fun r s' hq' => ?_))
  cases r with
  | error e => exact C.xe e s' (xp_call (E := fun c d H' => W c d σ H') I2 hq' fun cls d H' w => w)
  | ok fl =>
    cases fl with
    | ret u =>
      obtain ⟨v, H', I3, rv, ev, q3⟩ := I2.after hq'
      subst ev
      exact ⟨rv, ⟨V.ref (s.heap.objs.size + 1), H', I3, rfl, q3⟩⟩
    | next => exact False.elim hq'
    | brk => exact False.elim hq'
    | cont => exact False.elim hq'
theorem se_make (C : Ck D W Γ X k) {x : Str} {c : Nat} {g : Fn} {p0 : Pos} (hx : x ∈ Γ.G) (hg : Γ.gl x = .mk c true g) (hc : Γ.calm = true) (ha : EsOk X D W es fs) : PE X (.Call (.Name x p0) es [] pos) (rdE D W (eMk c g fs)) := by
  have q := C.glo x hx
  rw [hg] at q
  obtain ⟨C0, fI, fd, ps, kk, ad, hm, M, hb, hkk, Fn, har⟩ := q
  have hr := (C.rom hc).mono hkk
  have hs := ha.stars
  have pa := sa_all ha
  rintro pins s σ H Q I ⟨φ, α, τ, μ, sr, mr, p⟩
  refine wpAny_Call_Name_kw (ld_glob I (C.glb x hx) hm ?_ (C.dbG x hx))
  cases es with
  | nil =>
    cases fs with
    | nil => exact PySem.W.callWith_K0 I.kIn M.kp (run_mk (ts := []) C ad M Fn hr hb har I .nil mr rfl p)
    | cons f fs => exact ha.elim
  | cons e es =>
    simp only [List.all_cons, Bool.and_eq_true] at hs
    refine PySem.W.callWith_K (h₀ := X.base) I.ok.mod.kin M.kp (thn (subA pa I sr mr p) ?_) (noStar_of hs.1) (noStars hs.2)
    rintro us s1 ⟨vs, H1, ts, μ1, α1, I1, r1, st1, sr1, mr1, d1, _, p1⟩
    exact ⟨I1.kIn, run_mk C ad M Fn hr hb har I1 r1 mr1 d1 p1⟩
theorem se_fld (C : Ck D W Γ X k) {x : Str} {n : Nat} (hp : plainOb a = true) (hn : (x, n) ∈ Γ.fld) (ha : PE X a (rdE D W f)) : PE X (.Attribute a x pos) (rdE D W (eFld f n)) := by
  refine PE.mono (pe_fld ha (base_of hp)) ?_
  rintro σ H Q ⟨φ, α, τ, μ, sr, mr, p⟩
  refine ⟨φ, α, τ, μ, sr, mr, p.bind.mono fun t μ1 α1 H1 st m q v d => ?_⟩
  unfold fieldT at q
  split at q
  · split at q
    · rename_i c fs _ w hw
      obtain ⟨ad, C0, dx, gs, rfl, _, _, e1, e2, l⟩ := d
      obtain ⟨y, z, hy, hz, dz⟩ := l.look hw
      obtain ⟨c0, c1, c2⟩ := C.fld c C0 x n e1 hn
      rw [hy] at c0; cases c0
      exact ⟨ad, C0, dx, gs, z, rfl, e2, c1, c2, hz, q.here m dz⟩
    · exact q.elim
  · obtain ⟨c, fs, w, hi, hw, q⟩ := q.ex3
    obtain ⟨ad, hi', rfl⟩ := d
    obtain ⟨C0, dx, gs, e1, e2, l⟩ := m.ob _ ad _ hi' hi
    obtain ⟨y, z, hy, hz, dz⟩ := l.look hw
    obtain ⟨c0, c1, c2⟩ := C.fld c C0 x n e1 hn
    rw [hy] at c0; cases c0
    exact ⟨ad, C0, dx, gs, z, rfl, e2, c1, c2, hz, Post.here q m dz⟩
  · exact q.elim
end
end NH
end
section
set_option linter.all false
set_option maxRecDepth 100000
set_option maxHeartbeats 4000000
namespace NH
open PySem PySem.Spec PyProof.Rows L2
section
variable {X : Cx} {D : DP} {W : XW} {Γ : Cn} {k : Nat} {pins : List (Addr × Obj)} {s : Shared} {σ : St} {H : Hp} {φ α : List Addr} {τ : Sl} {μ : Mem} {f g h : De} {a b c : Expr} {pos : Pos} {es : List Expr}
theorem kit_ins {B : Prop} (C : Ck D W Γ X k) {c : Nat} {C0 dx ad : Addr} {gs : List (Str × V)} (I : Inv X pins σ H s) (e1 : D.cad c = some C0) (ea : H ad = some (.ins C0 dx gs))
    (hh : ∀ tv P, TyNm D c tv → PySem.W.KitX X.K (.ref ad) tv P → P s.heap → (Value.ref ad) ≠ .builtin "__main__.__loader__#opaque" → B) : B := by
  have o := C.ocx c C0 e1
  obtain ⟨mA, O, _⟩ := ins_get I.hok ea
  obtain ⟨od, J, _⟩ := O.look
  exact hh _ _ (.inr (.inr (.inr (.inr (.inr (.inr (.inr (.inr ⟨C0, e1, rfl⟩)))))))) (PySem.W.kitx_own (o.cl.get _) o.cl.hd o.fi o.sp o.tk o.ob) J (fun z => nomatch z)
theorem kit_of {B : Prop} (C : Ck D W Γ X k) {t : T} {v : V} {u : Value} {n : Nat} (I : Inv X pins σ H s) (d : Den D φ α H t v) (r : RelV v u) (ht : tyN t μ = some n)
    (hh : ∀ tv P, TyNm D n tv → PySem.W.KitX X.K u tv P → P s.heap → u ≠ .builtin "__main__.__loader__#opaque" → B) : B := by
  cases t with
  | non => cases d; cases r; cases ht; exact hh _ _ (.inl ⟨rfl, rfl⟩) PySem.W.kitx_none True.intro (fun z => nomatch z)
  | bl b => cases d; cases r; cases ht; exact hh _ _ (.inr (.inl ⟨rfl, rfl⟩)) PySem.W.kitx_bool True.intro (fun z => nomatch z)
  | int i => cases d; obtain ⟨t, rfl⟩ := r; cases ht; exact hh _ _ (.inr (.inr (.inl ⟨rfl, rfl⟩))) PySem.W.kitx_int True.intro (fun z => nomatch z)
  | str i => cases d; obtain ⟨t, rfl⟩ := r; cases ht; exact hh _ _ (.inr (.inr (.inr (.inl ⟨rfl, rfl⟩)))) PySem.W.kitx_str True.intro (fun z => nomatch z)
  | tup ts =>
    obtain ⟨ad, xs, rfl, _, _, q, _⟩ := d; cases r; cases ht
    obtain ⟨its, _, ⟨o, h1, h2, _⟩, _⟩ := I.tuple (.inl q)
    exact hh _ _ (.inr (.inr (.inr (.inr (.inl ⟨rfl, rfl⟩))))) PySem.W.kitx_tuple ⟨o, h1, h2⟩ (fun z => nomatch z)
  | lst ts =>
    obtain ⟨ad, xs, rfl, _, _, q, _⟩ := d; cases r; cases ht
    obtain ⟨its, _, p, _⟩ := I.list (.inl q)
    obtain ⟨o, h1, h2, _⟩ := p.isList
    exact hh _ _ (.inr (.inr (.inr (.inr (.inr (.inl ⟨rfl, rfl⟩)))))) PySem.W.kitx_list ⟨o, h1, h2⟩ (fun z => nomatch z)
  | exc c fs =>
    obtain ⟨ad, C0, dd, rfl, _, _, e1, e2, xd⟩ := d; cases r; cases ht
    have hx := C.xcx n C0 e1
    obtain ⟨p, _⟩ := (show ObjOk X.prog X.w H s.heap ad (.ext (XcAt ad C0 dd)) from I.hok ad _ e2)
    have xd : XDict D φ α H fs dd := by cases dd <;> exact xd
    exact hh _ _ (.inr (.inr (.inr (.inr (.inr (.inr (.inl ⟨C0, e1, rfl⟩))))))) (kitx_exc hx) ⟨p, xd.ext I⟩ (fun z => nomatch z)
  | dic kvs =>
    obtain ⟨ad, gs, rfl, _, _, e, _⟩ := d; cases r; cases ht
    obtain ⟨_, _, vs, _, dd⟩ := (show ObjOk X.prog X.w H s.heap ad (.dK gs) from I.hok ad _ e)
    exact hh _ _ (.inr (.inr (.inr (.inr (.inr (.inr (.inr (.inl ⟨rfl, rfl⟩)))))))) PySem.W.kitx_dict dd.typeIs (fun z => nomatch z)
  | obj c fs =>
    obtain ⟨ad, C0, dx, gs, rfl, _, _, e1, e2, l⟩ := d; cases r; cases ht
    exact kit_ins C I e1 e2 hh
  | «mut» i => cases ht
  | clo j cs => cases ht
theorem kit_mut {B : Prop} (C : Ck D W Γ X k) {i : Nat} {v : V} {u : Value} {o : MO} (I : Inv X pins σ H s) (mr : MRel D φ α H μ) (d : Den D φ α H (.mut i) v) (r : RelV v u) (ht : μ[i]? = some o) (hnt : isTab o = false)
    (hh : ∀ tv P, TyNm D (tyO o) tv → PySem.W.KitX X.K u tv P → P s.heap → u ≠ .builtin "__main__.__loader__#opaque" → B) : B := by
  obtain ⟨ad, hi, rfl⟩ := d
  cases r
  have dd := mr.ob i ad o hi ht
  cases o with
  | lst ts =>
    obtain ⟨xs, q, _⟩ := dd
    obtain ⟨its, _, p, _⟩ := I.list (.inl (.inl q))
    obtain ⟨o, h1, h2, _⟩ := p.isList
    exact hh _ _ (.inr (.inr (.inr (.inr (.inr (.inl ⟨rfl, rfl⟩)))))) PySem.W.kitx_list ⟨o, h1, h2⟩ (fun z => nomatch z)
  | obj c fs =>
    obtain ⟨C0, dx, gs, e1, e2, l⟩ := dd
    exact kit_ins C I e1 e2 hh
  | dic kvs =>
    obtain ⟨gs, e, _⟩ := dd
    obtain ⟨_, _, vs, _, dd⟩ := (show ObjOk X.prog X.w H s.heap ad (.dK gs) from I.hok ad _ e)
    exact hh _ _ (.inr (.inr (.inr (.inr (.inr (.inr (.inr (.inl ⟨rfl, rfl⟩)))))))) PySem.W.kitx_dict dd.typeIs (fun z => nomatch z)
  | tab j => cases hnt
theorem kit_isi {B : Prop} (C : Ck D W Γ X k) {t : T} {v : V} {u : Value} {cs : List Nat} {Q : VK} (I : Inv X pins σ H s) (mr : MRel D φ α H μ) (d : Den D φ α H t v) (r : RelV v u) (q : Post D W φ α H σ (RV D φ Q) (isiT cs t μ))
    (hh : ∀ n tv P, Post D W φ α H σ (RV D φ Q) (.ok (.bl (isAny n cs)) μ) → TyNm D n tv → PySem.W.KitX X.K u tv P → P s.heap → u ≠ .builtin "__main__.__loader__#opaque" → B) : B := by
  unfold isiT at q
  split at q
  · obtain ⟨o, ho, q⟩ := q.som
    rcases q.br with ⟨_, q⟩ | ⟨hb, q⟩
    · exact q.elim
    · exact kit_mut C I mr d r ho hb fun tv P => hh _ tv P q
  · split at q
    · rename_i tn htn
      exact kit_of C I d r htn fun tv P => hh _ tv P q
    · exact q.elim
def clsList (Γ : Cn) : List Expr → Option (List Nat)
  | [] => some []
  | e :: r => match e with
    | .Name x _ => if (idx Γ.N x).isNone && Γ.G.contains x then (match Γ.cls.lookup x with
      | some c => (clsList Γ r).map (c :: ·)
      | none => none) else none
    | _ => none
def clsNames (Γ : Cn) (e : Expr) : Option (List Nat) := match e with
  | .Name _ _ => clsList Γ [e]
  | .Tuple es _ _ => if decide (es.length ≤ room) then clsList Γ es else none
  | _ => none
theorem lookup_mem {β : Type} {x : Str} {v : β} : ∀ {l : List (Str × β)}, l.lookup x = some v → (x, v) ∈ l
  | [], h => by cases h
  | (y, w) :: r, h => by
    rw [List.lookup_cons] at h
    cases q : x == y with
    | true => rw [q] at h; cases h; rw [beq_iff_eq.mp q]; exact List.mem_cons_self
    | false => rw [q] at h; exact List.mem_cons_of_mem _ (lookup_mem h)
theorem pe_cls (C : Ck D W Γ X k) {x : Str} {c : Nat} (hc : x ∈ Γ.G) (hl : (x, c) ∈ Γ.cls) : ∃ u v, ClVal X x u ∧ ClsV v u ∧ ∀ p0, PE X (.Name x p0) (tC v) := by
  obtain ⟨u, v, cv, r⟩ := C.clv x c hl
  refine ⟨u, v, cv, r, fun p0 => ?_⟩
  rcases cv with h | ⟨h, hb, hn⟩
  · exact pe_glob (C.glb x hc) h r.rel (C.dbG x hc)
  · exact pe_bltn (C.glb x hc) h hb r.rel hn (C.dbG x hc)
theorem pa_clss (C : Ck D W Γ X k) : ∀ {es : List Expr} {cs : List Nat}, clsList Γ es = some cs → ∃ us vs, (∀ us', Vals vs us' → us' = us) ∧ vs.length = es.length ∧ es.all noStar = true ∧ PA X es (fun _ H Q => Q vs H) ∧ ∀ t tv, TyNm D t tv → PySem.W.kitAny X.K tv us = some (isAny t cs)
  | [], cs, h => by
    simp [clsList] at h; subst h
    exact ⟨[], [], fun us' r => by cases r; rfl, rfl, rfl, fun pos pins s σ H Q I q => pa_nil pos pins s σ H Q I q, fun t tv _ => rfl⟩
  | e :: es, cs, h => by
    unfold clsList at h
    split at h
    · rename_i x p0
      split at h
      · rename_i hc
        simp only [Bool.and_eq_true, List.contains_iff_mem] at hc
        split at h
        · rename_i c hl
          cases hr : clsList Γ es with
          | none => rw [hr] at h; cases h
          | some cs' =>
            rw [hr] at h
            cases h
            have hm := lookup_mem hl
            obtain ⟨us, vs, rv, hl, hs, hp, hk⟩ := pa_clss C hr
            obtain ⟨u, v, cv, r, pe⟩ := pe_cls C hc.2 hm
            refine ⟨u :: us, v :: vs, fun us' q => by cases q with | cons q1 q2 => rw [r.only q1, rv _ q2], by simp [hl], by simp [noStar, hs], fun pos pins s σ H Q I q => pa_cons (pe p0) hp (noStar_of rfl) pos pins s σ H Q I q, fun t tv ht => ?_⟩
            have k1 := C.isi t x c hm tv u ht cv
            have k2 := hk t tv ht
            unfold PySem.W.kitAny
            rw [k1]
            rw [isAny_cons]
            cases hb : isinN t c with
            | true => rfl
            | false => exact k2
        · cases h
      · cases h
    · cases h
theorem se_isi (C : Ck D W Γ X k) {cs : List Nat} {p0 : Pos} (hx : ("isinstance" : Str) ∈ Γ.G) (hg : Γ.gl "isinstance" = .none) (hs : noStar a = true) (hcs : clsNames Γ c = some cs) (ha : PE X a (rdE D W f)) : PE X (.Call (.Name "isinstance" p0) [a, c] [] pos) (rdE D W (eIsi cs f)) := by
  have hm := C.glo _ hx
  rw [hg] at hm
  rintro pins s σ H Q I ⟨φ, α, τ, μ, sr, mr, p⟩
  refine wpAny_Call_Name_kw (ld_blt I (C.glb _ hx) hm boot_isinstance ?_ (by decide) (C.dbG _ hx))
  unfold clsNames at hcs
  split at hcs
  · rename_i cn pc
    obtain ⟨us0, vs0, hu, hl, hst, hp, hk⟩ := pa_clss C hcs
    refine PyProof.Rows.callWith_builtin1 (thn (pa_cons ha hp (noStar_of hs) pos pins s σ H (fun vs H1 => ∃ v t μ1 α1, vs = v :: vs0 ∧ Stp α H α1 H1 ∧ MRel D φ α1 H1 μ1 ∧ Den D φ α1 H1 t v ∧ Post D W φ α1 H1 σ (RV D φ Q) (isiT cs t μ1)) I ⟨φ, α, τ, μ, sr, mr, p.bind.mono fun t μ' α' H' st m q v d => ⟨v, t, μ', α', rfl, st, m, d, q⟩⟩) ?_) (noStar_of hs) (noStars (by rfl))
    rintro us s1 ⟨vs, H1, I1, rv, v, t, μ1, α1, rfl, st, m, d, q⟩
    cases rv with
    | @cons _ u _ us' r1 r2 =>
    obtain rfl := hu us' r2
    have hlu : us'.length = 1 := by rw [← r2.length]; exact hl
    match us', hlu with
    | [uc], _ =>
    refine kit_isi C I1 m d r1 q fun tn tv P q ht kx hP hne => ?_
    have kk := hk tn tv ht
    have k1 : PySem.W.kitOne X.K tv uc = some (isAny tn cs) := by
      unfold PySem.W.kitAny at kk
      split at kk
      · rename_i hb; rw [hb]; exact kk
      · rename_i hb; rw [hb]; exact kk
      · cases kk
    exact PySem.W.kia_one kx I1.kIn hP k1 hne fun tk => ⟨.bl _, H1, I1.tok tk, rfl, q.here m rfl⟩
  · rename_i ees kk pc
    split at hcs
    case isFalse => cases hcs
    rename_i hlen
    obtain ⟨us0, vs0, hu, hl, hst, hp, hk⟩ := pa_clss C hcs
    refine PyProof.Rows.callWith_builtin1 (thn (pa_cons ha (pa_cons (pe_tup hp) pa_nil (noStar_of rfl)) (noStar_of hs) pos pins s σ H (fun vs H2 => ∃ v tp H1 t μ1 α1, vs = [v, .ref tp] ∧ H1 tp = none ∧ H2 = upd H1 tp (.tup vs0) ∧ Stp α H α1 H1 ∧ MRel D φ α1 H1 μ1 ∧ Den D φ α1 H1 t v ∧ Post D W φ α1 H1 σ (RV D φ Q) (isiT cs t μ1)) I ⟨φ, α, τ, μ, sr, mr, p.bind.mono fun t μ' α' H' st m q v d => ⟨by rw [hl]; exact room_line (by simpa using hlen), fun tp htp => ⟨v, tp, H', t, μ', α', rfl, htp, rfl, st, m, d, q⟩⟩⟩) ?_) (noStar_of hs) (noStars (by rfl))
    rintro us s1 ⟨vs, H2, I1, rv, v, tp, H1, t, μ1, α1, rfl, htp, rfl, st, m, d, q⟩
    obtain ⟨u, ut, rfl, r1, r2⟩ := vals2 rv
    have r2 : ut = Value.ref tp := r2
    subst r2
    have sm : Same H1 (upd H1 tp (.tup vs0)) := same_upd htp
    refine kit_isi C I1 (m.new sm) (d.step (Stp.new sm)) r1 (q.step (Stp.new sm)) fun tn tv P q ht kx hP hne => ?_
    obtain ⟨_, its, rvs, ⟨o, ho, hcl, n, hd⟩⟩ := (show ObjOk X.prog X.w _ s1.heap tp (.tup vs0) from I1.hok tp _ upd_same)
    obtain rfl := hu its rvs
    obtain ⟨oc, odd, odt, osl⟩ := o
    simp only at hcl hd
    subst hcl hd
    exact PySem.W.kia_tup kx I1.kIn hP ho (hk tn tv ht) hne fun tk => ⟨.bl _, _, I1.tok tk, rfl, q.here (m.new sm) rfl⟩
  · cases hcs
end
end NH
end
section
set_option linter.all false
set_option maxRecDepth 100000
set_option maxHeartbeats 4000000
namespace NH
open PySem PySem.Spec PyProof.Rows L2
section
variable {X : Cx} {D : DP} {W : XW} {Γ : Cn} {k : Nat} {pins : List (Addr × Obj)} {s : Shared} {σ : St} {H : Hp} {φ α : List Addr} {τ : Sl} {μ : Mem} {f g h : De} {a b c : Expr} {pos : Pos} {es : List Expr}
def B1 (X : Cx) (D : DP) (W : XW) (fv : Value) (op : T → Mem → RE T) : Prop :=
  ∀ (pins : List (Addr × Obj)) (s : Shared) (σ : St) (H : Hp) (φ α : List Addr) (μ : Mem) (t : T) (v : V) (u : Value) (Q : VK), Inv X pins σ H s → MRel D φ α H μ → Den D φ α H t v → RelV v u → Post D W φ α H σ (RV D φ Q) (op t μ) →
    wpAny (model X.prog X.w) X.A (call fv [u]) (EP X pins σ Q) X.xe s
theorem se_b1 (C : Ck D W Γ X k) {x : Str} {id : String} {op : T → Mem → RE T} {p0 : Pos} (hx : x ∈ Γ.G) (hg : Γ.gl x = .none) (hv : bootBuiltins x = some (.builtin id)) (hn : x ≠ "__name__") (hs : noStar a = true) (hb : B1 X D W (.builtin id) op) (ha : PE X a (rdE D W f)) :
    PE X (.Call (.Name x p0) [a] [] pos) (rdE D W (eB1 op f)) := by
  have hm := C.glo _ hx
  rw [hg] at hm
  rintro pins s σ H Q I ⟨φ, α, τ, μ, sr, mr, p⟩
  refine wpAny_Call_Name_kw (ld_blt I (C.glb _ hx) hm hv ?_ hn (C.dbG _ hx))
  refine PyProof.Rows.callWith_builtin1 (thn (pa_cons ha pa_nil (noStar_of hs) pos pins s σ H (fun vs H1 => ∃ v t μ1 α1, vs = [v] ∧ Stp α H α1 H1 ∧ MRel D φ α1 H1 μ1 ∧ Den D φ α1 H1 t v ∧ Post D W φ α1 H1 σ (RV D φ Q) (op t μ1)) I ⟨φ, α, τ, μ, sr, mr, p.bind.mono fun t μ' α' H' st m q v d => ⟨v, t, μ', α', rfl, st, m, d, q⟩⟩) ?_) (noStar_of hs) (noStars (by rfl))
  rintro us s1 ⟨vs, H1, I1, rv, v, t, μ1, α1, rfl, st, m, d, q⟩
  obtain ⟨u, rfl, r1⟩ := vals1 rv
  exact hb pins s1 σ H1 φ α1 μ1 t v u Q I1 m d r1 q
theorem se_bT (C : Ck D W Γ X k) {x : Str} {id : String} {op : T → Mem → RE T} {p0 : Pos} (hx : x ∈ Γ.G) (hg : Γ.gl x = .none) (hv : bootBuiltins x = some (.type id)) (hn : x ≠ "__name__") (hs : noStar a = true) (hb : B1 X D W (.type id) op) (ha : PE X a (rdE D W f)) :
    PE X (.Call (.Name x p0) [a] [] pos) (rdE D W (eB1 op f)) := by
  have hm := C.glo _ hx
  rw [hg] at hm
  rintro pins s σ H Q I ⟨φ, α, τ, μ, sr, mr, p⟩
  refine wpAny_Call_Name_kw (ld_blt I (C.glb _ hx) hm hv ?_ hn (C.dbG _ hx))
  refine PyProof.Rows.callWith_type1 (thn (pa_cons ha pa_nil (noStar_of hs) pos pins s σ H (fun vs H1 => ∃ v t μ1 α1, vs = [v] ∧ Stp α H α1 H1 ∧ MRel D φ α1 H1 μ1 ∧ Den D φ α1 H1 t v ∧ Post D W φ α1 H1 σ (RV D φ Q) (op t μ1)) I ⟨φ, α, τ, μ, sr, mr, p.bind.mono fun t μ' α' H' st m q v d => ⟨v, t, μ', α', rfl, st, m, d, q⟩⟩) ?_) (noStar_of hs) (noStars (by rfl))
  rintro us s1 ⟨vs, H1, I1, rv, v, t, μ1, α1, rfl, st, m, d, q⟩
  obtain ⟨u, rfl, r1⟩ := vals1 rv
  exact hb pins s1 σ H1 φ α1 μ1 t v u Q I1 m d r1 q
theorem b_len : B1 X D W (.builtin "len") lenT := by
  intro pins s σ H φ α μ t v u Q I mr d r p
  unfold lenT at p
  split at p
  · obtain ⟨ad, xs, rfl, _, _, q, l⟩ := d
    exact call_len_seq pins s σ H _ _ Q I (.cons r .nil) ⟨ad, xs, rfl, .inl (.inl q), by rw [← l.length]; exact p.here mr rfl⟩
  · obtain ⟨ad, xs, rfl, _, _, q, l⟩ := d
    exact call_len_seq pins s σ H _ _ Q I (.cons r .nil) ⟨ad, xs, rfl, .inr (.inl q), by rw [← l.length]; exact p.here mr rfl⟩
  · cases d
    obtain ⟨hl, p⟩ := p.grd
    exact call_len_str pins s σ H _ _ Q I (.cons r .nil) ⟨_, rfl, room_line hl, p.here mr rfl⟩
  · obtain ⟨ts, hj, p⟩ := p.ex1
    obtain ⟨ad, hi, rfl⟩ := d
    obtain ⟨xs, q, l⟩ := mr.ob _ ad _ hi hj
    exact call_len_seq pins s σ H _ _ Q I (.cons r .nil) ⟨ad, xs, rfl, .inl (.inl (.inl q)), by rw [← l.length]; exact Post.here p mr rfl⟩
  · exact p.elim
theorem b_list : B1 X D W (.type "list") listT := by
  intro pins s σ H φ α μ t v u Q I mr d r p
  unfold listT at p
  split at p
  · obtain ⟨ad, xs, rfl, _, _, q, l⟩ := d
    exact call_list_of pins s σ H _ _ Q I (.cons r .nil) ⟨ad, xs, rfl, .inl (.inl q), fun z hz => p.fresh mr (same_upd hz) ⟨z, xs, rfl, fresh_phi mr hz, fresh_out mr hz, .inl upd_same, l.step (Stp.new (same_upd hz))⟩⟩
  · obtain ⟨ad, xs, rfl, _, _, q, l⟩ := d
    exact call_list_of pins s σ H _ _ Q I (.cons r .nil) ⟨ad, xs, rfl, .inr (.inl q), fun z hz => p.fresh mr (same_upd hz) ⟨z, xs, rfl, fresh_phi mr hz, fresh_out mr hz, .inl upd_same, l.step (Stp.new (same_upd hz))⟩⟩
  · obtain ⟨ts, hj, p⟩ := p.ex1
    obtain ⟨ad, hi, rfl⟩ := d
    obtain ⟨xs, q, l⟩ := mr.ob _ ad _ hi hj
    exact call_list_of pins s σ H _ _ Q I (.cons r .nil) ⟨ad, xs, rfl, .inl (.inl (.inl q)), fun z hz => Post.fresh p mr (same_upd hz) ⟨z, xs, rfl, fresh_phi mr hz, fresh_out mr hz, .inl upd_same, l.step (Stp.new (same_upd hz))⟩⟩
  · exact p.elim
theorem stp_lay {p : Addr} {o : HO} (hp : H p = none) : Stp α H (α ++ [p]) (upd H p o) := ⟨⟨[p], rfl, by simpa using hp⟩, fun b u _ e => same_upd hp b u e, fun b e => by
  by_cases z : b = p
  · rw [z, upd_same] at e; cases e
  · rw [upd_ne z] at e; exact e⟩
theorem MRel.lay {p : Addr} {ts : List T} {vs : List V} (m : MRel D φ α H μ) (hp : H p = none) (l : DenL D φ α H ts vs) : MRel D φ (α ++ [p]) (upd H p (.lst vs)) (μ ++ [.lst ts]) := by
  have st : Stp α H (α ++ [p]) (upd H p (.lst vs)) := stp_lay hp
  have hl := m.len
  refine ⟨by simp [hl], ?_, fun b hb => ?_, fun b hb => ?_, fun i a o e1 e2 => ?_⟩
  · rw [List.nodup_append]
    refine ⟨m.nd, by simp, fun a ha b hb => ?_⟩
    rw [List.mem_singleton.mp hb]
    intro z
    exact fresh_out m hp (z ▸ ha)
  · rcases List.mem_append.mp hb with h | h
    · exact m.dis b h
    · rw [List.mem_singleton.mp h]; exact fresh_phi m hp
  · obtain ⟨u, e⟩ := m.phi b hb
    exact ⟨u, same_upd hp b u e⟩
  · by_cases hi : i < α.length
    · rw [List.getElem?_append_left hi] at e1
      rw [List.getElem?_append_left (by omega)] at e2
      have d := m.ob i a o e1 e2
      obtain ⟨u, q⟩ := d.some
      exact d.step st ((same_upd hp _ _ q).trans q.symm)
    · rw [List.getElem?_append_right (by omega)] at e1 e2
      have hi' : i - α.length = 0 := by
        by_cases z : i - α.length = 0
        · exact z
        · rw [List.getElem?_eq_none (by simp; omega)] at e1; cases e1
      have hi2 : i - μ.length = 0 := by omega
      rw [hi'] at e1
      rw [hi2] at e2
      have e1 : some p = some a := e1
      have e2 : some (MO.lst ts) = some o := e2
      cases e1; cases e2
      exact ⟨vs, upd_same, l.step st⟩
theorem Post.lay {Q : VK} {p : Addr} {ts : List T} {vs : List V} (q : Post D W φ α H σ (RV D φ Q) (.ok (.mut μ.length) (μ ++ [.lst ts]))) (m : MRel D φ α H μ) (hp : H p = none) (l : DenL D φ α H ts vs) : Q (.ref p) (upd H p (.lst vs)) :=
  q.ok (stp_lay hp) (m.lay hp l) _ ⟨p, by rw [← m.len, List.getElem?_append_right (Nat.le_refl _)]; simp, rfl⟩
theorem se_lay {fs : List De} (hl : es.length ≤ room) (ha : EsOk X D W es fs) : PE X (.List es pos) (rdE D W (eLay fs)) := by
  refine PE.mono (pe_lst (sa_all ha)) ?_
  rintro σ H Q ⟨φ, α, τ, μ, sr, mr, p⟩
  refine ⟨φ, α, τ, μ, sr, mr, p.bind.mono fun ts μ1 α1 H1 st m q vs dl hn => ⟨by rw [hn]; exact room_line hl, fun z hz => q.lay m hz dl⟩⟩
theorem bools_at : ∀ {ts : List T} {bs : List Bool} {vs : List V} {us : List Value}, bools ts = some bs → DenL D φ α H ts vs → Vals vs us → us = bs.map Value.bool
  | [], bs, vs, us, h, l, r => by
    simp [bools] at h; subst h
    have l : vs = [] := l
    subst l; cases r; rfl
  | t :: ts, bs, vs, us, h, l, r => by
    obtain ⟨v, w, rfl, d, l⟩ := l
    cases t with
    | bl b =>
      simp only [bools] at h
      cases q : bools ts with
      | none => rw [q] at h; cases h
      | some cs =>
        rw [q] at h; cases h
        cases r with
        | cons r1 r2 =>
          cases d; cases r1
          rw [bools_at q l r2]; rfl
    | _ => simp [bools] at h
theorem b_all (hh : X.calm = true) : B1 X D W (.builtin "all") allT := by
  intro pins s σ H φ α μ t v u Q I mr d r p
  unfold allT at p
  split at p
  case h_2 => exact p.elim
  rename_i xs
  obtain ⟨bs, hb, p⟩ := p.som
  obtain ⟨ad, vs, rfl, _, _, q, l⟩ := d
  cases r
  obtain ⟨its, rv, pl, hz⟩ := I.list (.inl q)
  have eb := bools_at hb l rv
  have hl := pl.isList
  have hlt : ad < s.heap.objs.size := by obtain ⟨_, e, _⟩ := hl; exact Heap.lt_size e
  refine call_all_walk (wpAny_pyIter_list hl ?_)
  refine ⟨s.heap.objs.size, [s.heap.objs.size, ad], [s.heap.objs.size], its.toArray.size, _, _, fun i => (bs[i]?).getD true, rfl, Walks.list (A := X.A.in1) (I.ok.hd hh) _ ad (Nat.ne_of_lt hlt) its.toArray,
    ⟨⟨_, Heap.get?_push_size _ rfl, rfl, rfl⟩, hl.push _⟩, fun i v s' Q' E' hP hQ => ?_, fun h' tk hk => ?_⟩
  · have hP' : its[i]? = some v := by simpa using hP
    rw [eb, List.getElem?_map] at hP'
    cases e : bs[i]? with
    | none => rw [e] at hP'; cases hP'
    | some b =>
      rw [e] at hP'
      simp at hP'
      subst hP'
      simp only [e, Option.getD_some] at hQ
      exact wpAny_truthy_bool hQ
  · have e : ((List.range its.toArray.size).all fun i => (bs[i]?).getD true) = bs.all id := by
      have hn : its.toArray.size = bs.length := by simp [eb]
      rw [hn]
      rw [Bool.eq_iff_iff]
      simp only [List.all_eq_true, List.mem_range, id_eq]
      constructor
      · intro h b hb'
        obtain ⟨i, hi, rfl⟩ := List.mem_iff_getElem.mp hb'
        have := h i hi
        simpa [hi] using this
      · intro h i hi
        have := h bs[i] (List.getElem_mem hi)
        simpa [hi] using this
    rw [e]
    have kp : ∀ b x, s.heap.get? b = some x → h'.get? b = some x := fun b x e => hk b x (fun hm => by rw [List.mem_singleton.mp hm] at e; exact Nat.lt_irrefl _ (Heap.lt_size e)) (Heap.get?_push_of_some _ e)
    exact ⟨.bl (bs.all id), H, I.kept (t' := tk) kp, rfl, p.here mr rfl⟩
theorem Stp.turn {x : Addr} {o : HO} (hx : x ∈ α) (hh : ∃ o', H x = some o') : Stp α H α (upd H x o) := by
  refine ⟨⟨[], by simp, by simp⟩, fun b u n e => ?_, fun b e => ?_⟩
  · rw [upd_ne (fun (z : b = x) => n (by rw [z]; exact hx))]; exact e
  · by_cases z : b = x
    · rw [z, upd_same] at e; cases e
    · rw [upd_ne z] at e; exact e
theorem MRel.turn {i : Nat} {x : Addr} {o : HO} {mo : MO} (m : MRel D φ α H μ) (hx : α[i]? = some x) (hi : i < μ.length) (st : Stp α H α (upd H x o)) (d : DenO D φ α (upd H x o) mo x) : MRel D φ α (upd H x o) (μ.set i mo) := by
  refine ⟨by simp [m.len], m.nd, m.dis, fun b hb => ?_, fun j y o' e1 e2 => ?_⟩
  · obtain ⟨u, hu⟩ := m.phi b hb
    exact ⟨u, st.keep b u (fun z => m.dis b z hb) hu⟩
  · by_cases q : i = j
    · subst q
      rw [hx] at e1; cases e1
      rw [List.getElem?_set_self hi] at e2; cases e2
      exact d
    · rw [List.getElem?_set_ne q] at e2
      have ne : y ≠ x := fun z => by
        subst z
        obtain ⟨h1, e1'⟩ := List.getElem?_eq_some_iff.mp e1
        obtain ⟨h2, e2'⟩ := List.getElem?_eq_some_iff.mp hx
        exact q ((List.getElem_inj m.nd).mp (e2'.trans e1'.symm))
      exact DenO.step st (upd_ne ne) (m.ob j y o' e1 e2)
theorem app_turn {i : Nat} {x : Addr} {xs : List V} {ts : List T} {v : V} {t : T} (m2 : MRel D φ α H μ) (hx2 : α[i]? = some x) (hμ : μ[i]? = some (.lst ts)) (hH : H x = some (.lst xs)) (l : DenL D φ α H ts xs) (d : Den D φ α H t v) :
    Stp α H α (upd H x (.lst (xs ++ [v]))) ∧ MRel D φ α (upd H x (.lst (xs ++ [v]))) (μ.set i (.lst (ts ++ [t]))) := by
  have st3 : Stp α H α (upd H x (.lst (xs ++ [v]))) := Stp.turn (List.mem_of_getElem? hx2) ⟨_, hH⟩
  have hi : i < μ.length := (List.getElem?_eq_some_iff.mp hμ).1
  exact ⟨st3, m2.turn hx2 hi st3 ⟨_, upd_same, (l.step st3).append ⟨v, [], rfl, d.step st3, rfl⟩⟩⟩
theorem se_app {o : Expr} {pa pc : Pos} {go : De} (hp : plainOb o = true) (hs : noStar a = true) (hline : (pa.endLine == pc.line) = true) (ho : PE X o (rdE D W go)) (ha : PE X a (rdE D W f)) :
    PE X (.Call (.Attribute o "append" pa) [a] [] pc) (rdE D W (eApp go f)) := by
  have hb : starEach [a] X.env = [(false, eval a X.env)] := noStar_of hs
  refine PE.mono (pe_bm PySem.F.plainAttrs_list PySem.F.slot_list_append PySem.F.type_list_append mt_append ho (pa_cons ha pa_nil (noStar_of hs)) (base_of hp) (by rw [hb]; rfl) hline (noStar_of hs) rfl) ?_
  rintro σ H Q ⟨φ, α, τ, μ, sr, mr, p⟩
  refine ⟨φ, α, τ, μ, sr, mr, p.bind.mono fun ot μ1 α1 H1 st1 m1 q ov dv => ?_⟩
  split at q
  case h_2 => exact q.elim
  rename_i i
  obtain ⟨K, Z, ⟨⟨ts0, hμ0⟩, hf⟩, hk, hz⟩ := q
  obtain ⟨x, hx, rfl⟩ := dv
  obtain ⟨xs0, hH0, l0⟩ := m1.ob _ x _ hx hμ0
  refine ⟨.inl ⟨rfl, _, .inl (.inl hH0)⟩, φ, α1, τ, μ1, sr.step st1, m1, _, Z, hf, ?_, hz⟩
  rintro t μ2 ⟨ts, hμ, hl, q2⟩ α2 H2 st2 m2 v d
  obtain ⟨β, e2, _⟩ := st2.ext
  have hx2 : α2[i]? = some x := by
    rw [e2, List.getElem?_append_left (List.getElem?_eq_some_iff.mp hx).1]; exact hx
  obtain ⟨xs, hH, l⟩ := m2.ob i x _ hx2 hμ
  obtain ⟨st3, m3⟩ := app_turn m2 hx2 hμ hH l d
  refine ⟨x, xs, v, rfl, rfl, hH, ?_, ?_⟩
  · rw [← l.length]; exact Nat.lt_of_lt_of_le hl (room_line (Nat.le_refl _))
  · exact hk _ _ q2 α2 _ (st2.trans st3) m3 .non rfl
end
end NH
end
section
set_option linter.all false
set_option maxRecDepth 100000
set_option maxHeartbeats 4000000
namespace NH
open PySem PySem.Spec PyProof.Rows L2
open PySem.Builtin PySem.Builtin.Str PySem.Builtin.Int
section
variable {prog : Program} {w : World} {A : Around} {E : Value → Shared → Prop} {s : Shared} {I l : Addr} {items : Array Value}
end
section
variable {X : Cx} {D : DP} {W : XW} {Γ : Cn} {k : Nat} {pins : List (Addr × Obj)} {s : Shared} {σ : St} {H : Hp} {φ α : List Addr} {τ : Sl} {μ : Mem} {f g h : De} {a b c : Expr} {pos : Pos} {es : List Expr}
end
end NH
end
section
set_option linter.all false
set_option maxRecDepth 100000
set_option maxHeartbeats 4000000
namespace NH
open PySem PySem.Spec PyProof.Rows L2
structure ItV (D : DP) (J : It) (Ok : List Addr → List Addr → Hp → Prop) (xs : List T) : Prop where
  go : ∀ (i : Nat) φ α H, Ok φ α H → i < xs.length → J.go i H
  yld : ∀ (i : Nat) φ α H v H' t, Ok φ α H → xs[i]? = some t → J.yld i H v H' → Same H H' ∧ Den D φ α H' t v
  stop : ∀ φ α H, Ok φ α H → J.stop xs.length H
def OkI (D : DP) (φ α : List Addr) (H : Hp) (xs : List T) (lv : Mem → Prop) (Ok : List Addr → List Addr → Hp → Prop) : Prop := ∀ φ' α' H' μ', Lk φ α H φ' α' H' → MRel D φ' α' H' μ' → lv μ' → Ok φ' α' H'
def rdI (D : DP) (W : XW) (f : Di) : TI := fun σ H R => ∃ φ α τ μ, SRel D φ α H τ σ ∧ MRel D φ α H μ ∧
  Post D W φ α H σ (fun p μ' α' H' => ∀ J Ok, ItV D J Ok p.1 → OkI D φ α' H' p.1 p.2 Ok → p.2 μ' → R J H') (f τ μ).re
theorem Lk.trans {φ φ1 φ2 α α1 α2 : List Addr} {H H1 H2 : Hp} (a : Lk φ α H φ1 α1 H1) (b : Lk φ1 α1 H1 φ2 α2 H2) : Lk φ α H φ2 α2 H2 :=
  ⟨fun x o n1 n2 e => let ⟨m1, m2, e1⟩ := a.ob x o n1 n2 e; b.ob x o m1 m2 e1, fun i x e => b.st i x (a.st i x e)⟩
theorem den_map {D : DP} {φ α : List Addr} {H : Hp} {γ : Type} {f : γ → T} {xs : List γ} {i : Nat} {t : T} (h : (xs.map f)[i]? = some t) : ∃ a, xs[i]? = some a ∧ t = f a := by
  rw [List.getElem?_map] at h
  cases q : xs[i]? with
  | none => rw [q] at h; cases h
  | some a => rw [q] at h; cases h; exact ⟨a, rfl, rfl⟩
section
variable {X : Cx} {D : DP} {W : XW} {Γ : Cn} {k : Nat} {pins : List (Addr × Obj)} {s : Shared} {σ : St} {H : Hp} {φ α : List Addr} {τ : Sl} {μ : Mem} {f g h : De} {a b c tg : Expr} {pos : Pos} {es : List Expr}
theorem itv_list {K : PySem.W.Frag} {ad : Addr} {xs : List T} : ItV D (Itl K ad) (fun φ α H => ∃ vs, Rd H ad (.lst vs) ∧ DenL D φ α H xs vs) xs :=
  ⟨fun i φ α H ⟨vs, ok, l⟩ hi => ⟨vs, vs[i]'(by rw [← l.length]; exact hi), .inl ok, by simp⟩, fun i φ α H v H' t ⟨vs, ok, l⟩ hi y => by
    obtain ⟨rfl, y⟩ := y
    obtain ⟨x, hx, d⟩ := l.get hi
    have e := y vs (.inl ok)
    rw [e] at hx; cases hx; exact ⟨fun _ _ z => z, d⟩, fun φ α H ⟨vs, ok, l⟩ => ⟨vs, .inl ok, by rw [l.length]; exact Nat.le_refl _⟩⟩
theorem itv_tup {K : PySem.W.Frag} {ad : Addr} {xs : List T} : ItV D (Itt K ad) (fun φ α H => ∃ vs, Rd H ad (.tup vs) ∧ DenL D φ α H xs vs) xs :=
  ⟨fun i φ α H ⟨vs, ok, l⟩ hi => ⟨vs, vs[i]'(by rw [← l.length]; exact hi), .inl ok, by simp⟩, fun i φ α H v H' t ⟨vs, ok, l⟩ hi y => by
    obtain ⟨rfl, y⟩ := y
    obtain ⟨x, hx, d⟩ := l.get hi
    have e := y vs (.inl ok)
    rw [e] at hx; cases hx; exact ⟨fun _ _ z => z, d⟩, fun φ α H ⟨vs, ok, l⟩ => ⟨vs, .inl ok, by rw [l.length]; exact Nat.le_refl _⟩⟩
theorem range_get {n i j : Nat} (h : (List.range n)[i]? = some j) : j = i := by
  have := (List.getElem?_eq_some_iff.mp h).2
  simpa using this.symm
def ItC (z : Str) : It := ⟨fun i _ => i < z.cps.toList.length, fun i H x H' => H' = H ∧ ∃ c, z.cps.toList[i]? = some c ∧ x = .str ⟨#[c]⟩, fun i _ => z.cps.toList.length ≤ i⟩
theorem itv_str {z : Str} : ItV D (ItC z) (fun _ _ _ => True) (z.cps.toList.map fun c => T.str ⟨#[c]⟩) :=
  ⟨fun i φ α H _ hi => by (show i < _); simpa using hi, fun i φ α H v H' t _ hi y => by
    obtain ⟨j, hj, rfl⟩ := den_map (D := D) (φ := φ) (α := α) (H := H) hi
    obtain ⟨rfl, c, hc, rfl⟩ := y
    rw [hj] at hc; cases hc; exact ⟨fun _ _ z => z, rfl⟩, fun φ α H _ => by show _ ≤ _; simp⟩
theorem turn_str {P : Program} {w : World} {K : PySem.W.Frag} {tg : Expr} {kd : String} (hk : kd = "str_ascii_iterator" ∨ kd = "str_iterator") (it : Addr) (z : Str) (t0 : Tok) : Turn P w K tg (ItC z) [it] it (fun i h => h.IsStrIter it kd z t0 i) where
  mem := by simp
  obj := fun i h st b hb => by
    have e : b = it := by simpa using hb
    subst e
    obtain ⟨o, e, c, d⟩ := st
    exact ⟨o, e, fun v z => by rw [d] at z; cases z⟩
  keep := fun i h h' st k => let ⟨o, ho, r⟩ := st; ⟨o, k it (by simp) o ho, r⟩
  item := by
    intro X hP hw hK hc i pins s σ H E I hf st hg
    subst hP hw hK
    obtain ⟨f0, f1, f2, f3, f4, f5⟩ := hf it (by simp)
    have hi : i < z.cps.size := by simpa [ItC] using hg
    have hcx : z.cps[i]? = some z.cps[i] := Array.getElem?_eq_getElem hi
    have hcl : z.cps.toList[i]? = some z.cps[i] := by rw [Array.getElem?_toList]; exact hcx
    rcases hk with rfl | rfl
    · refine wpAny_pyNext_ascii_item st hcx fun h' st' sb => ?_
      have I1 : Inv X pins σ H { s with heap := h', toks := s.toks + 1 } := I.turned (fun b o hb e => (sb.2 b hb).trans e) f0 f1 f3 f4 f5
      obtain ⟨o, e, c, d⟩ := id st'
      exact ⟨.str ⟨#[z.cps[i]]⟩ s.toks, rfl, go_of (s := { s with heap := h', toks := s.toks + 1 }) e c d (by decide) ⟨.str ⟨#[z.cps[i]]⟩, H, I1, ⟨_, rfl⟩, ⟨rfl, z.cps[i], hcl, rfl⟩, st', fun b hb => (hf b hb).1⟩⟩
    · refine wpAny_pyNext_wide_item st hcx fun h' st' sb => ?_
      have I1 : Inv X pins σ H { s with heap := h', toks := s.toks + 1 } := I.turned (fun b o hb e => (sb.2 b hb).trans e) f0 f1 f3 f4 f5
      obtain ⟨o, e, c, d⟩ := id st'
      exact ⟨.str ⟨#[z.cps[i]]⟩ s.toks, rfl, go_of (s := { s with heap := h', toks := s.toks + 1 }) e c d (by decide) ⟨.str ⟨#[z.cps[i]]⟩, H, I1, ⟨_, rfl⟩, ⟨rfl, z.cps[i], hcl, rfl⟩, st', fun b hb => (hf b hb).1⟩⟩
  done := by
    intro X hP hw hK hc i pins s σ H E I hf st hg
    subst hP hw hK
    obtain ⟨f0, f1, f2, f3, f4, f5⟩ := hf it (by simp)
    have hx : z.cps[i]? = none := Array.getElem?_eq_none (by have : z.cps.toList.length ≤ i := hg; simpa using this)
    rcases hk with rfl | rfl
    · exact wpAny_pyNext_ascii_end (I.ok.hd hc) st hx fun h' eb => ⟨rfl, I.turned (t' := s.toks) (fun b o hb e => eb b o hb e) f0 f1 f3 f4 f5⟩
    · exact wpAny_pyNext_wide_end (I.ok.hd hc) st hx fun h' eb => ⟨rfl, I.turned (t' := s.toks) (fun b o hb e => eb b o hb e) f0 f1 f3 f4 f5⟩
  self := fun _ _ _ _ _ st h => by
    rcases hk with rfl | rfl
    · exact wpAny_pyIter_striter_ascii st h
    · exact wpAny_pyIter_striter_wide st h
theorem si_expr (ha : PE X a (rdE D W f)) : PI X tg a (rdI D W (iE f)) := by
  rintro pins s σ H R I ⟨φ, α, τ, μ, sr, mr, p⟩
  refine thn (sub ha I sr mr p) ?_
  rintro u s1 ⟨v, H1, t, μ1, α1, I1, r1, st1, sr1, mr1, d1, p1⟩
  cases t with
  | lst ts =>
    obtain ⟨ad, vs, rfl, n1, n2, q, l⟩ := d1
    cases r1
    obtain ⟨its, rv, pl, hz⟩ := I1.list (.inl q)
    refine wpAny_pyIter_list pl.isList ?_
    refine ⟨s1.heap.objs.size, [s1.heap.objs.size], _, _, H1, rfl, I1.kept (t' := s1.toks) fun b o e => Heap.get?_push_of_some _ e, turn_list ad _, ⟨_, Heap.get?_push_size _ rfl, rfl, rfl⟩, fun b hb => ?_, ?_⟩
    · have e : b = s1.heap.objs.size := by simpa using hb
      subst e
      exact I1.fpOk (Nat.le_refl _) (I1.hok.fresh (Nat.le_refl _))
    · have p2 : Post D W φ α1 H1 σ _ (RE.ok (ts, lvT) μ1) := p1
      exact p2.ok (Stp.refl _ _) mr1 _ _ itv_list (fun φ' α' H' μ' lk _ _ => by
        obtain ⟨a', ws, e, _, _, q', l'⟩ := Den.lk lk (show Den D φ α1 H1 (.lst ts) (.ref ad) from ⟨ad, vs, rfl, n1, n2, q, l⟩)
        cases e; exact ⟨ws, q', l'⟩) trivial
  | tup ts =>
    obtain ⟨ad, vs, rfl, n1, n2, q, l⟩ := d1
    cases r1
    obtain ⟨its, rv, pl, hz⟩ := I1.tuple (.inl q)
    refine wpAny_pyIter_tuple (show s1.heap.IsTuple ad its.toArray from pl) ?_
    refine ⟨s1.heap.objs.size, [s1.heap.objs.size], _, _, H1, rfl, I1.kept (t' := s1.toks) fun b o e => Heap.get?_push_of_some _ e, turn_tuple ad _, ⟨_, Heap.get?_push_size _ rfl, rfl, rfl⟩, fun b hb => ?_, ?_⟩
    · have e : b = s1.heap.objs.size := by simpa using hb
      subst e
      exact I1.fpOk (Nat.le_refl _) (I1.hok.fresh (Nat.le_refl _))
    · have p2 : Post D W φ α1 H1 σ _ (RE.ok (ts, lvT) μ1) := p1
      exact p2.ok (Stp.refl _ _) mr1 _ _ itv_tup (fun φ' α' H' μ' lk _ _ => by
        obtain ⟨a', ws, e, _, _, q', l'⟩ := Den.lk lk (show Den D φ α1 H1 (.tup ts) (.ref ad) from ⟨ad, vs, rfl, n1, n2, q, l⟩)
        cases e; exact ⟨ws, q', l'⟩) trivial
  | «mut» j =>
    obtain ⟨ad, hj, rfl⟩ := d1
    cases r1
    have p2 : Post D W φ α1 H1 σ _ (fun K _ => ∃ xs, μ1[j]? = some (.lst xs) ∧ K (xs, lvM j xs) μ1) := p1
    obtain ⟨xs, hx, p2⟩ := p2.ex1
    obtain ⟨vs, q, l⟩ := mr1.ob j ad _ hj hx
    obtain ⟨its, rv, pl, hz⟩ := I1.list (.inl (.inl q))
    refine wpAny_pyIter_list pl.isList ?_
    refine ⟨s1.heap.objs.size, [s1.heap.objs.size], _, _, H1, rfl, I1.kept (t' := s1.toks) fun b o e => Heap.get?_push_of_some _ e, turn_list ad _, ⟨_, Heap.get?_push_size _ rfl, rfl, rfl⟩, fun b hb => ?_, ?_⟩
    · have e : b = s1.heap.objs.size := by simpa using hb
      subst e
      exact I1.fpOk (Nat.le_refl _) (I1.hok.fresh (Nat.le_refl _))
    · have p2 : Post D W φ α1 H1 σ _ (RE.ok (xs, lvM j xs) μ1) := p2
      exact p2.ok (Stp.refl _ _) mr1 _ _ itv_list (fun φ' α' H' μ' lk m hl => by
        obtain ⟨ws, q', l'⟩ := m.ob j ad _ (lk.st j ad hj) hl
        exact ⟨ws, .inl q', l'⟩) hx
  | str z =>
    have d1 : v = .str z := d1
    subst d1
    obtain ⟨t0, rfl⟩ := r1
    have fin : ∀ {kd : String}, (kd = "str_ascii_iterator" ∨ kd = "str_iterator") → PIE X pins σ tg R (.ref s1.heap.objs.size) { s1 with heap := s1.heap.push { cls := .type kd, data := .fields #[.str z t0, .int 0 0] } } := fun {kd} hk => by
      refine ⟨s1.heap.objs.size, [s1.heap.objs.size], _, _, H1, rfl, I1.kept (t' := s1.toks) fun b o e => Heap.get?_push_of_some _ e, turn_str hk _ z t0, ⟨_, Heap.get?_push_size _ rfl, rfl, rfl⟩, fun b hb => ?_, ?_⟩
      · have e : b = s1.heap.objs.size := by simpa using hb
        subst e
        exact I1.fpOk (Nat.le_refl _) (I1.hok.fresh (Nat.le_refl _))
      · have p2 : Post D W φ α1 H1 σ _ (RE.ok (signsT z, lvT) μ1) := p1
        exact p2.ok (Stp.refl _ _) mr1 _ _ itv_str (fun _ _ _ _ _ _ _ => True.intro) trivial
    cases ha : z.cps.all (· < 128) with
    | true => exact wpAny_pyIter_ascii ha (fin (.inl rfl))
    | false => exact wpAny_pyIter_wide ha (fin (.inr rfl))
  | _ => exact Post.elim p1
theorem valsC {x : V} {xs : List V} {us : List Value} (h : Vals (x :: xs) us) : ∃ u r, us = u :: r ∧ RelV x u ∧ Vals xs r := by
  cases h with
  | cons r q => exact ⟨_, _, rfl, r, q⟩
theorem vals3 {x y z : V} {us : List Value} (h : Vals [x, y, z] us) : ∃ u v w, us = [u, v, w] ∧ RelV x u ∧ RelV y v ∧ RelV z w := by
  obtain ⟨u, _, rfl, a, h⟩ := valsC h
  obtain ⟨v, _, rfl, b, h⟩ := valsC h
  obtain ⟨w, _, rfl, c, h⟩ := valsC h
  cases h
  exact ⟨_, _, _, rfl, a, b, c⟩
def ItS (lo c : Int) (n : Nat) : It := ⟨fun i _ => i < n, fun i H x H' => H' = H ∧ x = .int (lo + i * c), fun i _ => n ≤ i⟩
theorem turn_rangeS {P : Program} {w : World} {K : PySem.W.Frag} {tg : Expr} (it : Addr) (lo c : Int) (n : Nat) : Turn P w K tg (ItS lo c n) [it] it (fun i h => IsRangeIter h it (lo + (i : Nat) * c) ((n : Int) - (i : Nat)) c) where
  mem := by simp
  obj := fun i h st b hb => by
    have e : b = it := by simpa using hb
    subst e
    exact ⟨_, st, fun v z => by cases (show Data.fields _ = Data.cell v from z)⟩
  keep := fun i h h' st k => k it (by simp) _ st
  item := by
    intro X hP hw hK hc i pins s σ H E I hf st hg
    subst hP hw hK
    obtain ⟨f0, f1, f2, f3, f4, f5⟩ := hf it (by simp)
    have W := Walks.range (prog := X.prog) (w := X.w) (I.ok.hd hc) it lo c n
    refine W.item i s _ _ hg st fun v h' tk hv st' kk => ?_
    obtain ⟨t, rfl⟩ := hv
    have I1 : Inv X pins σ H { s with heap := h', toks := tk } := I.turned (fun b o hb e => kk b o (by simpa using hb) e) f0 f1 f3 f4 f5
    exact ⟨_, rfl, go_of (s := { s with heap := h', toks := tk }) (n := "range_iterator") st' rfl rfl (by decide) ⟨.int (lo + i * c), H, I1, ⟨t, rfl⟩, ⟨rfl, rfl⟩, st', fun b hb => (hf b hb).1⟩⟩
  done := by
    intro X hP hw hK hc i pins s σ H E I hf st hg
    subst hP hw hK
    obtain ⟨f0, f1, f2, f3, f4, f5⟩ := hf it (by simp)
    exact wpAny_pyNext_range_end (I.ok.hd hc) st (by have : n ≤ i := hg; omega) fun h' eb => ⟨rfl, I.turned (t' := s.toks) (fun b o hb e => eb b o hb e) f0 f1 f3 f4 f5⟩
  self := fun _ _ _ _ _ st h => wpAny_pyIter_rangeiter st h
theorem turn_rangeL {P : Program} {w : World} {K : PySem.W.Frag} {tg : Expr} (it : Addr) (lo c : Int) (n : Nat) : Turn P w K tg (ItS lo c n) [it] it (fun i h => IsLongIter h it (lo + (i : Nat) * c) ((n : Int) - (i : Nat)) c) where
  mem := by simp
  obj := fun i h st b hb => by
    have e : b = it := by simpa using hb
    subst e
    exact ⟨_, st, fun v z => by cases (show Data.fields _ = Data.cell v from z)⟩
  keep := fun i h h' st k => k it (by simp) _ st
  item := by
    intro X hP hw hK hc i pins s σ H E I hf st hg
    subst hP hw hK
    obtain ⟨f0, f1, f2, f3, f4, f5⟩ := hf it (by simp)
    have W := Walks.longrange (prog := X.prog) (w := X.w) (I.ok.hd hc) it lo c n
    refine W.item i s _ _ hg st fun v h' tk hv st' kk => ?_
    obtain ⟨t, rfl⟩ := hv
    have I1 : Inv X pins σ H { s with heap := h', toks := tk } := I.turned (fun b o hb e => kk b o (by simpa using hb) e) f0 f1 f3 f4 f5
    exact ⟨_, rfl, go_of (s := { s with heap := h', toks := tk }) (n := "longrange_iterator") st' rfl rfl (by decide) ⟨.int (lo + i * c), H, I1, ⟨t, rfl⟩, ⟨rfl, rfl⟩, st', fun b hb => (hf b hb).1⟩⟩
  done := by
    intro X hP hw hK hc i pins s σ H E I hf st hg
    subst hP hw hK
    obtain ⟨f0, f1, f2, f3, f4, f5⟩ := hf it (by simp)
    exact wpAny_pyNext_long_end (I.ok.hd hc) st (by have : n ≤ i := hg; omega) fun h' eb => ⟨rfl, I.turned (t' := s.toks) (fun b o hb e => eb b o hb e) f0 f1 f3 f4 f5⟩
  self := fun _ _ _ _ _ st h => wpAny_pyIter_longiter st h
theorem size_is {a b c : Int} (hc : 0 < c) : Builtin.Range.rangeSize a b c = if a < b then (b - a - 1) / c + 1 else 0 := by
  unfold Builtin.Range.rangeSize
  rw [if_pos hc]
theorem range_itS {pins : List (Addr × Obj)} {σ : St} {H : Hp} {s : Shared} {R : It → Hp → Prop} {E : Value → Shared → Prop} {lo hi c : Int} {t u v : Tok} {tk : Nat} (I : Inv X pins σ H s) (h3 : 0 < c)
    (q : R (ItS lo c (if lo < hi then (hi - lo - 1) / c + 1 else 0 : Int).toNat) H) : wpAny (model X.prog X.w) X.A (pyIter (.ref s.heap.objs.size)) (PIE X pins σ tg R) E { s with heap := s.heap.push { cls := .type "range", data := .fields #[.int lo t, .int hi u, .int c v] }, toks := tk } := by
  have I1 : Inv X pins σ H { s with heap := s.heap.push { cls := .type "range", data := .fields #[.int lo t, .int hi u, .int c v] }, toks := tk } := I.kept fun b o e => Heap.get?_push_of_some _ e
  have e1 : lo + ((0 : Nat) : Int) * c = lo := by simp
  have e2 : (((if lo < hi then (hi - lo - 1) / c + 1 else 0 : Int).toNat : Nat) : Int) - ((0 : Nat) : Int) = Builtin.Range.rangeSize lo hi c := by
    rw [size_is h3]
    have : 0 ≤ (if lo < hi then (hi - lo - 1) / c + 1 else 0) := by
      split
      · have h1 : 0 ≤ (hi - lo - 1) / c := Int.ediv_nonneg (by omega) (by omega)
        omega
      · omega
    omega
  have fr : ∀ b ∈ [(s.heap.push { cls := .type "range", data := .fields #[.int lo t, .int hi u, .int c v] }).objs.size], b = (s.heap.push { cls := .type "range", data := .fields #[.int lo t, .int hi u, .int c v] }).objs.size := fun b hb => by simpa using hb
  cases hsm : Builtin.Range.small lo hi c with
  | true =>
    refine wpAny_pyIter_range (IsRange.new ..) hsm ?_
    refine ⟨(s.heap.push { cls := .type "range", data := .fields #[.int lo t, .int hi u, .int c v] }).objs.size, [(s.heap.push { cls := .type "range", data := .fields #[.int lo t, .int hi u, .int c v] }).objs.size], _, _, H, rfl,
      I1.kept (t' := tk) fun b o e => Heap.get?_push_of_some _ e, turn_rangeS _ lo c (if lo < hi then (hi - lo - 1) / c + 1 else 0 : Int).toNat, ?_, fun b hb => ?_, q⟩
    · show IsRangeIter _ _ (lo + ((0 : Nat) : Int) * c) ((((if lo < hi then (hi - lo - 1) / c + 1 else 0 : Int).toNat : Nat) : Int) - ((0 : Nat) : Int)) c
      rw [e1, e2]
      exact Heap.get?_push_size _ rfl
    · rw [fr b hb]
      exact I1.fpOk (Nat.le_refl _) (I1.hok.fresh (Nat.le_refl _))
  | false =>
    refine wpAny_pyIter_longrange (IsRange.new ..) hsm ?_
    refine ⟨(s.heap.push { cls := .type "range", data := .fields #[.int lo t, .int hi u, .int c v] }).objs.size, [(s.heap.push { cls := .type "range", data := .fields #[.int lo t, .int hi u, .int c v] }).objs.size], _, _, H, rfl,
      I1.kept (t' := tk) fun b o e => Heap.get?_push_of_some _ e, turn_rangeL _ lo c (if lo < hi then (hi - lo - 1) / c + 1 else 0 : Int).toNat, ?_, fun b hb => ?_, q⟩
    · show IsLongIter _ _ (lo + ((0 : Nat) : Int) * c) ((((if lo < hi then (hi - lo - 1) / c + 1 else 0 : Int).toNat : Nat) : Int) - ((0 : Nat) : Int)) c
      rw [e1, e2]
      exact Heap.get?_push_size _ rfl
    · rw [fr b hb]
      exact I1.fpOk (Nat.le_refl _) (I1.hok.fresh (Nat.le_refl _))
theorem itv_rangeS {lo c : Int} {n : Nat} : ItV D (ItS lo c n) (fun _ _ _ => True) ((List.range n).map fun (i : Nat) => T.int (lo + i * c)) :=
  ⟨fun i φ α H _ hi => by (show i < n); simpa using hi, fun i φ α H v H' t _ hi y => by
    obtain ⟨j, hj, rfl⟩ := den_map (D := D) (φ := φ) (α := α) (H := H) hi
    rw [range_get hj]
    obtain ⟨rfl, rfl⟩ := y
    exact ⟨fun _ _ z => z, rfl⟩, fun φ α H _ => by show n ≤ _; simp⟩
theorem si_range3 (C : Ck D W Γ X k) {p0 : Pos} (hx : ("range" : Str) ∈ Γ.G) (hg : Γ.gl "range" = .none) (ha' : noStar a = true) (hb' : noStar b = true) (hc' : noStar c = true) (ha : PE X a (rdE D W f)) (hb : PE X b (rdE D W g)) (hc : PE X c (rdE D W h)) :
    PI X tg (.Call (.Name "range" p0) [a, b, c] [] pos) (rdI D W (iRng3 f g h)) := by
  have hm := C.glo _ hx
  rw [hg] at hm
  rintro pins s σ H R I ⟨φ, α, τ, μ, sr, mr, p⟩
  have s3 : starEach [a, b, c] X.env = [(false, eval a X.env), (false, eval b X.env), (false, eval c X.env)] := by
    rw [noStar_of ha', noStar_of hb', noStar_of hc']; rfl
  refine Call_ (ld_blt I (C.glb _ hx) hm boot_range (PyProof.Rows.callWith_type1 (thn (pa_cons ha (pa_cons hb (pa_cons hc pa_nil (noStar_of hc')) (noStar_of hb')) (noStar_of ha') pos pins s σ H (fun vs H1 => ∃ i j l : Int, vs = [.int i, .int j, .int l] ∧ (0 < l ∧ l < 1073741824) ∧ R (ItS i l (if i < j then (j - i - 1) / l + 1 else 0 : Int).toNat) H1) I ?_) ?_) (noStar_of ha') (noStars (by simp [hb', hc']))))
  · refine ⟨φ, α, τ, μ, sr, mr, p.bind.mono fun x μ1 α1 H1 st1 m1 q1 v1 d1 => ⟨φ, α1, τ, μ1, sr.step st1, m1, q1.bind.mono fun y μ2 α2 H2 st2 m2 q2 v2 d2 => ⟨φ, α2, τ, μ2, (sr.step st1).step st2, m2, q2.bind.mono fun z μ3 α3 H3 st3 m3 q3 v3 d3 => ?_⟩⟩⟩
    cases x with
    | int a =>
      cases y with
      | int b =>
        cases z with
        | int c =>
          have q3 : Post D W φ α3 H3 σ _ (RE.grd (inL a ∧ inL b ∧ 0 < c ∧ c < 1073741824) (RE.ok (rangeS a b c, lvT) μ3)) := q3
          obtain ⟨hh, q3⟩ := q3.grd
          have d1 : v1 = .int _ := d1
          have d2 : v2 = .int _ := d2
          have d3 : v3 = .int _ := d3
          subst d1 d2 d3
          exact ⟨_, _, _, rfl, hh.2.2, q3.ok (Stp.refl _ _) m3 _ _ itv_rangeS (fun _ _ _ _ _ _ _ => True.intro) trivial⟩
        | _ => exact Post.elim q3
      | _ => exact Post.elim q3
    | _ => exact Post.elim q3
  · rintro us s1 ⟨vs, H1, I1, rv, i, j, l, rfl, h3, q⟩
    obtain ⟨u1, u2, u3, rfl, r1, r2, r3⟩ := vals3 rv
    obtain ⟨t1, rfl⟩ := r1
    obtain ⟨t2, rfl⟩ := r2
    obtain ⟨t3, rfl⟩ := r3
    exact call_range_3 (by omega) (range_itS I1 h3.1 q) (.inl (PyProof.noPylong_small (by omega)))
theorem si_range2 (C : Ck D W Γ X k) {p0 : Pos} (hx : ("range" : Str) ∈ Γ.G) (hg : Γ.gl "range" = .none) (ha' : noStar a = true) (hb' : noStar b = true) (ha : PE X a (rdE D W f)) (hb : PE X b (rdE D W g)) :
    PI X tg (.Call (.Name "range" p0) [a, b] [] pos) (rdI D W (iRng2 f g)) := by
  have hm := C.glo _ hx
  rw [hg] at hm
  rintro pins s σ H R I ⟨φ, α, τ, μ, sr, mr, p⟩
  refine Call_ (ld_blt I (C.glb _ hx) hm boot_range (PyProof.Rows.callWith_type1 (thn (pa_cons ha (pa_cons hb pa_nil (noStar_of hb')) (noStar_of ha') pos pins s σ H (fun vs H1 => ∃ i j : Int, vs = [.int i, .int j] ∧ R (ItS i 1 (if i < j then (j - i - 1) / 1 + 1 else 0 : Int).toNat) H1) I ?_) ?_) (by rw [noStar_of ha', noStar_of hb']) (by rw [noStar_of hb']; rfl)))
  · refine ⟨φ, α, τ, μ, sr, mr, p.bind.mono fun x μ1 α1 H1 st1 m1 q1 v1 d1 => ⟨φ, α1, τ, μ1, sr.step st1, m1, q1.bind.mono fun y μ2 α2 H2 st2 m2 q2 v2 d2 => ?_⟩⟩
    cases x with
    | int i =>
      cases y with
      | int j =>
        have q2 : Post D W φ α2 H2 σ _ (RE.grd (inL i ∧ inL j) (RE.ok (rangeS i j 1, lvT) μ2)) := q2
        obtain ⟨hh, q2⟩ := q2.grd
        have d1 : v1 = .int _ := d1
        have d2 : v2 = .int _ := d2
        subst d1 d2
        exact ⟨_, _, rfl, q2.ok (Stp.refl _ _) m2 _ _ itv_rangeS (fun _ _ _ _ _ _ _ => True.intro) trivial⟩
      | _ => exact Post.elim q2
    | _ => exact Post.elim q2
  · rintro us s1 ⟨vs, H1, I1, rv, i, j, rfl, q⟩
    cases rv with
    | cons r rr =>
      cases rr with
      | cons r' rr =>
        cases rr
        obtain ⟨t, rfl⟩ := r
        obtain ⟨t', rfl⟩ := r'
        exact call_range_2 (range_itS I1 (by omega) q)
theorem si_range (C : Ck D W Γ X k) {p0 : Pos} (hx : ("range" : Str) ∈ Γ.G) (hg : Γ.gl "range" = .none) (hs : noStar a = true) (ha : PE X a (rdE D W f)) :
    PI X tg (.Call (.Name "range" p0) [a] [] pos) (rdI D W (iRng f)) := by
  have hm := C.glo _ hx
  rw [hg] at hm
  rintro pins s σ H R I ⟨φ, α, τ, μ, sr, mr, p⟩
  refine Call_ (ld_blt I (C.glb _ hx) hm boot_range (PyProof.Rows.callWith_type1 (thn (pa_cons ha pa_nil (noStar_of hs) pos pins s σ H (fun vs H1 => ∃ j : Int, vs = [.int j] ∧ R (ItS 0 1 (if 0 < j then (j - 0 - 1) / 1 + 1 else 0 : Int).toNat) H1) I ?_) ?_) (noStar_of hs) rfl))
  · refine ⟨φ, α, τ, μ, sr, mr, p.bind.mono fun t μ' α' H' st m q v d => ?_⟩
    cases t with
    | int n =>
      have d : v = .int _ := d
      subst d
      have q : Post D W φ α' H' σ _ (RE.grd (inL n) (RE.ok (rangeT n, lvT) μ')) := q
      obtain ⟨hn, q⟩ := q.grd
      have e2 : (if 0 < n then (n - 0 - 1) / 1 + 1 else 0 : Int).toNat = n.toNat := by
        split
        · rw [Int.ediv_one]; congr 1; omega
        · omega
      have e3 : ((List.range n.toNat).map fun (i : Nat) => T.int (0 + i * 1)) = rangeT n := by
        unfold rangeT
        refine List.map_congr_left fun i _ => ?_
        simp
      refine ⟨n, rfl, ?_⟩
      rw [e2]
      exact q.ok (Stp.refl _ _) m _ _ (e3 ▸ itv_rangeS) (fun _ _ _ _ _ _ _ => True.intro) trivial
    | _ => exact Post.elim q
  · rintro us s1 ⟨vs, H1, I1, rv, j, rfl, q⟩
    cases rv with
    | cons r rr =>
      cases rr
      obtain ⟨t, rfl⟩ := r
      exact call_range_1 (range_itS I1 (by omega) q)
def idxs (N : List Str) : List Expr → Option (List Nat)
  | [] => some []
  | .Name x _ :: r => match idx N x, idxs N r with
    | some i, some is => some (i :: is)
    | _, _ => none
  | _ :: _ => none
def tgOf (N : List Str) : Expr → Option Tg
  | .Name x _ => (idx N x).map Tg.one
  | .Tuple es _ _ => (idxs N es).map Tg.tup
  | _ => none
def tgNames : Expr → List Str
  | .Name x _ => [x]
  | .Tuple es _ _ => es.filterMap fun e => match e with | .Name x _ => some x | _ => none
  | _ => []
def Sto (X : Cx) (S : List Str) : Prop := ∀ x ∈ S, Loc X.env.scope x ∧ (X.fn x = true ∨ X.env.scope.names.lookup x = some .local)
theorem asgs_ok {S N : List Str} (hN : X.N = N) (nd : N.Nodup) (hS : Sto X S) : ∀ {es : List Expr} {is : List Nat} {ts : List T} {τ τ' : Sl}, (∀ e ∈ es, ∀ x p, e = .Name x p → x ∈ S) → idxs N es = some is → asgs is ts τ = some τ' →
    ∃ t, PGs X es t ∧ (assignEach es X.env).length = ts.length ∧ (assignEach es X.env).findIdx? (·.1) = none ∧ ∀ {σ : St} {vs : List V} {φ α H} {Q : St → Hp → Prop}, SRel D φ α H τ σ → DenL D φ α H ts vs → (∀ σ', SRel D φ α H τ' σ' → Q σ' H) → t vs σ H Q
  | [], is, ts, τ, τ', _, h0, h => by
    simp [idxs] at h0; subst h0
    cases ts with
    | nil =>
      simp [asgs] at h; subst h
      exact ⟨gNil, pgs_nil, rfl, rfl, fun sr l q => ⟨l, q _ sr⟩⟩
    | cons _ _ => simp [asgs] at h
  | e :: es, is, ts, τ, τ', hn, h0, h => by
    cases e with
    | Name x p0 =>
      simp only [idxs] at h0
      split at h0
      · rename_i i is' hi his
        cases h0
        cases ts with
        | nil => simp [asgs] at h
        | cons t ts =>
          have h : asgs is' ts (setS τ i (some t)) = some τ' := h
          have hx := hn _ List.mem_cons_self x p0 rfl
          have pg : PG X (.Name x p0) (gName i) := pg_name (hN ▸ nd) (by rw [hN]; exact idx_get hi) (hS x hx).1 (hS x hx).2
          obtain ⟨u, pgs, hl, hf, hu⟩ := asgs_ok hN nd hS (fun e he => hn e (List.mem_cons_of_mem _ he)) his h
          refine ⟨gCons (gName i) u, pgs_cons pg pgs rfl, by simpa [assignEach] using hl, ?_, fun {σ vs φ α H Q} sr l k => ?_⟩
          · have e1 : assignEach (.Name x p0 :: es) X.env = (false, assign (.Name x p0) X.env) :: assignEach es X.env := rfl
            rw [e1, List.findIdx?_cons]
            simp [hf]
          · obtain ⟨v, r, rfl, d, l⟩ := l
            exact ⟨v, r, rfl, hu (sr.set d) l k⟩
      · cases h0
    | _ => simp [idxs] at h0
theorem asg_ok {S N : List Str} (hN : X.N = N) (nd : N.Nodup) (hS : Sto X S) (hc : X.calm = true) {e : Expr} {tgt : Tg} {t : T} {τ τ' : Sl} (hn : ∀ x ∈ tgNames e, x ∈ S) (h0 : tgOf N e = some tgt) (h : asg tgt t τ = some τ') {v : V} {u : Value} (I : Inv X pins σ H s) (sr : SRel D φ α H τ σ) (d : Den D φ α H t v) (r : RelV v u) :
    wpAny (model X.prog X.w) X.A (assign e X.env u) (fun _ s' => ∃ σ', Inv X pins σ' H s' ∧ SRel D φ α H τ' σ') X.xe s := by
  cases e with
  | Name x p0 =>
    simp only [tgOf] at h0
    cases q : idx N x with
    | none => rw [q] at h0; cases h0
    | some i =>
      rw [q] at h0; cases h0
      cases (Option.some.inj h : setS τ i (some t) = τ')
      have hx : x ∈ S := hn x (by simp [tgNames])
      refine thn (pg_name (i := i) (hN ▸ nd) (by rw [hN]; exact idx_get q) (hS x hx).1 (hS x hx).2 pins s σ H v u (fun σ' H' => H' = H ∧ σ' = σ.set i (some v)) I r ⟨rfl, rfl⟩) ?_
      rintro _ s1 ⟨σ', H', I1, rfl, rfl⟩
      exact ⟨_, I1, sr.set d⟩
  | Tuple es kk p0 =>
    simp only [tgOf] at h0
    cases q : idxs N es with
    | none => rw [q] at h0; cases h0
    | some is =>
      rw [q] at h0; cases h0
      cases t with
      | tup ts =>
        obtain ⟨g, pgs, hl, hf, hu⟩ := asgs_ok (D := D) hN nd hS (fun e he x p hx => hn x (by subst hx; exact List.mem_filterMap.mpr ⟨_, he, rfl⟩)) q h
        obtain ⟨ad, xs, rfl, _, _, q, l⟩ := d
        refine thn (pg_tup (k := kk) (pos := p0) hc pgs hl hf pins s σ H (.ref ad) u (fun σ' H' => H' = H ∧ SRel D φ α H τ' σ') I r ⟨ad, xs, rfl, .inl q, l.length.symm, hu sr l fun σ' sr' => ⟨rfl, sr'⟩⟩) ?_
        rintro _ s1 ⟨σ', H', I1, rfl, sr'⟩
        exact ⟨σ', I1, sr'⟩
      | _ => cases h
  | _ => simp [tgOf] at h0
end
end NH
end
section
set_option linter.all false
set_option maxRecDepth 100000
set_option maxHeartbeats 4000000
namespace NH
open PySem PySem.Spec PyProof.Rows L2
theorem clos_go (env : Env) : ∀ (names : List (Str × NameKind)) (cs : List (Str × Addr)), (∀ p ∈ names, p.2 = .free → ∃ c, env.cells.lookup p.1 = some c) →
    ∃ cl, (forIn names cs (fun (x : Str × NameKind) r => if (x.2 == .free) = true then do let a ← cellOf env x.1; pure (ForInStep.yield ((x.1, a) :: r)) else pure (ForInStep.yield r)) : Sem (List (Str × Addr))) = pure cl ∧
      (∀ x c, cl.lookup x = some c → cs.lookup x = some c ∨ (env.cells.lookup x = some c ∧ ∃ p ∈ names, p.1 = x ∧ p.2 = .free)) ∧ (∀ x c, cs.lookup x = some c → ∃ c', cl.lookup x = some c') ∧ ∀ p ∈ names, p.2 = .free → ∃ c, cl.lookup p.1 = some c := by
  intro names
  induction names with
  | nil => intro cs _; exact ⟨cs, rfl, fun x c h => .inl h, fun x c h => ⟨c, h⟩, fun p hp => absurd hp (by simp)⟩
  | cons p names ih =>
    intro cs h
    rw [List.forIn_cons]
    by_cases hp : p.2 = .free
    · obtain ⟨c, hc⟩ := h p List.mem_cons_self hp
      have e : cellOf env p.1 = pure c := by unfold cellOf; rw [hc]
      rw [if_pos (by simp [hp]), e]
      obtain ⟨cl, e1, e2, e3, e4⟩ := ih ((p.1, c) :: cs) fun q hq => h q (List.mem_cons_of_mem _ hq)
      refine ⟨cl, e1, fun x c' hx => ?_, fun x c' hx => ?_, fun q hq hf => ?_⟩
      · rcases e2 x c' hx with z | ⟨z, q, hq, z1, z2⟩
        · rw [List.lookup_cons] at z
          cases hb : x == p.1 with
          | true =>
            simp [hb] at z
            subst z
            have hb' : x = p.1 := by simpa using hb
            exact .inr ⟨by rw [hb']; exact hc, p, List.mem_cons_self, hb'.symm, hp⟩
          | false => simp [hb] at z; exact .inl z
        · exact .inr ⟨z, q, List.mem_cons_of_mem _ hq, z1, z2⟩
      · cases hb : x == p.1 with
        | true => exact e3 x c (by simp [List.lookup_cons, hb])
        | false => exact e3 x c' (by simp [List.lookup_cons, hb, hx])
      · rcases List.mem_cons.mp hq with rfl | hq
        · exact e3 _ c (by simp [List.lookup_cons])
        · exact e4 q hq hf
    · rw [if_neg (by simp [hp])]
      obtain ⟨cl, e1, e2, e3, e4⟩ := ih cs fun q hq => h q (List.mem_cons_of_mem _ hq)
      refine ⟨cl, e1, fun x c' hx => ?_, e3, fun q hq hf => ?_⟩
      · rcases e2 x c' hx with z | ⟨z, q, hq, z1, z2⟩
        · exact .inl z
        · exact .inr ⟨z, q, List.mem_cons_of_mem _ hq, z1, z2⟩
      · rcases List.mem_cons.mp hq with rfl | hq
        · exact absurd hf hp
        · exact e4 q hq hf
def globs (sc : Scope) : List Str := (sc.names.filter fun p => p.2 == .globalImplicit).map (·.1)
def frees (sc : Scope) : List Str := (sc.names.filter fun p => p.2 == .free).map (·.1)
theorem mem_frees {sc : Scope} {x : Str} : x ∈ frees sc ↔ ∃ p ∈ sc.names, p.1 = x ∧ p.2 = .free := by
  unfold frees
  simp only [List.mem_map, List.mem_filter, beq_iff_eq]
  constructor
  · rintro ⟨p, ⟨h1, h2⟩, h3⟩; exact ⟨p, h1, h3, h2⟩
  · rintro ⟨p, h1, h3, h2⟩; exact ⟨p, ⟨h1, h2⟩, h3⟩
theorem closure_of {sc : Scope} {env : Env} (h : ∀ x ∈ frees sc, ∃ c, env.cells.lookup x = some c) :
    ∃ cl, closureFor sc env = pure cl ∧ (∀ x c, cl.lookup x = some c → env.cells.lookup x = some c ∧ x ∈ frees sc) ∧ ∀ x ∈ frees sc, ∃ c, cl.lookup x = some c := by
  obtain ⟨cl, e1, e2, e3, e4⟩ := clos_go env sc.names [] fun p hp hf => h p.1 (mem_frees.mpr ⟨p, hp, rfl, hf⟩)
  refine ⟨cl, ?_, fun x c hx => ?_, fun x hx => ?_⟩
  · rw [← e1]
    unfold closureFor
    simp
  · rcases e2 x c hx with z | ⟨z, p, hp, z1, z2⟩
    · simp at z
    · exact ⟨z, mem_frees.mpr ⟨p, hp, z1, z2⟩⟩
  · obtain ⟨p, hp, rfl, hf⟩ := mem_frees.mp hx
    exact e4 p hp hf
section
variable {M : Model} {A : Around} {E : Value → Shared → Prop} {s : Shared} {env : Env}
def BlkPost (M : Model) (A : Around) (E : Value → Shared → Prop) (use : Option (Value → Sem Unit)) (Q : Value → Shared → Prop) (acc : Value) (ce : Env) : Result → Shared → Prop
  | .ok _, t => (match use with
    | none => ∃ m, t.heap.Ns ce.locals m ∧ ∀ g, Heap.SameBut ce.locals t.heap g → Q acc { t with heap := g }
    | some u => wpAny M A (u acc) (fun _ t2 => ∃ m, t2.heap.Ns ce.locals m ∧ ∀ g, Heap.SameBut ce.locals t2.heap g → Q .none { t2 with heap := g }) E t)
  | .error x, t => ∃ m, t.heap.Ns ce.locals m ∧ ∀ g, Heap.SameBut ce.locals t.heap g → wpAny M A (passOn "comprehension.variables-let-go" x ce : Sem Value) (fun _ _ => False) E { t with heap := g }
theorem blk_run {e : Expr} {sc : Scope} {pos : Pos} {mk fst : Sem Value} {g : Comprehension} {gs : List Comprehension} {cl : List (Str × Addr)} {use : Option (Value → Sem Unit)} {Q : Value → Shared → Prop}
    (h1 : clausesOf e = g :: gs) (h2 : ∀ x, foldedSetIterable g.iter env x = pure x) (h3 : closureFor sc env = pure cl) (h4 : sc.kind = .function) (h5 : ∀ x ∈ sc.names, x.2 = .local → sc.names.lookup x.1 = some .local)
    (h : wpAny M A fst (fun x t1 => wpAny M A (pyIter x) (fun it t2 => wpAny M A mk (fun acc t3 => wpAny M A (newFunctionEnv sc env.globals cl [] env.qual none .none (some env)) (fun ce t4 =>
        codeAny M A (.compStart e 0 it acc { ce with scope := relabel sc env }) (BlkPost M A E use Q acc { ce with scope := relabel sc env }) t4) E t3) E t2) E t1) E s) :
    wpAny M A (comprehension e sc env pos mk false fst use) Q E s := by
  unfold comprehension
  rw [h3, h1]
  have id2 : ∀ (x : Value) (t : Shared), E x t → E x t := fun _ _ z => z
  refine wpAny_bind (wpAny_mono h (fun x t1 q1 => ?_) id2)
  refine wpAny_bind (wpAny_standAt (wpAny_bind (wpAny_of_eq (h2 x) (wpAny_bind (wpAny_holding (wpAny_mono q1 (fun it t2 q2 => ?_) id2))))))
  refine wpAny_standIf (wpAny_bind (wpAny_mono q2 (fun acc t3 q3 => ?_) id2))
  refine wpAny_bind (wpAny_pure (wpAny_bind (wpAny_mono q3 (fun ce t4 q4 => ?_) id2)))
  dsimp only
  have lc : ∀ y ∈ (sc.names.filter fun x => (x.2 == .local || x.2 == .cell) && x.1 != (".0" : Str)), y.2 = .local → Env.kindOf { ce with scope := relabel sc env } y.1 = some .local :=
    fun y hy hl => lookup_relabel_local (h5 y (List.mem_filter.mp hy).1 hl)
  have lr : ∀ y ∈ (sc.names.filter fun x => (x.2 == .local || x.2 == .cell) && x.1 != (".0" : Str)).reverse, y.2 = .local → Env.kindOf { ce with scope := relabel sc env } y.1 = some .local :=
    fun y hy => lc y (List.mem_reverse.mp hy)
  refine wpAny_holding (wpAny_bind (wpAny_attempt (wpAny_holding (wpAny_run (codeAny_mono q4 fun r t5 q5 => ?_)))))
  cases r with
  | error x =>
    obtain ⟨m, hn, q6⟩ := q5
    refine wpAny_bind (wpAny_holding (wpAny_comp_letGo (cenv := { ce with scope := relabel sc env }) h4 _ t5 m lr hn fun g m' _ sb => ?_))
    exact wpAny_mono (q6 g sb) (fun _ _ z => z.elim) id2
  | ok f =>
    cases use with
    | none =>
      obtain ⟨m, hn, q6⟩ := q5
      exact wpAny_bind (wpAny_holding (wpAny_comp_letGo (cenv := { ce with scope := relabel sc env }) h4 _ t5 m lr hn fun g m' _ sb => wpAny_pure (q6 g sb)))
    | some u =>
      refine wpAny_bind (wpAny_rule (wpAny_bind (wpAny_holding (wpAny_mono q5 (fun _ t6 q6 => ?_) id2))))
      obtain ⟨m, hn, q6⟩ := q6
      refine wpAny_bind (wpAny_comp_letGo (cenv := { ce with scope := relabel sc env }) h4 _ t6 m (fun y hy => ?_) hn fun g m' _ sb => wpAny_pure (q6 g sb))
      rcases List.mem_append.mp hy with z | z
      · exact lr y (List.mem_of_mem_drop z)
      · exact lr y (List.mem_of_mem_take z)
end
section
variable {prog : Program} {w : World} {A : Around} {R : Result → Shared → Prop} {s : Shared}
theorem turn_eqO (elt target iter : Expr) (ifs : List Expr) (scope : Scope) (pos : Pos) (it acc : Value) (env : Env) :
    compTurn (.ListComp elt [⟨target, iter, ifs, 0⟩] scope pos) 0 it acc env = (standAt iter.pos >>= fun _ => pyNext it >>= fun r => match r with
      | none => pure (.done .next)
      | some v => letOwnedTupleGo target it v >>= fun _ => assign target env v >>= fun _ =>
        (forIn ifs true fun c s => if s = true then isTrue c env (eval c env) >>= fun ok => pure (ForInStep.yield ok) else pure (ForInStep.yield s)) >>= fun ok =>
          if ok = true then (eval elt env >>= fun x => call (.builtin "list.append") [acc, x] >>= fun _ => pure ()) >>= fun _ =>
            again (.compLoop (.ListComp elt [⟨target, iter, ifs, 0⟩] scope pos) 0 it acc env)
          else again (.compLoop (.ListComp elt [⟨target, iter, ifs, 0⟩] scope pos) 0 it acc env)) := by rfl
def testsW (M : Model) (A : Around) (env : Env) (E : Value → Shared → Prop) : List Expr → (Bool → Shared → Prop) → Shared → Prop
  | [], Q, s => Q true s
  | c :: cs, Q, s => wpAny M A (isTrue c env (eval c env)) (fun b s1 => if b = true then testsW M A env E cs Q s1 else Q false s1) E s
theorem tests_off {M : Model} {env : Env} {E : Value → Shared → Prop} {Q : Bool → Shared → Prop} : ∀ (cs : List Expr) {s : Shared}, Q false s →
    wpAny M A (forIn cs false fun c s => if s = true then isTrue c env (eval c env) >>= fun ok => pure (ForInStep.yield ok) else pure (ForInStep.yield s)) Q E s
  | [], s, h => wpAny_pure h
  | c :: cs, s, h => by
    rw [List.forIn_cons]
    refine wpAny_bind ?_
    rw [if_neg (by decide)]
    exact wpAny_pure (tests_off cs h)
theorem tests_on {M : Model} {env : Env} {E : Value → Shared → Prop} {Q : Bool → Shared → Prop} : ∀ (cs : List Expr) {s : Shared}, testsW M A env E cs Q s →
    wpAny M A (forIn cs true fun c s => if s = true then isTrue c env (eval c env) >>= fun ok => pure (ForInStep.yield ok) else pure (ForInStep.yield s)) Q E s
  | [], s, h => wpAny_pure h
  | c :: cs, s, h => by
    rw [List.forIn_cons]
    refine wpAny_bind ?_
    rw [if_pos rfl]
    refine wpAny_bind (thn h fun b s1 h1 => wpAny_pure ?_)
    cases b with
    | true => rw [if_pos rfl] at h1; exact tests_on cs h1
    | false => rw [if_neg (by decide)] at h1; exact tests_off cs h1
theorem comp_loop {elt target iter : Expr} {ifs : List Expr} {scope : Scope} {pos : Pos} {it acc : Value} {env : Env} (I : Nat → Shared → Prop)
    (turn : ∀ n s, I n s → wpAny (model prog w) A (pyNext it) (fun r s₁ => match r with
      | none => R (.ok .next) s₁
      | some v => wpAny (model prog w) A (letOwnedTupleGo target it v) (fun _ s₂ => wpAny (model prog w) A (assign target env v) (fun _ s₃ => testsW (model prog w) A env (notedBy (model prog w) A env fun x s' => R (.error x) s') ifs (fun b s₄ =>
          if b = true then wpAny (model prog w) A (eval elt env) (fun x s₅ => wpAny (model prog w) A (call (.builtin "list.append") [acc, x]) (fun _ s₆ => ∃ m, m < n ∧ I m s₆) (fun _ _ => False) s₅) (notedBy (model prog w) A env fun x s' => R (.error x) s') s₄ else ∃ m, m < n ∧ I m s₄) s₃) (fun _ _ => False) s₂) (fun _ _ => False) s₁) (fun _ _ => False) s)
    (n : Nat) (h : I n s) : codeAny (model prog w) A (.compLoop (.ListComp elt [⟨target, iter, ifs, 0⟩] scope pos) 0 it acc env) R s := by
  refine codeAny_loop rfl I (fun n s hI => ?_) n h
  show wpAny _ _ ((compTurn (.ListComp elt [⟨target, iter, ifs, 0⟩] scope pos) 0 it acc env).onRaise (fun x => do noteFrame x env; theTreesLotGoes x)) _ _ s
  refine wpAny_noted ?_
  rw [turn_eqO]
  have nx : ∀ {α : Type} {t : Sem α} {Q : α → Shared → Prop} {s : Shared} {N : Value → Shared → Prop}, wpAny (model prog w) A t Q (fun _ _ => False) s → wpAny (model prog w) A t Q N s := fun h => wpAny_mono h (fun _ _ q => q) fun _ _ z => z.elim
  refine wpAny_bind (wpAny_standAt (wpAny_bind (nx (thn (turn n s hI) fun r s₁ h₁ => ?_))))
  cases r with
  | none => exact wpAny_pure h₁
  | some v =>
    refine wpAny_bind (nx (thn h₁ fun _ s₂ h₂ => ?_))
    refine wpAny_bind (nx (thn h₂ fun _ s₃ h₃ => ?_))
    refine wpAny_bind (thn (tests_on ifs h₃) fun b s₄ h₄ => ?_)
    cases b with
    | true =>
      rw [if_pos rfl] at h₄ ⊢
      exact wpAny_bind (wpAny_bind (thn h₄ fun x s₅ h₅ => wpAny_bind (nx (thn h₅ fun _ s₆ h₆ => wpAny_pure (wpAny_pure ⟨rfl, h₆⟩)))))
    | false =>
      rw [if_neg (by decide)] at h₄ ⊢
      exact wpAny_pure ⟨rfl, h₄⟩
end
def cxC (X : Cx) (N : List Str) (sc : Scope) (cl : List (Str × Addr)) (C0 : Addr) (s3 : Shared) (H3 : Hp) (fp : List Addr) : Cx :=
  { X with N := N, s₀ := s3, H₀ := H3, env := compEnvC sc cl C0 X.env, outer := X.stack, ex := fp, fn := fun _ => false, pn := [], xe := fun _ _ => False }
def compOk (N cel : List Str) (tg : Expr) (sc : Scope) : Bool :=
  (sc.kind == .function) && sc.names.all (fun p => p.2 != .cell) && sc.names.all (fun p => p.2 != .local || sc.names.lookup p.1 == some .local) &&
  (tgNames tg).all (fun x => sc.names.lookup x == some .local && x != ("__debug__" : Str) && x != ("__classdict__" : Str)) && (frees sc).all (fun x => (idx N x).isSome && sc.names.lookup x == some .free && cel.contains x && x != ("__debug__" : Str) && x != ("__classdict__" : Str)) && decide ((tgNames tg ++ frees sc).Nodup) &&
  (globs sc).all (fun x => sc.names.lookup x == some .globalImplicit)
structure CompOk (N cel : List Str) (tg : Expr) (sc : Scope) : Prop where
  kind : sc.kind = .function
  noc : ∀ p ∈ sc.names, p.2 ≠ .cell
  lcl : ∀ p ∈ sc.names, p.2 = .local → sc.names.lookup p.1 = some .local
  own : ∀ x ∈ tgNames tg, sc.names.lookup x = some .local ∧ (x == ("__debug__" : Str)) = false ∧ (x == ("__classdict__" : Str)) = false
  fre : ∀ x ∈ frees sc, (∃ i, idx N x = some i) ∧ sc.names.lookup x = some .free ∧ x ∈ cel ∧ (x == ("__debug__" : Str)) = false ∧ (x == ("__classdict__" : Str)) = false
  nd : (tgNames tg ++ frees sc).Nodup
  glb : ∀ x ∈ globs sc, sc.names.lookup x = some .globalImplicit
theorem compOk_of {N cel : List Str} {tg : Expr} {sc : Scope} (h : compOk N cel tg sc = true) : CompOk N cel tg sc := by
  unfold compOk at h
  simp only [Bool.and_eq_true, List.all_eq_true, beq_iff_eq, bne_iff_ne, Bool.or_eq_true, decide_eq_true_eq, List.contains_iff_mem, Option.isSome_iff_exists, ne_eq] at h
  obtain ⟨⟨⟨⟨⟨⟨h1, h2⟩, h3⟩, h4⟩, h5⟩, h6⟩, h7⟩ := h
  refine ⟨h1, h2, fun p hp hl => ?_, fun x hx => ?_, fun x hx => ?_, h6, h7⟩
  · rcases h3 p hp with z | z
    · exact absurd hl z
    · exact z
  · obtain ⟨⟨a, b⟩, c⟩ := h4 x hx
    exact ⟨a, by simpa using b, by simpa using c⟩
  · obtain ⟨⟨⟨⟨a, b⟩, c⟩, d⟩, e⟩ := h5 x hx
    exact ⟨a, b, c, by simpa using d, by simpa using e⟩
theorem lookup_relabel {env : Env} {x : Str} : ∀ {names : List (Str × NameKind)} {kd : NameKind}, names.lookup x = some kd →
    (names.map fun (n, k) => if (k == NameKind.free && env.scope.kind == .function && env.kindOf n == some .cell) then (n, NameKind.cell) else (n, k)).lookup x = some (if (kd == NameKind.free && env.scope.kind == .function && env.kindOf x == some .cell) then .cell else kd)
  | [], _, h => by simp at h
  | (n, k) :: r, kd, h => by
    have ih := @lookup_relabel env x r kd
    rw [List.map_cons]
    rw [List.lookup_cons] at h
    cases hx : x == n with
    | true =>
      have hx' : x = n := by simpa using hx
      subst hx'
      simp at h
      subst h
      dsimp only
      split <;> simp_all [List.lookup_cons]
    | false =>
      simp only [hx] at h
      dsimp only
      split
      · rw [List.lookup_cons]; simp only [hx]; exact ih h
      · rw [List.lookup_cons]; simp only [hx]; exact ih h
end NH
end
section
set_option linter.all false
set_option maxRecDepth 100000
set_option maxHeartbeats 4000000
namespace NH
open PySem PySem.Spec PyProof.Rows L2
section
variable {X : Cx} {D : DP} {W : XW} {Γ : Cn} {k : Nat} {pins : List (Addr × Obj)} {s2 : Shared} {σ : St} {H2 : Hp} {φ α : List Addr} {τ : Sl} {μ : Mem} {tg : Expr} {sc : Scope} {cl : List (Str × Addr)} {fp : List Addr}
def selV (N : List Str) (σ : St) (fs : List Str) : St := fs.map fun x => (idx N x).bind fun i => (σ[i]?).join
def idxF (N : List Str) : List Str → Option (List Nat)
  | [] => some []
  | x :: r => match idx N x, idxF N r with
    | some i, some is => some (i :: is)
    | _, _ => none
theorem blk_eq : ∀ (n : Nat) {fs : List Nat} {τ : Sl}, blk n fs τ = List.replicate n none ++ selS fs τ
  | 0, _, _ => rfl
  | n + 1, fs, τ => by
    show none :: blk n fs τ = _
    rw [blk_eq n]; rfl
theorem selS_len : ∀ {fs : List Nat} {τ : Sl}, (selS fs τ).length = fs.length
  | [], _ => rfl
  | i :: r, τ => by show (selS r τ).length + 1 = _; rw [selS_len]; rfl
theorem idxF_len : ∀ {N xs : List Str} {fs : List Nat}, idxF N xs = some fs → fs.length = xs.length
  | N, [], fs, h => by cases h; rfl
  | N, x :: r, fs, h => by
    simp only [idxF] at h
    split at h
    · rename_i i is h1 h2
      cases h
      simp [idxF_len h2]
    · cases h
theorem selV_den {N : List Str} {H : Hp} (sr : SRel D φ α H τ σ) : ∀ {xs : List Str} {fs : List Nat}, idxF N xs = some fs → ∀ (j : Nat) (t : T), (selS fs τ)[j]? = some (some t) → ∃ v, (selV N σ xs)[j]? = some (some v) ∧ Den D φ α H t v
  | [], fs, h, j, t, e => by cases h; simp [selS] at e
  | x :: r, fs, h, j, t, e => by
    simp only [idxF] at h
    split at h
    · rename_i i is h1 h2
      cases h
      cases j with
      | zero =>
        have e : some (getS τ i) = some (some t) := e
        obtain ⟨v, hv, d⟩ := sr.get (Option.some.inj e)
        exact ⟨v, by simp [selV, h1, hv], d⟩
      | succ j =>
        have e : (selS is τ)[j]? = some (some t) := e
        obtain ⟨v, hv, d⟩ := selV_den sr h2 j t e
        exact ⟨v, by simpa [selV] using hv, d⟩
    · cases h
theorem blk_rel {N : List Str} {H : Hp} {ns xs : List Str} {fs : List Nat} (sr : SRel D φ α H τ σ) (h : idxF N xs = some fs) : SRel D φ α H (blk ns.length fs τ) (ns.map (fun _ => none) ++ selV N σ xs) := by
  rw [blk_eq]
  refine ⟨by simp [selS_len, idxF_len h, selV], fun j t e => ?_⟩
  rcases Nat.lt_or_ge j ns.length with hj | hj
  · rw [List.getElem?_append_left (by simpa using hj), List.getElem?_replicate] at e
    split at e <;> cases e
  · rw [List.getElem?_append_right (by simpa using hj)] at e
    rw [List.getElem?_append_right (by simpa using hj)]
    simp only [List.length_map, List.length_replicate] at e ⊢
    exact selV_den sr h _ t e
theorem comp_start (C : Ck D W Γ X k) (ok : CompOk Γ.N Γ.cel tg sc) (I2 : Inv X pins σ H2 s2) (hf : ∀ b ∈ fp, FpOk X pins H2 b) (hfo : ∀ b ∈ fp, ∃ o, s2.heap.get? b = some o) (hcl : ∀ x c, cl.lookup x = some c → X.env.cells.lookup x = some c ∧ x ∈ frees sc) (hcl2 : ∀ x ∈ frees sc, ∃ c, cl.lookup x = some c)
    {h1 : Heap} (hns : h1.Ns (s2.heap.objs.size + 1) (fun _ => none)) (hsb : Heap.SameBut (s2.heap.objs.size + 1) ((s2.heap.push { cls := .type "list", data := .seq ([] : List Value).toArray }).push { cls := .type "dict", data := .dict #[] }) h1) {tk : Nat} :
    Inv X pins σ (upd H2 s2.heap.objs.size (.lst [])) { s2 with heap := s2.heap.push { cls := .type "list", data := .seq ([] : List Value).toArray } } ∧
    Inv (cxC X (tgNames tg ++ frees sc) sc cl (s2.heap.objs.size + 1) { s2 with heap := s2.heap.push { cls := .type "list", data := .seq ([] : List Value).toArray } } (upd H2 s2.heap.objs.size (.lst [])) fp) []
      ((tgNames tg).map (fun _ => none) ++ selV Γ.N σ (frees sc)) (upd H2 s2.heap.objs.size (.lst [])) { s2 with heap := h1, toks := tk } := by
  have I3 : Inv X pins σ (upd H2 s2.heap.objs.size (.lst [])) { s2 with heap := s2.heap.push { cls := .type "list", data := .seq ([] : List Value).toArray } } := I2.lnew (its := []) (t' := s2.toks) .nil (by simp)
  refine ⟨I3, ?_⟩
  generalize hA : s2.heap.push { cls := .type "list", data := .seq ([] : List Value).toArray } = HA at hsb I3 ⊢
  have szA : HA.objs.size = s2.heap.objs.size + 1 := by rw [← hA, Heap.size_push]
  have old : ∀ b o, HA.get? b = some o → h1.get? b = some o := fun b o e => hsb.extBut b o (by rw [← szA]; exact Nat.ne_of_lt (Heap.lt_size e)) (Heap.get?_push_of_some _ e)
  have fresh : (upd H2 s2.heap.objs.size (.lst [])) (s2.heap.objs.size + 1) = none := by rw [← szA]; exact I3.hok.fresh (Nat.le_refl _)
  have kindC : ∀ x ∈ frees sc, (cxC X (tgNames tg ++ frees sc) sc cl (s2.heap.objs.size + 1) { s2 with heap := HA } (upd H2 s2.heap.objs.size (.lst [])) fp).env.kindOf x = some .cell ∨ (cxC X (tgNames tg ++ frees sc) sc cl (s2.heap.objs.size + 1) { s2 with heap := HA } (upd H2 s2.heap.objs.size (.lst [])) fp).env.kindOf x = some .free := fun x hx => by
    have := lookup_relabel (env := X.env) (ok.fre x hx).2.1
    show (relabel sc X.env).names.lookup x = some .cell ∨ (relabel sc X.env).names.lookup x = some .free
    unfold relabel
    dsimp only
    rw [this]
    split
    · exact .inl rfl
    · exact .inr rfl
  refine ⟨⟨I2.ok.mod, ok.kind, I2.ok.glob, I2.ok.blt, ?_, ?_, ?_, fun x c h => absurd h (by simp [cxC]), I2.ok.hd, I2.ok.frames, .inl rfl, ?_, ?_, ?_, ?_, ?_, ?_, ?_⟩, rfl, I2.bare, Un.kept old, ⟨_, hns, ?_⟩, ?_, fresh, ?_, fun p hp => absurd hp (by simp [cxC]), I3.hok.kept old, ?_⟩
  · show HA.objs.size ≤ s2.heap.objs.size + 1
    omega
  · intro x y c h1 h2
    exact I2.ok.inj x y c (hcl x c h1).1 (hcl y c h2).1
  · intro x hx
    have hx' : (relabel sc X.env).names.lookup x = some .cell ∨ (relabel sc X.env).names.lookup x = some .free := hx
    by_cases hm : x ∈ frees sc
    · exact hcl2 x hm
    · exfalso
      cases q : sc.names.lookup x with
      | none =>
        have : (relabel sc X.env).names.lookup x = none := by
          unfold relabel
          dsimp only
          rw [List.lookup_eq_none_iff] at q ⊢
          intro p hp
          obtain ⟨p0, hp0, rfl⟩ := List.mem_map.mp hp
          have := q p0 hp0
          try dsimp only
          split <;> exact this
        rw [this] at hx'
        rcases hx' with z | z <;> cases z
      | some kd =>
        have hr := lookup_relabel (env := X.env) q
        have hx2 := hx'
        unfold relabel at hx2
        dsimp only at hx2
        rw [hr] at hx2
        have hmem : (x, kd) ∈ sc.names := PySem.mem_of_lookup q
        by_cases hkf : kd = .free
        · exact hm (mem_frees.mpr ⟨_, hmem, rfl, hkf⟩)
        · have e : (kd == NameKind.free) = false := by simpa using hkf
          rw [e] at hx2
          simp only [Bool.false_and, Bool.false_eq_true, if_false, Option.some.injEq] at hx2
          rcases hx2 with z | z
          · exact ok.noc _ hmem z
          · exact hkf z
  · intro b hb
    obtain ⟨f0, f1, f2, f3, f4, f5⟩ := hf b hb
    obtain ⟨o, ho⟩ := hfo b hb
    refine ⟨?_, fun x c h => f4 x c (hcl x c h).1⟩
    show b ≠ s2.heap.objs.size + 1
    exact Nat.ne_of_lt (Nat.lt_succ_of_lt (Heap.lt_size ho))
  · intro b o e
    exact I3.bs b o e
  · exact Nat.le_trans I3.ok.bsz I3.sz
  · intro b o e hb
    obtain ⟨f0, f1, f2, f3, f4, f5⟩ := hf b hb
    rcases f3 with z | z
    · exact I2.ok.noex b o e z
    · exact absurd (Nat.lt_of_lt_of_le (Heap.lt_size e) (Nat.le_trans I2.ok.bsz z)) (Nat.lt_irrefl _)
  · intro b hb hfs
    obtain ⟨f0, f1, f2, f3, f4, f5⟩ := hf b hb
    rcases List.mem_cons.mp (I2.stkSub b hfs) with z | z
    · exact f1 z
    · exact f2 z
  · exact I3.stack
  · intro b hb
    exact I3.stkFree b hb
  · intro i x v hN hσ hv
    obtain ⟨m, hn, hl⟩ := I2.loc
    by_cases hi : i < (tgNames tg).length
    · exfalso
      rw [List.getElem?_append_left (by simpa using hi), List.getElem?_map] at hσ
      cases q : (tgNames tg)[i]? with
      | none => rw [q] at hσ; cases hσ
      | some y => rw [q] at hσ; cases hσ
    · have hN' : (frees sc)[i - (tgNames tg).length]? = some x := by
        have : (tgNames tg ++ frees sc)[i]? = some x := hN
        rwa [List.getElem?_append_right (by omega)] at this
      rw [List.getElem?_append_right (by simpa using hi)] at hσ
      simp only [List.length_map] at hσ
      unfold selV at hσ
      rw [List.getElem?_map, hN'] at hσ
      simp only [Option.map_some, Option.some.injEq] at hσ
      have hx : x ∈ frees sc := List.mem_of_getElem? hN'
      obtain ⟨⟨j, hj⟩, _, hcelm, _⟩ := ok.fre x hx
      rw [hj] at hσ
      simp only [Option.bind_some] at hσ
      cases u : σ[j]? with
      | none => rw [u] at hσ; cases hσ
      | some o =>
        rw [u] at hσ
        simp only [Option.join_some] at hσ
        subst hσ
        obtain ⟨w, rw', lk⟩ := hl j x v (by rw [C.hN]; exact idx_get hj) u (C.vis x (idx_mem hj))
        refine ⟨w, rw', .inr ⟨kindC x hx, ?_⟩⟩
        have kx := C.cel x hcelm
        rcases lk with ⟨z, _⟩ | ⟨_, c, hc, hcell⟩
        · rw [z] at kx
          rcases kx with kx | kx <;> cases kx
        · obtain ⟨c', hc'⟩ := hcl2 x hx
          have := (hcl x c' hc').1
          rw [hc] at this
          cases this
          refine ⟨c, hc', ?_⟩
          obtain ⟨oc, ho, hd⟩ := hcell
          exact ⟨oc, old c oc (by rw [← hA]; exact Heap.get?_push_of_some _ ho), hd⟩
  · intro x c h
    obtain ⟨v, oc, ho, hd⟩ := I2.cell x c (hcl x c h).1
    exact ⟨v, oc, old c oc (by rw [← hA]; exact Heap.get?_push_of_some _ ho), hd⟩
  · intro x c h
    exact I3.freeC x c (hcl x c h).1
  · show _ = (tgNames tg ++ frees sc).length
    simp [selV]
end
end NH
end
section
set_option linter.all false
set_option maxRecDepth 100000
set_option maxHeartbeats 4000000
namespace NH
open PySem PySem.Spec PyProof.Rows L2
section
variable {X : Cx} {D : DP} {W : XW} {Γ : Cn} {k : Nat} {pins : List (Addr × Obj)} {s : Shared} {σ : St} {H : Hp} {φ α : List Addr} {τ : Sl} {μ : Mem} {tg iter elt : Expr} {sc : Scope} {fp : List Addr} {pos pos' : Pos}
def inComp (Γ : Cn) (tg : Expr) (sc : Scope) : Cn := { Γ with N := tgNames tg ++ frees sc, G := (globs sc).filter Γ.U.contains, cel := frees sc, lam := none }
theorem ck_comp {W' : XW} {pn : List (Addr × Obj)} {xe : Value → Shared → Prop} (C : Ck D W Γ X k) (ok : CompOk Γ.N Γ.cel tg sc) {cl : List (Str × Addr)} {C0 : Addr} {s3 : Shared} {H3 : Hp}
    (hxe : ∀ e s, XP { (cxC X (tgNames tg ++ frees sc) sc cl C0 s3 H3 fp) with pn := pn, xe := xe } W' e s → xe e s) : Ck D W' (inComp Γ tg sc) { (cxC X (tgNames tg ++ frees sc) sc cl C0 s3 H3 fp) with pn := pn, xe := xe } k := by
  have kindC : ∀ x ∈ frees sc, (relabel sc X.env).names.lookup x = some .cell ∨ (relabel sc X.env).names.lookup x = some .free := fun x hx => by
    have := lookup_relabel (env := X.env) (ok.fre x hx).2.1
    unfold relabel
    dsimp only
    rw [this]
    split
    · exact .inl rfl
    · exact .inr rfl
  have other : ∀ {x kd}, sc.names.lookup x = some kd → kd ≠ .free → (relabel sc X.env).names.lookup x = some kd := fun {x kd} h hk => by
    have := lookup_relabel (env := X.env) h
    unfold relabel
    dsimp only
    rw [this]
    have e : (kd == NameKind.free) = false := by simpa using hk
    simp [e]
  refine ⟨C.hK, rfl, ok.nd, fun x hx => ?_, fun x hx => ?_, fun x hx => ?_, fun x hx => ?_, fun x hx => ?_, C.glU, kindC, C.isi, C.fld, C.xcx, C.ocx, C.clv, C.clm, C.rom, C.rmh, hxe, ?_, LamOk.no rfl⟩
  · rcases List.mem_append.mp hx with h | h
    · exact .inl (other (ok.own x h).1 (by decide))
    · rcases kindC x h with z | z
      · exact .inr (.inl z)
      · exact .inr (.inr z)
  · rcases List.mem_append.mp hx with h | h
    · exact (ok.own x h).2
    · exact (ok.fre x h).2.2.2
  · exact (C.glU x (by have := (List.mem_filter.mp hx).2; simpa using this)).2
  · exact other (ok.glb x (List.mem_filter.mp hx).1) (by decide)
  · exact (C.glU x (by have := (List.mem_filter.mp hx).2; simpa using this)).1
  · obtain ⟨e0, out, L, F⟩ := C.frm
    exact ⟨e0, out, L, ⟨F.stk, F.f0, F.fe⟩⟩
theorem sto_comp (ok : CompOk Γ.N Γ.cel tg sc) {cl : List (Str × Addr)} {C0 : Addr} {s3 : Shared} {H3 : Hp} : Sto (cxC X (tgNames tg ++ frees sc) sc cl C0 s3 H3 fp) (tgNames tg) := fun x hx => by
  have e := lookup_relabel (env := X.env) (ok.own x hx).1
  have e' : (relabel sc X.env).names.lookup x = some .local := by
    unfold relabel
    dsimp only
    rw [e]
    rfl
  exact ⟨.inl e', .inr e'⟩
theorem idx_lt {M : List Str} {x : Str} : ∀ {L : List Str} {i : Nat}, x ∈ L → idx (L ++ M) x = some i → i < L.length
  | [], _, h, _ => absurd h (by simp)
  | y :: L, i, h, e => by
    rw [List.cons_append] at e
    simp only [idx] at e
    split at e
    · cases e; simp
    · rename_i hn
      have hm : x ∈ L := (List.mem_cons.mp h).resolve_left fun z => hn z.symm
      cases q : idx (L ++ M) x with
      | none => rw [q] at e; cases e
      | some j => rw [q] at e; cases e; simpa using idx_lt hm q
theorem setS_keep {n i : Nat} {t : Option T} {τ : Sl} (h : i < n) : ∀ j, n ≤ j → (setS τ i t)[j]? = τ[j]? := fun j hj => by
  rw [setS_eq, List.getElem?_set_ne (by omega)]
theorem asgs_keep {L M : List Str} : ∀ {es : List Expr} {is : List Nat} {ts : List T} {τ τ' : Sl}, (∀ e ∈ es, ∀ x p, e = .Name x p → x ∈ L) → idxs (L ++ M) es = some is → asgs is ts τ = some τ' → ∀ j, L.length ≤ j → τ'[j]? = τ[j]?
  | [], is, ts, τ, τ', _, h0, h => by
    cases h0
    cases ts with
    | nil => cases h; exact fun _ _ => rfl
    | cons _ _ => cases h
  | e :: es, is, ts, τ, τ', hn, h0, h => by
    cases e with
    | Name x p0 =>
      simp only [idxs] at h0
      split at h0
      · rename_i i is' hi his
        cases h0
        cases ts with
        | nil => cases h
        | cons t ts =>
          intro j hj
          rw [asgs_keep (fun e he => hn e (List.mem_cons_of_mem _ he)) his (show asgs is' ts (setS τ i (some t)) = some τ' from h) j hj]
          exact setS_keep (idx_lt (hn _ List.mem_cons_self x p0 rfl) hi) j hj
      · cases h0
    | _ => simp [idxs] at h0
theorem asg_keep {M : List Str} {e : Expr} {tgt : Tg} {t : T} {τ τ' : Sl} (h0 : tgOf (tgNames e ++ M) e = some tgt) (h : asg tgt t τ = some τ') : ∀ j, (tgNames e).length ≤ j → τ'[j]? = τ[j]? := by
  cases e with
  | Name x p0 =>
    simp only [tgOf] at h0
    cases q : idx (tgNames (.Name x p0) ++ M) x with
    | none => rw [q] at h0; cases h0
    | some i =>
      rw [q] at h0; cases h0
      cases (Option.some.inj h : setS τ i (some t) = τ')
      exact setS_keep (idx_lt (by simp [tgNames]) q)
  | Tuple es kk p0 =>
    simp only [tgOf] at h0
    cases q : idxs (tgNames (.Tuple es kk p0) ++ M) es with
    | none => rw [q] at h0; cases h0
    | some is =>
      rw [q] at h0; cases h0
      cases t with
      | tup ts => exact asgs_keep (fun e he x p hx => by subst hx; exact List.mem_filterMap.mpr ⟨_, he, rfl⟩) q h
      | _ => cases h
  | _ => simp [tgOf] at h0
def TsOk (X : Cx) (D : DP) (W : XW) : List Expr → List Dt → Prop
  | [], [] => True
  | e :: es, f :: fs => PT X e (rdT D W f) ∧ TsOk X D W es fs
  | _, _ => False
theorem elt_go {M : Model} {A : Around} {β : Type} {R : β → Mem → List Addr → Hp → Prop} {fe : De} {kk : Option T → Mem → RE β} {Qf : Bool → Shared → Prop} : ∀ {cs : List Expr} {fs : List Dt} {s : Shared} {H : Hp} {α : List Addr} {μ : Mem}, TsOk X D W cs fs → Inv X pins σ H s → SRel D φ α H τ σ → MRel D φ α H μ → Post D W φ α H σ R ((cElt fs fe τ μ).bind kk) →
    (∀ s' H' α' μ', Inv X pins σ H' s' → Stp α H α' H' → SRel D φ α' H' τ σ → MRel D φ α' H' μ' → Post D W φ α' H' σ R ((fe τ μ').bind fun y μ1 => kk (some y) μ1) → Qf true s') →
    (∀ s' H' α' μ', Inv X pins σ H' s' → Stp α H α' H' → SRel D φ α' H' τ σ → MRel D φ α' H' μ' → Post D W φ α' H' σ R (kk none μ') → Qf false s') →
    testsW (model X.prog X.w) X.A X.env X.xe cs Qf s
  | [], [], s, H, α, μ, _, I, sr, mr, p, h1, _ => h1 s H α μ I (Stp.refl _ _) sr mr p
  | [], _ :: _, _, _, _, _, h, _, _, _, _, _, _ => h.elim
  | _ :: _, [], _, _, _, _, h, _, _, _, _, _, _ => h.elim
  | c :: cs, f :: fs, s, H, α, μ, h, I, sr, mr, p, h1, h2 => by
    have p : Post D W φ α H σ R ((f τ μ).bind fun b μ1 => (RE.br b (cElt fs fe τ μ1) (.ok none μ1)).bind kk) := p
    refine thn (subT h.1 I sr mr p) ?_
    rintro b s1 ⟨H1, μ1, α1, I1, st1, sr1, mr1, p1⟩
    cases b with
    | true =>
      rw [if_pos rfl]
      exact elt_go (M := M) (A := A) h.2 I1 sr1 mr1 p1 (fun s' H' α' μ' a b => h1 s' H' α' μ' a (st1.trans b)) (fun s' H' α' μ' a b => h2 s' H' α' μ' a (st1.trans b))
    | false =>
      rw [if_neg (by decide)]
      exact h2 s1 H1 α1 μ1 I1 st1 sr1 mr1 p1
end
end NH
end
section
set_option linter.all false
set_option maxRecDepth 100000
set_option maxHeartbeats 4000000
namespace NH
open PySem PySem.Spec PyProof.Rows L2
section
variable {X : Cx} {D : DP} {W : XW} {Γ : Cn} {k : Nat} {pins : List (Addr × Obj)} {s : Shared} {σ : St} {H : Hp} {φ α : List Addr} {τ : Sl} {μ : Mem} {tg iter elt : Expr} {sc : Scope} {fp : List Addr} {pos pos' : Pos}
theorem testsW_mono {M : Model} {A : Around} {env : Env} {E E' : Value → Shared → Prop} {Q : Bool → Shared → Prop} (h : ∀ e s, E e s → E' e s) : ∀ {cs : List Expr} {s : Shared}, testsW M A env E cs Q s → testsW M A env E' cs Q s
  | [], _, q => q
  | c :: cs, s, q => wpAny_mono q (fun b s1 q1 => by
    cases b with
    | true => rw [if_pos rfl] at q1 ⊢; exact testsW_mono h q1
    | false => rw [if_neg (by decide)] at q1 ⊢; exact q1) h
theorem XTr.but {C0 x T : Addr} {cls fl : Value} {d : Option Addr} {h g : Heap} (t : XTr h x T cls d fl) (sb : Heap.SameBut C0 h g) (hx : x ≠ C0) (hT : T ≠ C0) : XTr g x T cls d fl := by
  obtain ⟨oe, vs, a0, oT, ts, ho, hc, hd, hv0, hv1, hTx, hoT, hdT, h3⟩ := t
  exact ⟨oe, vs, a0, oT, ts, sb.extBut x oe hx ho, hc, hd, hv0, hv1, hTx, sb.extBut T oT hT hoT, hdT, h3⟩
theorem inv_but {C0 : Addr} {h' : Heap} (I : Inv X pins σ H s) (xo : XOk X H C0) (hp : ∀ q ∈ pins, q.1 ≠ C0) (sb : Heap.SameBut C0 s.heap h') : Inv X pins σ H { s with heap := h' } :=
  inv_step (ch := [C0]) I (fun b hb => by rw [List.mem_singleton.mp hb]; exact ⟨xo, hp⟩) (fun b o _ hc e => sb.extBut b o (fun z => hc (by simp [z])) e) fun b o _ hc e => ⟨o.slots, sb.extBut b o (fun z => hc (by simp [z])) e⟩
theorem comp_core {β : Type} {R : β → Mem → List Addr → Hp → Prop} {fi : Di} {fs : List Nat} {tgt : Tg} {ifs : List Expr} {cs : List Dt} {fe : De} {kk : List T → Mem → RE β} {use : Option (Value → Sem Unit)} {Qf : Value → Shared → Prop}
    (C : Ck D W Γ X k) (hc : Γ.calm = true) (ok : CompOk Γ.N Γ.cel tg sc) (hfs : idxF Γ.N (frees sc) = some fs) (htg : tgOf (tgNames tg ++ frees sc) tg = some tgt) (hi : PI X tg iter (rdI D W fi)) (hel : ∀ X' W', Ck D W' (inComp Γ tg sc) X' k → PE X' elt (rdE D W' fe)) (hts : ∀ X' W', Ck D W' (inComp Γ tg sc) X' k → TsOk X' D W' ifs cs) (hs : ∀ x, foldedSetIterable iter X.env x = pure x)
    (I : Inv X pins σ H s) (sr : SRel D φ α H τ σ) (mr : MRel D φ α H μ)
    (p : Post D W φ α H σ R ((fi τ μ).go fun xs o μ1 => .grd (xs.length ≤ room) ((compO tgt (cElt cs fe) o (blk (tgNames tg).length fs τ) xs μ1).bind kk)))
    (Kq : ∀ acc C0 s' α1 H1 H' α' ys vs μ', Inv X pins σ H' s' → Stp α H α1 H1 → Stp α1 H1 α' H' → H1 acc = none → acc ∉ φ → acc ∉ α1 → SRel D (φ ++ [acc]) α' H' τ σ → MRel D (φ ++ [acc]) α' H' μ' → H' acc = some (.lst vs) → DenL D (φ ++ [acc]) α' H' ys vs → Post D W φ α1 H1 σ R (kk ys μ') → XOk X H' C0 → (∀ q ∈ pins, q.1 ≠ C0) → (∃ m, s'.heap.Ns C0 m) →
      (match use with
        | none => ∃ m, s'.heap.Ns C0 m ∧ ∀ g, Heap.SameBut C0 s'.heap g → Qf (.ref acc) { s' with heap := g }
        | some u => wpAny (model X.prog X.w) X.A (u (.ref acc)) (fun _ t2 => ∃ m, t2.heap.Ns C0 m ∧ ∀ g, Heap.SameBut C0 t2.heap g → Qf .none { t2 with heap := g }) X.xe s')) :
    wpAny (model X.prog X.w) X.A (comprehension (.ListComp elt [⟨tg, iter, ifs, 0⟩] sc pos) sc X.env pos' (newList []) false (eval iter X.env) use) Qf X.xe s := by
  obtain ⟨cl, hclos, hcl, hcl2⟩ := closure_of (sc := sc) (env := X.env) fun x hx => I.ok.has x (C.cel x (ok.fre x hx).2.2.1)
  refine blk_run (use := use) rfl hs hclos ok.kind ok.lcl (thn (hi pins s σ H (fun J H2 => ∃ xs o μ1 α1 Ok, ItV D J Ok xs ∧ OkI D φ α1 H2 xs o Ok ∧ o μ1 ∧ Stp α H α1 H2 ∧ MRel D φ α1 H2 μ1 ∧
    Post D W φ α1 H2 σ R (.grd (xs.length ≤ room) ((compO tgt (cElt cs fe) o (blk (tgNames tg).length fs τ) xs μ1).bind kk))) I
    ⟨φ, α, τ, μ, sr, mr, (show Post D W φ α H σ R ((fi τ μ).re.bind fun pr μ1 => .grd (pr.1.length ≤ room) ((compO tgt (cElt cs fe) pr.2 (blk (tgNames tg).length fs τ) pr.1 μ1).bind kk)) from p).bind.mono fun pr μ' α' H' st m q J Ok iv okk lv => ⟨pr.1, pr.2, μ', α', Ok, iv, okk, lv, st, m, q⟩⟩) fun v s1 h1 => thn h1 fun itv s2 h2 => ?_)
  obtain ⟨it, fp, tn, J, H2, rfl, I2, Tn, tn0, f2, xs, Lv, μ1, α1, Ok, iv, okk, lv1, st1, mr1, p1⟩ := h2
  obtain ⟨hroom, K0, Z0, q0, hk0, hz0⟩ := p1.grd
  have fo : ∀ b ∈ fp, ∃ o, s2.heap.get? b = some o := fun b hb => let ⟨o, e, _⟩ := Tn.obj 0 _ tn0 b hb; ⟨o, e⟩
  refine wpAny_newObj_type (wpAny_newFunctionEnv ok.noc (by intro y hy; simp at hy) (fun h₁ hns₁ hsb₁ => ?_) ok.kind)
  have sz : (s2.heap.push { cls := .type "list", dict := none, data := .seq ([] : List Value).toArray }).objs.size = s2.heap.objs.size + 1 := Heap.size_push ..
  dsimp only at hns₁ hsb₁ ⊢
  rw [sz] at hns₁ hsb₁ ⊢
  have hns : h₁.Ns (s2.heap.objs.size + 1) (fun _ => none) := by simpa using hns₁
  obtain ⟨I3, J0⟩ := comp_start (tk := s2.toks + ([] : List (Str × Value)).length) C ok I2 f2 fo hcl hcl2 hns hsb₁
  have hD : H2 s2.heap.objs.size = none := I2.hok.fresh (Nat.le_refl _)
  have nph : s2.heap.objs.size ∉ φ := fresh_phi mr1 hD
  have nal : s2.heap.objs.size ∉ α1 := fresh_out mr1 hD
  have old : ∀ b o, s2.heap.get? b = some o → h₁.get? b = some o := fun b o e => hsb₁.extBut b o (Nat.ne_of_lt (Nat.lt_succ_of_lt (Heap.lt_size e))) (Heap.get?_push_of_some _ (Heap.get?_push_of_some _ e))
  have n3 : ({ s2 with heap := s2.heap.push { cls := .type "list", data := .seq ([] : List Value).toArray } } : Shared).heap.get? (s2.heap.objs.size + 1) = none := Heap.get?_none_of_le (by show (s2.heap.push _).objs.size ≤ _; rw [Heap.size_push]; exact Nat.le_refl _)
  have xo0 := inv_xok I3 n3
  have pn3 : ∀ q ∈ pins, q.1 ≠ s2.heap.objs.size + 1 := fun q hq z => by
    have := (I3.pin q (List.mem_append_right _ hq)).1
    rw [z, n3] at this; cases this
  generalize hS3 : ({ s2 with heap := s2.heap.push { cls := .type "list", data := .seq ([] : List Value).toArray } } : Shared) = S3 at I3 J0 n3
  generalize hH3 : upd H2 s2.heap.objs.size (.lst []) = H3 at I3 J0 xo0
  generalize hXb : cxC X (tgNames tg ++ frees sc) sc cl (s2.heap.objs.size + 1) S3 H3 fp = Xb at J0
  have hXb' : Xb.prog = X.prog ∧ Xb.w = X.w ∧ Xb.K = X.K ∧ Xb.A = X.A ∧ Xb.env = compEnvC sc cl (s2.heap.objs.size + 1) X.env ∧ Xb.calm = X.calm ∧ Xb.pn = [] ∧ Xb.stack = X.stack ∧ Xb.N = tgNames tg ++ frees sc ∧ Xb.fs = frs X.stack := by subst hXb; exact ⟨rfl, rfl, rfl, rfl, rfl, rfl, rfl, rfl, rfl, rfl⟩
  have sto : Sto Xb (tgNames tg) := by subst hXb; exact sto_comp (Γ := Γ) ok
  have cm : Xb.calm = true := by rw [hXb'.2.2.2.2.2.1]; exact C.clm hc
  have back : ∀ {s4 : Shared} {σ4 : St} {H4 : Hp} {pp : List (Addr × Obj)}, Inv Xb pp σ4 H4 s4 → Inv X pins σ H4 s4 := fun {s4 σ4 H4 pp} I4 => by
    subst hXb
    exact I3.call' (ch := fp) I4.os I4.base I4.hok I4.bare fun b hb => by
      obtain ⟨f0, f1, f2', f3, f4, f5⟩ := f2 b hb
      exact ⟨f3, f1, f4, f5⟩
  have fpk : ∀ {H' : Hp}, (∀ b ∈ fp, H' b = none) → ∀ b ∈ fp, FpOk Xb [] H' b := fun hn b hb => by
    obtain ⟨f0, f1, f2', f3, f4, f5⟩ := f2 b hb
    obtain ⟨o, ho⟩ := fo b hb
    subst hXb
    refine ⟨hn b hb, Nat.ne_of_lt (Nat.lt_succ_of_lt (Heap.lt_size ho)), fun z => ?_, .inl hb, fun x c h => f4 x c (hcl x c h).1, fun q hq => absurd hq (by simp [cxC])⟩
    rcases List.mem_cons.mp (I2.stkSub b z) with z | z
    · exact f1 z
    · exact f2' z
  have TnI := Tn.item Xb hXb'.1 hXb'.2.1 hXb'.2.2.1 cm
  have TnD := Tn.done Xb hXb'.1 hXb'.2.1 hXb'.2.2.1 cm
  obtain ⟨e0, out, L, F⟩ := C.frm
  have ce : (compEnvC sc cl (s2.heap.objs.size + 1) X.env).frame = some L := F.fe
  obtain ⟨NB, hNB⟩ : ∃ NB : Value → Shared → Prop, NB = notedBy (model X.prog X.w) X.A (compEnvC sc cl (s2.heap.objs.size + 1) X.env) (fun x s' => BlkPost (model X.prog X.w) X.A X.xe use Qf (.ref s2.heap.objs.size) (compEnvC sc cl (s2.heap.objs.size + 1) X.env) (.error x) s') := ⟨_, rfl⟩
  have leave : ∀ {pp : List (Addr × Obj)} {e : Value} {t : Shared}, (∀ b ∈ fp, ∃ o, (b, o) ∈ pp) → XP (Cx.pin' Xb pp) (fun cls d _ He => ∃ c fs' μ' α' Cc, Z0 c fs' μ' ∧ Stp α1 H2 α' He ∧ MRel D (φ ++ [s2.heap.objs.size]) α' He μ' ∧ D.adr c = some Cc ∧ cls = .ref Cc ∧ XDict D (φ ++ [s2.heap.objs.size]) α' He fs' d) e t →
      NB e t := fun {pp e t} hpp xp => by
    have Fb : Frm (Cx.pin' Xb pp) e0 out L := ⟨by show Xb.stack = _; rw [hXb'.2.2.2.2.2.2.2.1]; exact F.stk, F.f0, by show Xb.env.frame = _; rw [hXb'.2.2.2.2.1]; exact ce⟩
    have hfr : X.A.frames = some (Cx.pin' Xb pp).stack := by show _ = some Xb.stack; rw [hXb'.2.2.2.2.2.2.2.1]; exact I.ok.frames
    rw [hNB]
    unfold notedBy
    rw [show compEnvC sc cl (s2.heap.objs.size + 1) X.env = (Cx.pin' Xb pp).env from hXb'.2.2.2.2.1.symm]
    refine xp_note (X := Cx.pin' Xb pp) Fb hfr xp fun x cls d σe He T h' ee Ie ox oT tr w => ?_
    subst ee
    have en : (Cx.pin' Xb pp).env = compEnvC sc cl (s2.heap.objs.size + 1) X.env := hXb'.2.2.2.2.1
    rw [en]
    have Iu : Inv Xb pp σe He { t with heap := h' } := inv_unpin' Ie
    have IX := back Iu
    have nw : ∀ b, XOk (Cx.pin' Xb pp) He b → XOk X He b ∧ b ≠ s2.heap.objs.size + 1 := fun b o => by
      have hb : b ∉ fp := fun z => by
        obtain ⟨ob, hm⟩ := hpp b z
        exact o.pin (b, ob) (List.mem_append_right _ hm) rfl
      have h3 : S3.heap.get? b = none := by
        have := o.new
        subst hXb
        exact this.resolve_left hb
      have q := inv_xok I3 h3
      refine ⟨⟨o.free, q.loc, q.nfs, q.new, q.cel, q.pin⟩, ?_⟩
      have := o.loc
      have e2 : (Cx.pin' Xb pp).env.locals = s2.heap.objs.size + 1 := by rw [en]; rfl
      rw [e2] at this; exact this
    have xoC : XOk X He (s2.heap.objs.size + 1) := ⟨by have := Iu.free; rw [hXb'.2.2.2.2.1] at this; exact this, xo0.loc, xo0.nfs, xo0.new, xo0.cel, xo0.pin⟩
    obtain ⟨m, hm, _⟩ := Iu.loc
    rw [hXb'.2.2.2.2.1] at hm
    refine ⟨m, hm, fun g sb => ?_⟩
    have sb' : Heap.SameBut (s2.heap.objs.size + 1) h' g := sb
    have Ig : Inv X [] σ He { t with heap := g } := (inv_but IX xoC pn3 sb').pins_of fun p hp => absurd hp (by simp)
    have tg' := tr.but sb' (nw x ox).2 (nw T oT).2
    unfold PySem.passOn
    obtain ⟨oe, vs', a0, oT', ts, ho, hcc, hd, hv0, hv1, hT, hoT, hdT, h3⟩ := id tg'
    refine wpAny_bind (wpAny_field ho hd hv1 ?_)
    rw [if_neg (show ¬ ((Value.ref T == Value.none) = true) from by simp)]
    have go : ∀ {t2 : Shared}, XP X W (.ref x) t2 → wpAny (model X.prog X.w) X.A (throw (Value.ref x) : Sem Value) (fun _ _ => False) X.xe t2 := fun {t2} xp => wpAny_throw (C.xe _ _ xp)
    have fin : wpAny (model X.prog X.w) X.A (setFlight (.ref x) (compEnvC sc cl (s2.heap.objs.size + 1) X.env).frame) (fun _ t2 => XP X W (.ref x) t2) X.xe { t with heap := g } := by
      refine xp_flight (s := { t with heap := g }) Ig (nw x ox).1 (nw T oT).1 tg' fun h4 I4 tr4 => ?_
      obtain ⟨c, fs', μ', α', Cc, z, stp, m', ad, rfl, xd⟩ := w
      refine ⟨x, .ref Cc, d, σ, He, some T, rawInt L, rfl, I4, (nw x ox).1, fun t ht => ?_, ?_, .inr ⟨L, F.fe, rfl⟩, ?_⟩
      · have : t = T := by simpa using ht
        rw [this]; exact (nw T oT).1
      · rw [ce] at tr4; exact tr4
      · refine hz0 c fs' μ' z α' He Cc d stp (m'.lk look_less (fun a ha => ⟨rfl, fun z => m'.dis a ha (List.mem_append_left _ z)⟩) fun b hb => m'.phi b (List.mem_append_left _ hb)) ad (xd.lk look_less)
    first
      | exact wpAny_bind (thn fin fun _ t2 xp => go xp)
      | exact wpAny_bind (wpAny_pure (wpAny_bind (thn fin fun _ t2 xp => go xp)))
  have loop : codeAny (model X.prog X.w) X.A (.compLoop (.ListComp elt [⟨tg, iter, ifs, 0⟩] sc pos) 0 (.ref it) (.ref s2.heap.objs.size) (compEnvC sc cl (s2.heap.objs.size + 1) X.env)) (BlkPost (model X.prog X.w) X.A X.xe use Qf (.ref s2.heap.objs.size) (compEnvC sc cl (s2.heap.objs.size + 1) X.env)) { s2 with heap := h₁, toks := s2.toks + ([] : List (Str × Value)).length } := by
    obtain ⟨LI, hLI⟩ : ∃ LI : Nat → Shared → Prop, LI = (fun n s' => ∃ i σ' H' α' μ' yT yV, n = xs.length - i ∧ i ≤ xs.length ∧ Inv Xb [] σ' H' s' ∧ tn i s'.heap ∧ (∀ b ∈ fp, H' b = none) ∧
      Stp α1 H2 α' H' ∧ MRel D (φ ++ [s2.heap.objs.size]) α' H' μ' ∧ SRel D (φ ++ [s2.heap.objs.size]) α' H' (blk (tgNames tg).length fs τ) σ' ∧ H' s2.heap.objs.size = some (.lst yV) ∧ DenL D (φ ++ [s2.heap.objs.size]) α' H' yT yV ∧ yT.length ≤ i ∧
      Lv μ' ∧ compO tgt (cElt cs fe) Lv (blk (tgNames tg).length fs τ) (xs.drop i) μ' (fun rest μ2 => kk (yT ++ rest) μ2 K0 Z0) Z0) := ⟨_, rfl⟩
    refine comp_loop LI ?_ xs.length ?_
    · intro n s' h0
      rw [hLI] at h0
      obtain ⟨i, σ', H', α', μ', yT, yV, rfl, hi', Iv, tni, fr, stp, mr', sr', hacc, dly, hyl, lv', hcmi⟩ := h0
      have okH : Ok (φ ++ [s2.heap.objs.size]) α' H' := okk _ α' H' μ' ((look_more hD).trans stp.lk) mr' lv'
      by_cases hlt : i < xs.length
      · have TI := TnI i [] s' σ' H' (fun _ _ => False) Iv (fpk fr) tni (iv.go i _ _ H' okH (by omega))
        rw [hXb'.2.2.2.1] at TI
        refine thn TI ?_
        rintro r s4 ⟨u, rfl, h4⟩
        refine thn h4 ?_
        rintro _ s5 ⟨x, H5, I5, r5, y5, tn5, fr5⟩
        obtain ⟨sm5, dx'⟩ := iv.yld i _ _ H' x H5 xs[i] okH (by simp [hlt]) y5
        have stp := stp.trans (Stp.new (α := α') sm5)
        have sr' := sr'.step (Stp.new (α := α') sm5)
        have mr' := mr'.new sm5
        have hacc := sm5 _ _ hacc
        have dly := dly.step (Stp.new (α := α') sm5)
        have hdr : xs.drop i = xs[i] :: xs.drop (i + 1) := List.drop_eq_getElem_cons hlt
        rw [hdr] at hcmi
        obtain ⟨τ', ha, hfe⟩ := hcmi
        have I5' := I5.pinned (fpk fr5) (Tn.obj _ _ tn5)
        have A6 := asg_ok (S := tgNames tg) (X := Xb) hXb'.2.2.2.2.2.2.2.2.1 ok.nd sto cm (fun x h => h) htg ha I5' sr' dx' r5
        rw [hXb'.1, hXb'.2.1, hXb'.2.2.2.1, hXb'.2.2.2.2.1, show Xb.xe = fun _ _ => False by subst hXb; rfl] at A6
        refine thn A6 ?_
        rintro _ s6 ⟨σ6, I6, sr6⟩
        generalize hpp : ([] ++ pinsAt fp s5.heap : List (Addr × Obj)) = pp at I6
        have hppm : ∀ b ∈ fp, ∃ o, (b, o) ∈ pp := fun b hb => by
          obtain ⟨o, e, _⟩ := Tn.obj _ _ tn5 b hb
          exact ⟨o, by rw [← hpp]; exact List.mem_append_right _ (mem_pinsAt hb e)⟩
        generalize hW1 : (fun (cls : Value) (d : Option Addr) (_ : St) (He : Hp) => ∃ c fs' μ' α' Cc, Z0 c fs' μ' ∧ Stp α1 H2 α' He ∧ MRel D (φ ++ [s2.heap.objs.size]) α' He μ' ∧ D.adr c = some Cc ∧ cls = .ref Cc ∧ XDict D (φ ++ [s2.heap.objs.size]) α' He fs' d : XW) = W1
        have lv : ∀ e t, XP (Cx.pin' Xb pp) W1 e t → NB e t := fun e t xp => by
          rw [← hW1] at xp; exact leave hppm xp
        have ck : Ck D W1 (inComp Γ tg sc) ((Cx.pin' Xb pp).wish (XP (Cx.pin' Xb pp) W1)) k := by
          subst hXb
          exact ck_comp (W' := W1) (pn := [] ++ pp) (xe := XP (Cx.pin' (cxC X (tgNames tg ++ frees sc) sc cl (s2.heap.objs.size + 1) S3 H3 fp) pp) W1) C ok fun e s p => xp_unwish (X := Cx.pin' (cxC X (tgNames tg ++ frees sc) sc cl (s2.heap.objs.size + 1) S3 H3 fp) pp) p
        have I6' : Inv ((Cx.pin' Xb pp).wish (XP (Cx.pin' Xb pp) W1)) [] σ6 H5 s6 := (inv_pin' I6).wish _
        have next : ∀ {s7 : Shared} {H7 : Hp} {α7 : List Addr} {μ7 : Mem} {yT' : List T} {yV' : List V}, Inv ((Cx.pin' Xb pp).wish (XP (Cx.pin' Xb pp) W1)) [] σ6 H7 s7 → Stp α1 H2 α7 H7 → MRel D (φ ++ [s2.heap.objs.size]) α7 H7 μ7 → SRel D (φ ++ [s2.heap.objs.size]) α7 H7 τ' σ6 → H7 s2.heap.objs.size = some (.lst yV') → DenL D (φ ++ [s2.heap.objs.size]) α7 H7 yT' yV' → yT'.length ≤ i + 1 →
            Lv μ7 → compO tgt (cElt cs fe) Lv (blk (tgNames tg).length fs τ) (xs.drop (i + 1)) μ7 (fun rest μ2 => kk (yT' ++ rest) μ2 K0 Z0) Z0 →
            ∃ m, m < xs.length - i ∧ LI m s7 := fun {s7 H7 α7 μ7 yT' yV'} I7 st7 m7 sr7 ac7 dy7 hy7 lv7 q7 => by
          have I7u : Inv Xb pp σ6 H7 s7 := inv_unpin' I7.unwish
          have pinned : ∀ b ∈ fp, ∃ o, s5.heap.get? b = some o ∧ s7.heap.get? b = some o ∧ H7 b = none := fun b hb => by
            obtain ⟨o, e, _⟩ := Tn.obj _ _ tn5 b hb
            have := I7u.pin (b, o) (List.mem_append_right _ (by rw [← hpp]; exact List.mem_append_right _ (mem_pinsAt hb e)))
            exact ⟨o, e, this.1, this.2.1⟩
          refine ⟨xs.length - (i + 1), by omega, ?_⟩
          rw [hLI]
          refine ⟨i + 1, σ6, H7, α7, μ7, yT', yV', rfl, hlt, I7u.pins_of (fun p hp => absurd hp (by simp)), Tn.keep _ _ _ tn5 (fun b hb o e => ?_), fun b hb => (pinned b hb).choose_spec.2.2, st7, m7, ⟨?_, fun j t e => ?_⟩, ac7, dy7, hy7, lv7, q7⟩
          · obtain ⟨o', e1, e2, _⟩ := pinned b hb
            rw [e] at e1; cases e1; exact e2
          · have := I7u.len
            rw [hXb'.2.2.2.2.2.2.2.2.1] at this
            rw [blk_eq, this]
            simp [selS_len, idxF_len hfs]
          · have hj : (tgNames tg).length ≤ j := by
              rcases Nat.lt_or_ge j (tgNames tg).length with h | h
              · rw [blk_eq, List.getElem?_append_left (by simpa using h), List.getElem?_replicate] at e
                split at e <;> cases e
              · exact h
            exact sr7.val j t (by rw [asg_keep htg ha j hj]; exact e)
        have P0 : Post D W1 (φ ++ [s2.heap.objs.size]) α' H5 σ6 (fun (o : Option T) μ7 α7 H7 => match o with
            | some y => ∀ v, Den D (φ ++ [s2.heap.objs.size]) α7 H7 y v → Lv μ7 ∧ compO tgt (cElt cs fe) Lv (blk (tgNames tg).length fs τ) (xs.drop (i + 1)) μ7 (fun ys μ2 => kk (yT ++ y :: ys) μ2 K0 Z0) Z0
            | none => Lv μ7 ∧ compO tgt (cElt cs fe) Lv (blk (tgNames tg).length fs τ) (xs.drop (i + 1)) μ7 (fun ys μ2 => kk (yT ++ ys) μ2 K0 Z0) Z0) ((cElt cs fe τ' μ').bind fun o μ7 => RE.ok o μ7) := by
          refine ⟨_, Z0, hfe, fun o μ7 e α7 H7 st m => ?_, fun c fs' μ7 z α7 H7 Cc d st m ad xd => ?_⟩
          · cases o with
            | some y => exact fun v _ => e
            | none => exact e
          · rw [← hW1]; exact ⟨c, fs', μ7, α7, Cc, z, stp.trans st, m, ad, rfl, xd⟩
        have ep : ((Cx.pin' Xb pp).wish (XP (Cx.pin' Xb pp) W1)).prog = X.prog := hXb'.1
        have ew : ((Cx.pin' Xb pp).wish (XP (Cx.pin' Xb pp) W1)).w = X.w := hXb'.2.1
        have eA : ((Cx.pin' Xb pp).wish (XP (Cx.pin' Xb pp) W1)).A = X.A := hXb'.2.2.2.1
        have ee : ((Cx.pin' Xb pp).wish (XP (Cx.pin' Xb pp) W1)).env = compEnvC sc cl (s2.heap.objs.size + 1) X.env := hXb'.2.2.2.2.1
        have nD : s2.heap.objs.size ∉ α' := fun z => mr'.dis _ z (by simp)
        have G := elt_go (X := (Cx.pin' Xb pp).wish (XP (Cx.pin' Xb pp) W1)) (M := model X.prog X.w) (A := X.A) (Qf := fun b s₄ => if b = true then wpAny (model X.prog X.w) X.A (eval elt (compEnvC sc cl (s2.heap.objs.size + 1) X.env)) (fun x s₅ => wpAny (model X.prog X.w) X.A (call (.builtin "list.append") [.ref s2.heap.objs.size, x]) (fun _ s₆ => ∃ m, m < xs.length - i ∧ LI m s₆) (fun _ _ => False) s₅) NB s₄ else ∃ m, m < xs.length - i ∧ LI m s₄) (hts _ W1 ck) I6' sr6 mr' P0 (fun s7 H7 α7 μ7 I7 st7 sr7 m7 p7 => ?_) (fun s7 H7 α7 μ7 I7 st7 sr7 m7 p7 => ?_)
        · rw [ep, ew, eA, ee] at G
          rw [← hNB]
          exact testsW_mono (fun e t h => lv e t h) G
        · rw [if_pos rfl]
          have E7 := sub (hel _ W1 ck) I7 sr7 m7 p7
          rw [ep, ew, eA, ee] at E7
          refine wpAny_mono E7 (fun x8 s8 h8 => ?_) fun e t h => lv e t h
          obtain ⟨v8, H8, y8, μ8, α8, I8, r8, st8, sr8, m8, d8, p8⟩ := h8
          have q8 := p8.ok (Stp.refl _ _) m8 v8 d8
          have acc8 : H8 s2.heap.objs.size = some (.lst yV) := st8.keep _ _ (fun z => m7.dis _ z (by simp)) (st7.keep _ _ nD hacc)
          have hyv : yV.length ≤ i := by rw [← dly.length]; exact hyl
          have AP := mt_append (X := Cx.pin' Xb pp) [] s8 σ6 H8 (.ref s2.heap.objs.size) [v8] (.ref s2.heap.objs.size) [x8] (fun _ H9 => H9 = upd H8 s2.heap.objs.size (.lst (yV ++ [v8]))) I8.unwish rfl (.cons r8 .nil) ⟨_, yV, v8, rfl, rfl, acc8, Nat.lt_of_le_of_lt hyv (Nat.lt_of_lt_of_le hlt (room_line hroom)), rfl⟩
          rw [show (Cx.pin' Xb pp).prog = X.prog from hXb'.1, show (Cx.pin' Xb pp).w = X.w from hXb'.2.1, show (Cx.pin' Xb pp).A = X.A from hXb'.2.2.2.1, show (Cx.pin' Xb pp).xe = fun _ _ => False by subst hXb; rfl] at AP
          refine thn AP ?_
          rintro x9 s9 ⟨v9, H9, I9, r9, rfl⟩
          have inphi : s2.heap.objs.size ∈ φ ++ [s2.heap.objs.size] := by simp
          have t := (stp.trans st7).trans st8
          have one : DenL D (φ ++ [s2.heap.objs.size]) α8 H8 [y8] [v8] := ⟨v8, [], rfl, d8, rfl⟩
          refine next (I9.wish _) ⟨t.ext, fun b o n e => ?_, fun b e => t.live b ?_⟩ (m8.lk (look_upd inphi) (fun a ha' => ⟨by rw [upd_ne (fun z => m8.dis a ha' (by rw [z]; simp))], m8.dis a ha'⟩) (fun b hb => ?_)) (sr8.lk (look_upd inphi)) upd_same ((((dly.step st7).step st8).append one).lk (look_upd inphi)) (by simp; omega) q8.1 (by simpa using q8.2)
          · rw [upd_ne (ne_of_none e hD)]; exact t.keep b o n e
          · by_cases hb : b = s2.heap.objs.size
            · rw [hb, upd_same] at e; cases e
            · rw [upd_ne hb] at e; exact e
          · by_cases hb' : b = s2.heap.objs.size
            · rw [hb', upd_same]; exact ⟨_, rfl⟩
            · rw [upd_ne hb']; exact m8.phi b hb
        · rw [if_neg (by decide)]
          exact next I7 (stp.trans st7) m7 sr7 (st7.keep _ _ nD hacc) (dly.step st7) (by omega) (p7.ok (Stp.refl _ _) m7).1 (p7.ok (Stp.refl _ _) m7).2
      · have hie : i = xs.length := by omega
        have TD := TnD i [] s' σ' H' (fun _ _ => False) Iv (fpk fr) tni (by rw [hie]; exact iv.stop _ _ H' okH)
        rw [hXb'.2.2.2.1] at TD
        refine thn TD ?_
        rintro r s4 ⟨rfl, I4⟩
        have hdr : xs.drop i = [] := by rw [hie]; simp
        rw [hdr] at hcmi
        have q4 : kk yT μ' K0 Z0 := by
          have : kk (yT ++ []) μ' K0 Z0 := hcmi
          simpa using this
        have I5 := back I4
        obtain ⟨m, hm, _⟩ := I4.loc
        rw [hXb'.2.2.2.2.1] at hm
        exact Kq s2.heap.objs.size (s2.heap.objs.size + 1) s4 α1 H2 H' α' yT yV μ' I5 st1 stp hD nph nal (((sr.step st1).lk (look_more hD)).step stp) mr' hacc dly ⟨K0, Z0, q4, hk0, hz0⟩ ⟨by have := I4.free; rw [hXb'.2.2.2.2.1] at this; exact this, xo0.loc, xo0.nfs, xo0.new, xo0.cel, xo0.pin⟩ pn3 ⟨m, hm⟩
    · have sm : Same H2 H3 := by rw [← hH3]; exact same_upd hD
      rw [hLI]
      refine ⟨0, _, _, α1, μ1, [], [], rfl, Nat.zero_le _, J0, Tn.keep _ _ _ tn0 fun b hb o e => old b o e, fun b hb => ?_, Stp.new sm, ?_, ?_, by rw [← hH3]; exact upd_same, rfl, Nat.le_refl _, lv1, by simpa using q0⟩
      · obtain ⟨o, ho⟩ := fo b hb
        rw [← hH3, upd_ne (Nat.ne_of_lt (Heap.lt_size ho))]
        exact (f2 b hb).1
      · refine mr1.lk (look_new hD sm) (fun a ha => ?_) fun b hb => ?_
        · have na : a ≠ s2.heap.objs.size := fun z => nal (z ▸ ha)
          exact ⟨by rw [← hH3]; exact upd_ne na, fun z => (List.mem_append.mp z).elim (mr1.dis a ha) fun z => na (List.mem_singleton.mp z)⟩
        · rcases List.mem_append.mp hb with z | z
          · obtain ⟨o, e⟩ := mr1.phi b z
            exact ⟨o, sm b o e⟩
          · rw [List.mem_singleton.mp z, ← hH3, upd_same]; exact ⟨_, rfl⟩
      · exact (blk_rel (sr.step st1) hfs).lk (look_new hD sm)
  exact codeAny_compStart_list loop (wpAny_mono (Tn.self _ 0 _ _ _ (Tn.keep _ _ _ tn0 fun b hb o e => old b o e) loop) (fun _ _ q => q) fun _ _ q => q)
end
end NH
end
section
set_option linter.all false
set_option maxRecDepth 100000
set_option maxHeartbeats 4000000
namespace NH
open PySem PySem.Spec PyProof.Rows L2
section
variable {X : Cx} {D : DP} {W : XW} {Γ : Cn} {k : Nat} {pins : List (Addr × Obj)} {s : Shared} {σ : St} {H : Hp} {φ α : List Addr} {τ : Sl} {μ : Mem} {tg iter elt : Expr} {sc : Scope} {pos : Pos} {fi : Di} {fs : List Nat} {tgt : Tg} {ifs : List Expr} {cs : List Dt} {fe : De}
theorem blk_tree {β : Type} {R : β → Mem → List Addr → Hp → Prop} {kk : T → Mem → RE β} {acc : Addr} {α1 α' : List Addr} {H1 H' : Hp} {ys : List T} {vs : List V} {μ' : Mem} (st : Stp α1 H1 α' H') (hn : H1 acc = none) (nph : acc ∉ φ) (mr : MRel D (φ ++ [acc]) α' H' μ') (ha : H' acc = some (.lst vs)) (dl : DenL D (φ ++ [acc]) α' H' ys vs) (p : Post D W φ α1 H1 σ R (kk (.lst ys) μ')) :
    MRel D φ α' H' μ' ∧ Den D φ α' H' (.lst ys) (.ref acc) ∧ Post D W φ α' H' σ R (kk (.lst ys) μ') :=
  ⟨mr.lk look_less (fun a ha => ⟨rfl, fun z => mr.dis a ha (List.mem_append_left _ z)⟩) fun b hb => mr.phi b (List.mem_append_left _ hb), ⟨acc, vs, rfl, nph, fun z => mr.dis _ z (by simp), .inl ha, dl.lk look_less⟩, p.step st⟩
theorem look_adopt {acc : Addr} {α' : List Addr} {H' : Hp} : Lk (φ ++ [acc]) α' H' φ (α' ++ [acc]) H' := ⟨fun a o n1 n2 e => ⟨fun z => n1 (List.mem_append_left _ z), fun z => (List.mem_append.mp z).elim n2 fun z => n1 (by rw [List.mem_singleton.mp z]; simp), e⟩, fun i a e => by
  rw [List.getElem?_append_left (List.getElem?_eq_some_iff.mp e).1]; exact e⟩
theorem blk_store {acc : Addr} {α1 α' : List Addr} {H1 H' : Hp} {ys : List T} {vs : List V} {μ' : Mem} (st : Stp α1 H1 α' H') (hn : H1 acc = none) (nph : acc ∉ φ) (mr : MRel D (φ ++ [acc]) α' H' μ') (ha : H' acc = some (.lst vs)) (dl : DenL D (φ ++ [acc]) α' H' ys vs) :
    Stp α1 H1 (α' ++ [acc]) H' ∧ MRel D φ (α' ++ [acc]) H' (μ' ++ [.lst ys]) ∧ Den D φ (α' ++ [acc]) H' (.mut μ'.length) (.ref acc) := by
  have nal : acc ∉ α' := fun z => mr.dis _ z (by simp)
  refine ⟨?_, ⟨by simp [mr.len], ?_, fun b hb => ?_, fun b hb => mr.phi b (List.mem_append_left _ hb), fun i a o e1 e2 => ?_⟩, acc, by rw [← mr.len, List.getElem?_append_right (Nat.le_refl _)]; simp, rfl⟩
  · obtain ⟨β, e, hβ⟩ := st.ext
    exact ⟨⟨β ++ [acc], by rw [e]; simp, fun b hb => (List.mem_append.mp hb).elim (hβ b) fun z => by rw [List.mem_singleton.mp z]; exact hn⟩, st.keep, st.live⟩
  · rw [List.nodup_append]
    exact ⟨mr.nd, by simp, fun a ha b hb z => nal (by rw [List.mem_singleton.mp hb] at z; exact z ▸ ha)⟩
  · rcases List.mem_append.mp hb with h | h
    · exact fun z => mr.dis b h (List.mem_append_left _ z)
    · rw [List.mem_singleton.mp h]; exact nph
  · by_cases hi : i < α'.length
    · rw [List.getElem?_append_left hi] at e1
      rw [List.getElem?_append_left (by rw [← mr.len]; exact hi)] at e2
      exact (mr.ob i a o e1 e2).lk look_adopt rfl
    · have hl := mr.len
      rw [List.getElem?_append_right (by omega)] at e1 e2
      have hi' : i - α'.length = 0 := by
        by_cases z : i - α'.length = 0
        · exact z
        · rw [List.getElem?_eq_none (by simp; omega)] at e1; cases e1
      have hi2 : i - μ'.length = 0 := by omega
      rw [hi'] at e1
      rw [hi2] at e2
      have e1 : some acc = some a := e1
      have e2 : some (MO.lst ys) = some o := e2
      cases e1; cases e2
      exact ⟨vs, ha, dl.lk look_adopt⟩
theorem se_comp (C : Ck D W Γ X k) (hc : Γ.calm = true) (ok : CompOk Γ.N Γ.cel tg sc) (hfs : idxF Γ.N (frees sc) = some fs) (htg : tgOf (tgNames tg ++ frees sc) tg = some tgt) (hi : PI X tg iter (rdI D W fi)) (hel : ∀ X' W', Ck D W' (inComp Γ tg sc) X' k → PE X' elt (rdE D W' fe)) (hts : ∀ X' W', Ck D W' (inComp Γ tg sc) X' k → TsOk X' D W' ifs cs) (hs : ∀ x, foldedSetIterable iter X.env x = pure x) :
    PE X (.ListComp elt [⟨tg, iter, ifs, 0⟩] sc pos) (rdE D W (eComp (tgNames tg).length fs tgt fi cs fe)) := by
  rintro pins s σ H Q I ⟨φ, α, τ, μ, sr, mr, p⟩
  rw [eval_ListComp]
  refine comp_core (kk := fun ys μ => RE.ok (T.lst ys) μ) (use := none) (Qf := EP X pins σ Q) C hc ok hfs htg hi hel hts hs I sr mr p ?_
  rintro acc C0 s' α1 H1 H' α' ys vs μ' I' st1 st hn nph nal sr' m ha dl post xo hp ⟨mm, hm⟩
  obtain ⟨m2, d, post⟩ := blk_tree (kk := fun t μ => RE.ok t μ) st hn nph m ha dl post
  exact ⟨mm, hm, fun g sb => ⟨.ref acc, H', inv_but I' xo hp sb, rfl, post.here m2 d⟩⟩
theorem se_compL (C : Ck D W Γ X k) (hc : Γ.calm = true) (ok : CompOk Γ.N Γ.cel tg sc) (hfs : idxF Γ.N (frees sc) = some fs) (htg : tgOf (tgNames tg ++ frees sc) tg = some tgt) (hi : PI X tg iter (rdI D W fi)) (hel : ∀ X' W', Ck D W' (inComp Γ tg sc) X' k → PE X' elt (rdE D W' fe)) (hts : ∀ X' W', Ck D W' (inComp Γ tg sc) X' k → TsOk X' D W' ifs cs) (hs : ∀ x, foldedSetIterable iter X.env x = pure x) :
    PE X (.ListComp elt [⟨tg, iter, ifs, 0⟩] sc pos) (rdE D W (eCompL (tgNames tg).length fs tgt fi cs fe)) := by
  rintro pins s σ H Q I ⟨φ, α, τ, μ, sr, mr, p⟩
  rw [eval_ListComp]
  refine comp_core (kk := fun ys μ => RE.ok (T.mut μ.length) (μ ++ [MO.lst ys])) (use := none) (Qf := EP X pins σ Q) C hc ok hfs htg hi hel hts hs I sr mr p ?_
  rintro acc C0 s' α1 H1 H' α' ys vs μ' I' st1 st hn nph nal sr' m ha dl post xo hp ⟨mm, hm⟩
  obtain ⟨st2, m2, d⟩ := blk_store st hn nph m ha dl
  exact ⟨mm, hm, fun g sb => ⟨.ref acc, H', inv_but I' xo hp sb, rfl, post.ok st2 m2 _ d⟩⟩
theorem look_eq {x : Str} {g : GM} (h : Γ.look x = g) (hg : g ≠ .bad) : x ∈ Γ.G ∧ Γ.gl x = g := by
  unfold Cn.look at h
  split at h
  · rename_i hm
    exact ⟨by simpa using hm, h⟩
  · exact absurd h.symm hg
theorem noSet {iter : Expr} (h : plainIn iter = true) : ∀ x, foldedSetIterable iter X.env x = pure x := by
  intro x
  cases iter <;> first | rfl | (simp [plainIn] at h)
end
end NH
end
section
set_option linter.all false
set_option maxRecDepth 100000
set_option maxHeartbeats 4000000
namespace NH
open PySem PySem.Spec PyProof.Rows L2
def PostS (D : DP) (W : XW) (φ α : List Addr) (H : Hp) (E : Ends) (o : Out) : Prop :=
  ∃ Q : En, o Q ∧ (∀ τ μ, Q.nx τ μ → ∀ α' H' σ', Stp α H α' H' → MRel D φ α' H' μ → SRel D φ α' H' τ σ' → E.nx σ' H') ∧
    (∀ τ μ, Q.bk τ μ → ∀ α' H' σ', Stp α H α' H' → MRel D φ α' H' μ → SRel D φ α' H' τ σ' → E.bk σ' H') ∧
    (∀ τ μ, Q.ct τ μ → ∀ α' H' σ', Stp α H α' H' → MRel D φ α' H' μ → SRel D φ α' H' τ σ' → E.ct σ' H') ∧
    (∀ t μ, Q.rt t μ → ∀ α' H' v, Stp α H α' H' → MRel D φ α' H' μ → Den D φ α' H' t v → E.rt v H') ∧
    (∀ c fs τ μ, Q.ex c fs τ μ → ∀ α' H' σ' C d, Stp α H α' H' → MRel D φ α' H' μ → SRel D φ α' H' τ σ' → D.adr c = some C → XDict D φ α' H' fs d → W (.ref C) d σ' H')
def rdS (D : DP) (W : XW) (f : Ds) : TS := fun E σ H => ∃ φ α τ μ, SRel D φ α H τ σ ∧ MRel D φ α H μ ∧ PostS D W φ α H E (f τ μ)
structure Sk (D : DP) (W : XW) (Γ : Cn) (X : Cx) (k : Nat) : Prop extends Ck D W Γ X k where
  sto : Sto X Γ.N
  lcl : ∀ x ∈ Γ.N, Γ.cel.contains x = false → X.env.scope.names.lookup x = some .local
  pso : PassesOwn (model X.prog X.w) X.A X.env X.xe
  xmt : ∀ t x c, (x, c) ∈ Γ.cls → c < 40 → ∀ Ct Cc, D.adr t = some Ct → X.mg x = some (.ref Cc) → PySem.W.exmOne X.K (.ref Ct) (.ref Cc) = some (isinN t c)
section
variable {X : Cx} {D : DP} {W : XW} {Γ : Cn} {k : Nat} {pins : List (Addr × Obj)} {s : Shared} {σ : St} {H : Hp} {φ α : List Addr} {τ : Sl} {μ : Mem} {f g : De} {a b c e : Expr} {pos : Pos} {E : Ends} {u v : Ds}
theorem PostS.step {α' : List Addr} {H' : Hp} {o : Out} (p : PostS D W φ α H E o) (st : Stp α H α' H') : PostS D W φ α' H' E o := by
  obtain ⟨Q, q, h1, h2, h3, h4, h5⟩ := p
  exact ⟨Q, q, fun τ μ z α2 H2 σ2 s2 => h1 τ μ z α2 H2 σ2 (st.trans s2), fun τ μ z α2 H2 σ2 s2 => h2 τ μ z α2 H2 σ2 (st.trans s2), fun τ μ z α2 H2 σ2 s2 => h3 τ μ z α2 H2 σ2 (st.trans s2), fun τ μ z α2 H2 σ2 s2 => h4 τ μ z α2 H2 σ2 (st.trans s2), fun c fs τ μ z α2 H2 σ2 C d s2 => h5 c fs τ μ z α2 H2 σ2 C d (st.trans s2)⟩
theorem PostS.elim {C : Prop} (p : PostS D W φ α H E Out.st) : C := by obtain ⟨_, q, _⟩ := p; exact q.elim
theorem PostS.nx {τ : Sl} {μ : Mem} (p : PostS D W φ α H E (.nx τ μ)) {α' : List Addr} {H' : Hp} {σ' : St} (s : Stp α H α' H') (m : MRel D φ α' H' μ) (r : SRel D φ α' H' τ σ') : E.nx σ' H' := by
  obtain ⟨Q, q, h1, _⟩ := p
  exact h1 τ μ q α' H' σ' s m r
theorem PostS.rt {t : T} {μ : Mem} (p : PostS D W φ α H E (.rt t μ)) {α' : List Addr} {H' : Hp} {v : V} (s : Stp α H α' H') (m : MRel D φ α' H' μ) (r : Den D φ α' H' t v) : E.rt v H' := by
  obtain ⟨Q, q, _, _, _, h, _⟩ := p
  exact h t μ q α' H' v s m r
theorem PostS.ex {c : Nat} {fs : List (Nat × T)} {τ : Sl} {μ : Mem} (p : PostS D W φ α H E (.ex c fs τ μ)) {α' : List Addr} {H' : Hp} {σ' : St} {C : Addr} {d : Option Addr} (s : Stp α H α' H') (m : MRel D φ α' H' μ) (r : SRel D φ α' H' τ σ') (ad : D.adr c = some C) (x : XDict D φ α' H' fs d) : W (.ref C) d σ' H' := by
  obtain ⟨Q, q, _, _, _, _, h⟩ := p
  exact h c fs τ μ q α' H' σ' C d s m r ad x
theorem PostS.grd {c : Prop} {o : Out} (p : PostS D W φ α H E (Out.grd c o)) : c ∧ PostS D W φ α H E o := by
  obtain ⟨Q, q, h⟩ := p
  exact ⟨q.1, Q, q.2, h⟩
theorem PostS.som {γ : Type} {o : Option γ} {k : γ → Out} (p : PostS D W φ α H E (Out.som o k)) : ∃ a, o = some a ∧ PostS D W φ α H E (k a) := by
  obtain ⟨Q, ⟨a, e, q⟩, h⟩ := p
  exact ⟨a, e, Q, q, h⟩
theorem PostS.br {b : Bool} {r s : Out} (p : PostS D W φ α H E (Out.br b r s)) : (b = true ∧ PostS D W φ α H E r) ∨ (b = false ∧ PostS D W φ α H E s) := by
  obtain ⟨Q, q, h⟩ := p
  cases b with
  | true => exact .inl ⟨rfl, Q, q, h⟩
  | false => exact .inr ⟨rfl, Q, q, h⟩
theorem PostS.ex2 {δ1 δ2 : Type} {P P2 : δ1 → δ2 → Prop} {r : δ1 → δ2 → Out} (p : PostS D W φ α H E (fun Q => ∃ x y, P x y ∧ P2 x y ∧ r x y Q)) : ∃ x y, P x y ∧ P2 x y ∧ PostS D W φ α H E (r x y) := by
  obtain ⟨Q, ⟨x, y, h1, h2, q⟩, h⟩ := p
  exact ⟨x, y, h1, h2, Q, q, h⟩
theorem PostS.ex1 {δ1 : Type} {P P2 : δ1 → Prop} {r : δ1 → Out} (p : PostS D W φ α H E (fun Q => ∃ x, P x ∧ P2 x ∧ r x Q)) : ∃ x, P x ∧ P2 x ∧ PostS D W φ α H E (r x) := by
  obtain ⟨Q, ⟨x, h1, h2, q⟩, h⟩ := p
  exact ⟨x, h1, h2, Q, q, h⟩
theorem PostS.out {β : Type} {r : RE β} {kk : β → Mem → Out} (sr : SRel D φ α H τ σ) (p : PostS D W φ α H E (r.out τ kk)) : Post D W φ α H σ (fun t μ' α' H' => PostS D W φ α' H' E (kk t μ')) r := by
  obtain ⟨Q, q, h⟩ := p
  refine ⟨_, _, q, fun a μ' e α' H' st m => PostS.step ⟨Q, e, h⟩ st, fun c fs μ' e α' H' C d st m ad xd => ?_⟩
  exact h.2.2.2.2 c fs τ μ' e α' H' σ C d st m (sr.step st) ad xd
theorem ss_ret (ha : PE X a (rdE D W f)) : PS X (.Return (some a) pos) (rdS D W (sRet f)) := by
  rintro pins s σ H E I ⟨φ, α, τ, μ, sr, mr, p⟩
  refine ps_ret ha pins s σ H E I ⟨φ, α, τ, μ, sr, mr, (PostS.out sr p).mono fun t μ' α' H' st m q v d => PostS.rt q (Stp.refl _ _) m d⟩
theorem ss_retN : PS X (.Return none pos) (rdS D W sRetN) := by
  rintro pins s σ H E I ⟨φ, α, τ, μ, sr, mr, p⟩
  exact ps_retN pins s σ H E I (PostS.rt p (Stp.refl _ _) mr rfl)
theorem ss_expr (hs : swapsWith a none pos.line X.env = pure false) (ha : PE X a (rdE D W f)) : PS X (.Expr a pos) (rdS D W (sExpr f)) := by
  rintro pins s σ H E I ⟨φ, α, τ, μ, sr, mr, p⟩
  refine ps_expr ha hs pins s σ H E I ⟨φ, α, τ, μ, sr, mr, (PostS.out sr p).mono fun t μ' α' H' st m q v d => PostS.nx q (Stp.refl _ _) m (sr.step st)⟩
theorem sss_nil : PSs X [] (rdS D W (blks [])) := by
  rintro pins s σ H E I ⟨φ, α, τ, μ, sr, mr, p⟩
  exact pss_nil pins s σ H E I (PostS.nx p (Stp.refl _ _) mr sr)
theorem sss_cons {st : Stmt} {r : List Stmt} {fs : List Ds} (h1 : PS X st (rdS D W u)) (h2 : PSs X r (rdS D W (blks fs))) : PSs X (st :: r) (rdS D W (blks (u :: fs))) := by
  rintro pins s σ H E I ⟨φ, α, τ, μ, sr, mr, Q, q, h3, h4, h5, h6, h7⟩
  refine pss_cons h1 h2 pins s σ H E I ⟨φ, α, τ, μ, sr, mr, _, q, fun τ1 μ1 e α' H' σ' st m sr' => ?_, h4, h5, h6, h7⟩
  exact ⟨φ, α', τ1, μ1, sr', m, PostS.step ⟨Q, e, h3, h4, h5, h6, h7⟩ st⟩
def SsOk (X : Cx) (D : DP) (W : XW) : List Stmt → List Ds → Prop
  | [], [] => True
  | e :: es, f :: fs => PS X e (rdS D W f) ∧ SsOk X D W es fs
  | _, _ => False
theorem sss_all : ∀ {sts : List Stmt} {fs : List Ds}, SsOk X D W sts fs → PSs X sts (rdS D W (blks fs))
  | [], [], _ => sss_nil
  | st :: r, f :: fs, h => sss_cons h.1 (sss_all h.2)
  | [], _ :: _, h => h.elim
  | _ :: _, [], h => h.elim
theorem ss_if {ft : Dt} {as bs : List Stmt} {us vs : List Ds} (hc : PT X c (rdT D W ft)) (ha : SsOk X D W as us) (hb : SsOk X D W bs vs) : PS X (.If c as bs pos) (rdS D W (sIf ft us vs)) := by
  rintro pins s σ H E I ⟨φ, α, τ, μ, sr, mr, p⟩
  refine ps_if hc (sss_all ha) (sss_all hb) pins s σ H E I ⟨φ, α, τ, μ, sr, mr, (PostS.out sr p).mono fun b μ' α' H' st m q => ?_⟩
  rcases PostS.br q with ⟨rfl, q⟩ | ⟨rfl, q⟩
  · exact ⟨φ, α', τ, μ', sr.step st, m, q⟩
  · exact ⟨φ, α', τ, μ', sr.step st, m, q⟩
theorem ss_set (C : Sk D W Γ X k) {x : Str} {i : Nat} {p0 : Pos} (hi : idx Γ.N x = some i) (hs : swapsWith a (some (.Name x p0)) pos.line X.env = pure false) (ha : PE X a (rdE D W f)) : PS X (.Assign [.Name x p0] a pos) (rdS D W (sSet i f)) := by
  rintro pins s σ H E I ⟨φ, α, τ, μ, sr, mr, p⟩
  have hx := idx_mem hi
  refine ps_set (i := i) (X := X) (by rw [C.hN]; exact C.nd) (by rw [C.hN]; exact idx_get hi) (C.sto x hx).1 ha hs (C.sto x hx).2 pins s σ H E I ⟨φ, α, τ, μ, sr, mr, (PostS.out sr p).mono fun t μ' α' H' st m q v d => ?_⟩
  exact PostS.nx q (Stp.refl _ _) m ((sr.step st).set d)
theorem idxs_mem {N : List Str} : ∀ {es : List Expr} {is : List Nat}, idxs N es = some is → ∀ e ∈ es, ∀ x p, e = .Name x p → x ∈ N
  | [], _, _, e, he, _, _, _ => absurd he (by simp)
  | e0 :: es, is, h, e, he, x, p, hx => by
    cases e0 with
    | Name y p0 =>
      simp only [idxs] at h
      split at h
      · rename_i i is' hi his
        rcases List.mem_cons.mp he with rfl | he
        · cases hx; exact idx_mem hi
        · exact idxs_mem his e he x p hx
      · cases h
    | _ => simp [idxs] at h
theorem tgOf_mem {N : List Str} {e : Expr} {tgt : Tg} (h : tgOf N e = some tgt) : ∀ x ∈ tgNames e, x ∈ N := by
  intro x hx
  cases e with
  | Name y p =>
    simp [tgNames] at hx
    subst hx
    simp only [tgOf] at h
    cases q : idx N x with
    | none => rw [q] at h; cases h
    | some i => exact idx_mem q
  | Tuple es kk p =>
    obtain ⟨e, he, q⟩ := List.mem_filterMap.mp hx
    simp only [tgOf] at h
    cases q2 : idxs N es with
    | none => rw [q2] at h; cases h
    | some is =>
      cases e with
      | Name y p0 =>
        have q : some y = some x := q
        cases q
        exact idxs_mem q2 _ he x p0 rfl
      | _ => cases q
  | _ => simp [tgNames] at hx
theorem sg_of (C : Sk D W Γ X k) (hc : X.calm = true) {tg : Expr} {tgt : Tg} (ht : tgOf Γ.N tg = some tgt) : PG X tg (fun v σ H Q => ∃ φ α τ t τ', SRel D φ α H τ σ ∧ Den D φ α H t v ∧ asg tgt t τ = some τ' ∧ ∀ σ', SRel D φ α H τ' σ' → Q σ' H) := by
  rintro pins s σ H v u Q I r ⟨φ, α, τ, t, τ', sr, d, ha, q⟩
  refine thn (asg_ok (S := Γ.N) C.hN C.nd C.sto hc (tgOf_mem ht) ht ha I sr d r) ?_
  rintro _ s1 ⟨σ', I1, sr'⟩
  exact ⟨σ', H, I1, q σ' sr'⟩
def plainTup : Expr → Bool
  | .Call _ _ _ _ => true
  | .Name _ _ => true
  | .Subscript _ _ _ => true
  | .Attribute _ _ _ => true
  | _ => false
theorem ss_tup (C : Sk D W Γ X k) (hc : Γ.calm = true) {es : List Expr} {is : List Nat} {kk : Nat} {p0 : Pos} (hp : plainTup a = true) (hn : idxs Γ.N es = some is) (ha : PE X a (rdE D W f)) : PS X (.Assign [.Tuple es kk p0] a pos) (rdS D W (sTup is f)) := by
  rintro pins s σ H E I ⟨φ, α, τ, μ, sr, mr, p⟩
  have h1 : swapsWithSole [.Tuple es kk p0] a pos.line X.env = pure false := by cases a <;> first | (simp [plainTup] at hp; done) | rfl
  have h2 : swappedStores [.Tuple es kk p0] a X.env = pure none := by cases a <;> first | (simp [plainTup] at hp; done) | rfl
  refine ps_asg ha (sg_of C (C.clm hc) (tg := .Tuple es kk p0) (tgt := .tup is) (by simp [tgOf, hn])) h1 h2 rfl pins s σ H E I ⟨φ, α, τ, μ, sr, mr, (PostS.out sr p).mono fun t μ' α' H' st m q v d => ?_⟩
  obtain ⟨τ', h, q⟩ := PostS.som q
  exact ⟨φ, α', τ, t, τ', sr.step st, d, h, fun σ' sr' => PostS.nx q (Stp.refl _ _) m sr'⟩
theorem ss_fld (C : Sk D W Γ X k) {o : Expr} {x : Str} {n : Nat} {p1 : Pos} {go : De} (hn : (x, n) ∈ Γ.fld) (ha : PE X a (rdE D W f)) (ho : PE X o (rdE D W go)) :
    PS X (.Assign [.Attribute o x p1] a pos) (rdS D W (sFld go n f)) := by
  rintro pins s σ H E I ⟨φ, α, τ, μ, sr, mr, p⟩
  have hs : swapsWith a (some (.Attribute o x p1)) pos.line X.env = pure false := by cases a <;> rfl
  refine ps_fld ho ha hs pins s σ H E I ⟨φ, α, τ, μ, sr, mr, (PostS.out sr p).mono fun t μ1 α1 H1 st1 m1 q v d => ?_⟩
  have sr1 := sr.step st1
  refine ⟨φ, α1, τ, μ1, sr1, m1, (PostS.out sr1 q).mono fun ot μ2 α2 H2 st2 m2 q2 ov dv => ?_⟩
  split at q2
  case h_2 => exact PostS.elim q2
  rename_i i
  obtain ⟨c, fs, hμ, hl, q2⟩ := PostS.ex2 q2
  obtain ⟨y, hx, rfl⟩ := dv
  obtain ⟨C0, dx, gs, ad, hH, df⟩ := m2.ob i y _ hx hμ
  obtain ⟨fx, cl, na⟩ := C.fld c C0 x n ad hn
  refine ⟨y, C0, dx, gs, rfl, hH, cl, na, by rw [← df.length]; omega, ?_⟩
  have st3 : Stp α2 H2 α2 (upd H2 y (.ins C0 dx (putF x v gs))) := Stp.turn (List.mem_of_getElem? hx) ⟨_, hH⟩
  have hi : i < μ2.length := (List.getElem?_eq_some_iff.mp hμ).1
  exact PostS.nx q2 st3 (m2.turn hx hi st3 ⟨C0, dx, _, ad, upd_same, DenF.put fx (df.step st3) ((d.step st2).step st3)⟩) ((sr1.step st2).step st3)
theorem set_list : PSet X (fun o i v H Q => ∃ l k xs, o = .ref l ∧ i = .int k ∧ H l = some (.lst xs) ∧ 0 ≤ k ∧ k < xs.length ∧ k < 9223372036854775808 ∧ Q (upd H l (.lst (xs.set k.toNat v)))) := by
  intro pins s σ H o i v ov iv u Q I ro ri rv h
  obtain ⟨l, k, xs, rfl, rfl, hH, h0, h1, h2, q⟩ := h
  cases ro
  obtain ⟨t, rfl⟩ := ri
  obtain ⟨z, its, n, r, hl, e⟩ := I.lstM hH
  refine PySem.W.ki_setAt (n := n) (items := its.toArray) e h0 (by simpa using h2) (by rw [List.size_toArray, ← hl]; exact h1) ?_
  exact ⟨_, I.lset (t' := s.toks) (ys := xs.set k.toNat v) (its' := its.set k.toNat u) (f := fun a => a.setIfInBounds k.toNat u) hH e (by simp) (Vals.set rv _ r) (by rw [List.length_set]; exact z), q⟩
theorem ss_put (C : Sk D W Γ X k) {o : Expr} {p1 : Pos} {fo fb : De} (hb' : plainIx b = true) (ha : PE X a (rdE D W f)) (ho : PE X o (rdE D W fo)) (hb : PE X b (rdE D W fb)) :
    PS X (.Assign [.Subscript o b p1] a pos) (rdS D W (sPut fo fb f)) := by
  rintro pins s σ H E I ⟨φ, α, τ, μ, sr, mr, p⟩
  have h1 : swapsWithSole [.Subscript o b p1] a pos.line X.env = pure false := by cases a <;> rfl
  have h2 : swappedStores [.Subscript o b p1] a X.env = pure none := by cases a <;> rfl
  refine ps_asg ha (pg_sub ho hb set_list (fun v => by cases b <;> first | (simp [plainIx] at hb'; done) | rfl)) h1 h2 rfl pins s σ H E I ⟨φ, α, τ, μ, sr, mr, (PostS.out sr p).mono fun t μ1 α1 H1 st1 m1 q v d => ?_⟩
  have sr1 := sr.step st1
  refine ⟨φ, α1, τ, μ1, sr1, m1, (PostS.out sr1 q).mono fun ot μ2 α2 H2 st2 m2 q2 ov dv => ?_⟩
  have sr2 := sr1.step st2
  refine ⟨φ, α2, τ, μ2, sr2, m2, (PostS.out sr2 q2).mono fun it μ3 α3 H3 st3 m3 q3 iv di => ?_⟩
  have d3 := (d.step st2).step st3
  split at q3
  case h_2 => exact PostS.elim q3
  rename_i i kk
  have dv := dv.step st3
  obtain ⟨ts, hμ, hk, q3⟩ := PostS.ex1 q3
  obtain ⟨x, hx, rfl⟩ := dv
  have di : iv = .int kk := di
  subst di
  obtain ⟨xs, hH, l⟩ := m3.ob i x _ hx hμ
  have st4 : Stp α3 H3 α3 (upd H3 x (.lst (xs.set kk.toNat v))) := Stp.turn (List.mem_of_getElem? hx) ⟨_, hH⟩
  have hi : i < μ3.length := (List.getElem?_eq_some_iff.mp hμ).1
  exact ⟨x, kk, xs, rfl, rfl, hH, hk.1, by rw [← l.length]; exact hk.2.1, hk.2.2, PostS.nx q3 st4 (m3.turn hx hi st4 ⟨_, upd_same, DenL.set (l.step st4) (d3.step st4)⟩) ((sr2.step st3).step st4)⟩
theorem ss_for (C : Sk D W Γ X k) (hc : Γ.calm = true) {tg iter : Expr} {tgt : Tg} (ht : tgOf Γ.N tg = some tgt) {fi : Di} {body : List Stmt} {vs : List Ds} (hi : PI X tg iter (rdI D W fi)) (hb : SsOk X D W body vs) (hs : ∀ x, foldedSetIterable iter X.env x = pure x) :
    PS X (.For tg iter body [] pos) (rdS D W (sFor tgt fi vs)) := by
  rintro pins s σ H E I ⟨φ, α, τ, μ, sr, mr, p⟩
  refine ps_for C.pso (C.clm hc) hi (sg_of C (C.clm hc) ht) (sss_all hb) hs pins s σ H E I ⟨φ, α, τ, μ, sr, mr, (PostS.out sr (show PostS D W φ α H E ((fi τ μ).re.out τ fun pr μ1 => forM tgt (blks vs) pr.2 pr.1 τ μ1) from p)).mono fun pr μ1 α1 H1 st1 m1 q J Ok iv okk lv1 => ?_⟩
  obtain ⟨xs, o⟩ := pr
  obtain ⟨Q, q, h1, h2, h3, h4, h5⟩ := q
  refine ⟨fun i m σ' H' => m = xs.length - i ∧ i ≤ xs.length ∧ ∃ α' τ' μ', Stp α1 H1 α' H' ∧ MRel D φ α' H' μ' ∧ SRel D φ α' H' τ' σ' ∧ o μ' ∧ forM tgt (blks vs) o (xs.drop i) τ' μ' Q, ⟨xs.length, by simp, Nat.zero_le _, α1, τ, μ1, Stp.refl _ _, m1, sr.step st1, lv1, by simpa using q⟩, ?_⟩
  rintro i m σ' H' ⟨rfl, hi', α', τ', μ', stp, mr', sr', lv', pf⟩
  have okH : Ok φ α' H' := okk _ α' H' μ' stp.lk mr' lv'
  by_cases hlt : i < xs.length
  · refine .inr ⟨iv.go i _ _ H' okH hlt, fun σ2 H2 => ∃ α2 τ2 μ2, Stp α1 H1 α2 H2 ∧ MRel D φ α2 H2 μ2 ∧ SRel D φ α2 H2 τ2 σ2 ∧ o μ2 ∧ forM tgt (blks vs) o (xs.drop (i + 1)) τ2 μ2 Q, fun σ2 H2 h2 => ⟨xs.length - (i + 1), by omega, rfl, hlt, h2⟩, fun x H2 y => ?_⟩
    obtain ⟨sm, dx⟩ := iv.yld i _ _ H' x H2 xs[i] okH (by simp [hlt]) y
    have stp := stp.trans (Stp.new (α := α') sm)
    have sr' := sr'.step (Stp.new (α := α') sm)
    have mr' := mr'.new sm
    rw [List.drop_eq_getElem_cons hlt] at pf
    obtain ⟨τ3, ha, pf⟩ := pf
    refine ⟨φ, α', τ', xs[i], τ3, sr', dx, ha, fun σ3 sr3 => ⟨φ, α', τ3, μ', sr3, mr', _, pf, ?_, ?_, ?_, ?_, ?_⟩⟩
    · exact fun τ4 μ4 e α4 H4 σ4 st4 m4 sr4 => ⟨α4, τ4, μ4, stp.trans st4, m4, sr4, e⟩
    · exact fun τ4 μ4 e α4 H4 σ4 st4 m4 sr4 => h1 τ4 μ4 e α4 H4 σ4 (stp.trans st4) m4 sr4
    · exact fun τ4 μ4 e α4 H4 σ4 st4 m4 sr4 => ⟨α4, τ4, μ4, stp.trans st4, m4, sr4, e⟩
    · exact fun t μ4 e α4 H4 v st4 m4 d4 => h4 t μ4 e α4 H4 v (stp.trans st4) m4 d4
    · exact fun c fs τ4 μ4 e α4 H4 σ4 Cc d st4 m4 sr4 => h5 c fs τ4 μ4 e α4 H4 σ4 Cc d (stp.trans st4) m4 sr4
  · have hie : i = xs.length := by omega
    rw [hie, List.drop_length] at pf
    exact .inl ⟨by rw [hie]; exact iv.stop _ _ H' okH, h1 τ' μ' pf α' H' σ' stp mr' sr'⟩
theorem ss_comp (C : Sk D W Γ X k) (hc : Γ.calm = true) {tg iter elt : Expr} {sc : Scope} {fi : Di} {fs : List Nat} {tgt : Tg} {ifs : List Expr} {cs : List Dt} {fe : De} {x : Str} {ix : Nat} {p0 p1 : Pos} (hix : idx Γ.N x = some ix) (ok : CompOk Γ.N Γ.cel tg sc) (hfs : idxF Γ.N (frees sc) = some fs) (htg : tgOf (tgNames tg ++ frees sc) tg = some tgt) (hi : PI X tg iter (rdI D W fi)) (hel : ∀ X' W', Ck D W' (inComp Γ tg sc) X' k → PE X' elt (rdE D W' fe)) (hts : ∀ X' W', Ck D W' (inComp Γ tg sc) X' k → TsOk X' D W' ifs cs) (hs : ∀ x, foldedSetIterable iter X.env x = pure x)
    (own : Bool) (hsw : swapsWith (.ListComp elt [⟨tg, iter, ifs, 0⟩] sc p1) (some (.Name x p0)) pos.line X.env = pure true) :
    PS X (.Assign [.Name x p0] (.ListComp elt [⟨tg, iter, ifs, 0⟩] sc p1) pos) (rdS D W (sSet ix (match own with | true => eCompL (tgNames tg).length fs tgt fi cs fe | false => eComp (tgNames tg).length fs tgt fi cs fe))) := by
  rintro pins s σ H E I ⟨φ, α, τ, μ, sr, mr, p⟩
  rw [exec_Assign_Name_used _ _ _ _ hsw]
  refine wpAny_bind (wpAny_standAt (wpAny_bind ?_))
  show wpAny _ _ (do let _ ← comprehension (.ListComp elt [⟨tg, iter, ifs, 0⟩] sc p1) sc X.env _ (newList []) false (eval iter X.env) (some (assign (.Name x p0) X.env))) _ _ s
  refine wpAny_bind (thn (comp_core (kk := fun ys μ => match own with | true => RE.ok (T.mut μ.length) (μ ++ [MO.lst ys]) | false => RE.ok (T.lst ys) μ) (use := some (assign (.Name x p0) X.env)) (Qf := fun _ s' => ∃ σ' H', Inv X pins σ' H' s' ∧ E.nx σ' H') C.toCk hc ok hfs htg hi hel hts hs I sr mr (PostS.out sr (by cases own <;> exact p)) ?_) fun _ s' hq => wpAny_pure (wpAny_pure hq))
  rintro acc C0 s' α1 H1 H' α' ys vs μ' I' st1 st hn nph nal sr' m ha dl post xo hp ⟨mm, hm⟩
  have hx := idx_mem hix
  obtain ⟨oc, es, ep, hoc, hdc, hrest⟩ := hm
  have I2 : Inv X (pins ++ [(C0, oc)]) σ H' s' := I'.pins_of fun p hp' => (List.mem_append.mp hp').elim (fun z => I'.pin p (List.mem_append_right _ z)) fun z => by
    rw [List.mem_singleton.mp z]
    exact ⟨hoc, xo.free, xo.loc, xo.nfs, fun v e => by rw [hdc] at e; cases e⟩
  have fin : ∀ {α'' : List Addr} {t : T} {μ2 : Mem}, SRel D φ α'' H' τ σ → Den D φ α'' H' t (.ref acc) → (∀ σ', SRel D φ α'' H' (setS τ ix (some t)) σ' → E.nx σ' H') → wpAny (model X.prog X.w) X.A (assign (.Name x p0) X.env (.ref acc)) (fun _ t2 => ∃ m, t2.heap.Ns C0 m ∧ ∀ g, Heap.SameBut C0 t2.heap g → ∃ σ' H', Inv X pins σ' H' { t2 with heap := g } ∧ E.nx σ' H') X.xe s' := fun {α'' t μ2} sr2 d q => by
    refine thn (asg_ok (e := .Name x p0) (S := Γ.N) (tgt := .one ix) (t := t) (τ := τ) C.hN C.nd C.sto (C.clm hc) (fun y hy => by simp [tgNames] at hy; rw [hy]; exact hx) (by simp [tgOf, hix]) rfl I2 sr2 d (show RelV (.ref acc) (.ref acc) from rfl)) ?_
    rintro _ s2 ⟨σ', I3, sr3⟩
    have hpin := (I3.pin (C0, oc) (List.mem_append_right _ (List.mem_append_right _ (List.mem_singleton.mpr rfl)))).1
    refine ⟨mm, ⟨oc, es, ep, hpin, hdc, hrest⟩, fun g sb => ⟨σ', H', ?_, q σ' sr3⟩⟩
    exact inv_but (I3.pins_of fun p hp' => I3.pin p (List.mem_append_right _ (List.mem_append_left _ hp'))) xo hp sb
  cases own with
  | false =>
    obtain ⟨m2, d, post⟩ := blk_tree (kk := fun t μ => RE.ok t μ) st hn nph m ha dl post
    exact fin (μ2 := μ') (sr'.lk look_less) d fun σ' sr3 => PostS.nx (post.ok (Stp.refl _ _) m2) (Stp.refl _ _) m2 sr3
  | true =>
    obtain ⟨st2, m2, d⟩ := blk_store st hn nph m ha dl
    exact fin (μ2 := μ') (sr'.lk look_adopt) d fun σ' sr3 => PostS.nx (post.ok st2 m2) (Stp.refl _ _) m2 sr3
end
end NH
end
section
set_option linter.all false
set_option maxRecDepth 100000
set_option maxHeartbeats 4000000
namespace NH
open PySem PySem.Spec PyProof.Rows L2
def XcCls (C : Addr) (h : Heap) : Prop := ∃ tl N nm q bs hd sn sub ab col dd k0 k1 k2 k3 k5 mN, h.get? C = some (excClassObj nm q C N bs tl hd sn sub ab col dd k0 k1 k2 k3 k5 "ValueError.__new__") ∧ h.Ns N mN ∧ mN "__init__" = none ∧ OwnTail h veMro tl
theorem xcCls_of {K : PySem.W.Frag} {h : Heap} {C : Addr} (kin : K.In h) (e : PySem.W.excIn K C veMro "ValueError.__new__" = true) : XcCls C h := by
  simp only [PySem.W.excIn] at e
  revert e
  cases hk : K.lookup C with
  | none => intro e; cases e
  | some o =>
    intro e
    split at e
    case h_2 => cases e
    rename_i dd cd sl ho
    cases ho
    split at e
    case h_2 => cases e
    rename_i C' tl k0 k1 k2 k3 n k5 hm hs
    simp only [Bool.and_eq_true, beq_iff_eq, Bool.not_eq_true'] at e
    obtain ⟨⟨⟨⟨⟨e1, e2⟩, e3⟩, e4⟩, e5⟩, e6⟩ := e
    cases cd
    rename_i nm bs mro ns qn hd sn sub ab col del
    simp only at hm e3 e5 e6
    cases e1; cases e2; cases hm; cases e3
    have hsl : sl = #[k0, k1, k2, k3, some (.builtin "ValueError.__new__"), k5] := by
      cases sl; simp only at hs; rw [hs]
    cases hsl
    exact ⟨tl, ns, nm, qn, bs, hd, sn, sub, ab, col, dd, k0, k1, k2, k3, k5, h.nsMap ns, kin _ _ hk, .of_isNs (PySem.W.isNs_of_in kin e5), PySem.W.nsMap_none_of_in kin e5 e6, PySem.W.tail_of_in kin e4⟩
section
variable {X : Cx} {pins : List (Addr × Obj)} {s : Shared} {σ : St} {H : Hp}
end
section
variable {X : Cx} {D : DP} {W : XW} {Γ : Cn} {k : Nat} {pins : List (Addr × Obj)} {s : Shared} {σ : St} {H : Hp} {φ α : List Addr} {τ : Sl} {μ : Mem} {a b c e : Expr} {pos : Pos} {E : Ends} {es : List Expr} {fs : List De}
theorem ss_raise (C : Sk D W Γ X k) (hc : Γ.calm = true) {x : Str} {n : Nat} {p0 p1 : Pos} (hx : x ∈ Γ.G) (hg : Γ.gl x = .xcl n) (ha : EsOk X D W (a :: es) fs) :
    PS X (.Raise (some (.Call (.Name x p0) (a :: es) [] p1)) none pos) (rdS D W (sRaise n fs)) := by
  rintro pins s σ H E I ⟨φ, α, τ, μ, sr, mr, p⟩
  have q := C.glo x hx
  rw [hg] at q
  obtain ⟨C0, ad, hm, hex⟩ := q
  have hs := ha.stars
  obtain ⟨tl, N, nm, qn, bs, hd, sn, sub, ab, col, dd, k0, k1, k2, k3, k5, mN, o1, o2, o3, o4⟩ := xcCls_of I.ok.mod.kin hex
  have hb : tl.contains (.type "BaseException") = true := o4.hasType PySem.F.excBase_ValueError.hasBase
  have hp : (backTo p1 (starEach (a :: es) X.env)).any (·.1) = false := noStars hs
  refine wpAny_Raise_call_subT (nm := nm) (q := qn) (C := C0) (N := N) (bs := bs) (bm := tl) (hdct := hd) (sn := sn) (sub := sub) (ab := ab) (col := col) (dd := dd) (k0 := k0) (k1 := k1) (k2 := k2) (k3 := k3) (k5 := k5) (mN := mN) PySem.F.excBase_ValueError hb (I.ok.hd (C.clm hc)) hp o3 ?_
  refine ld_glob I (C.glb x hx) hm ⟨rfl, ?_⟩ (C.dbG x hx)
  have hs1 : noStar a = true := by simp only [List.all_cons, Bool.and_eq_true] at hs; exact hs.1
  have sA := thn (sa_all ha p1 pins s σ H (fun vs H1 => ∃ ts μ1 α1, Stp α H α1 H1 ∧ SRel D φ α1 H1 τ σ ∧ MRel D φ α1 H1 μ1 ∧ DenL D φ α1 H1 ts vs ∧ PostS D W φ α1 H1 E (.grd (ts.length ≤ room) (.ex n [] τ μ1))) I ⟨φ, α, τ, μ, sr, mr, (PostS.out sr p).mono fun ts μ' α' H' st m q vs d _ => ⟨ts, μ', α', st, sr.step st, m, d, q⟩⟩) (Q' := fun us s1 => us.length ≤ sizeLine ∧ s1.heap.get? C0 = some (excClassObj nm qn C0 N bs tl hd sn sub ab col dd k0 k1 k2 k3 k5 "ValueError.__new__") ∧ s1.heap.Ns N mN ∧ OwnTail s1.heap veMro tl ∧ ∀ h' e, Heap.MadeExcOf s1.heap h' e (.ref C0) us → X.xe (.ref e) { s1 with heap := h' }) ?_
  · rw [noStar_of hs1] at sA ⊢
    exact Calls.evalArgs_plain (thn sA fun us s1 h1 => ⟨rfl, h1⟩)
  · rintro us s1 ⟨vs, H1, I1, r, ts, μ1, α1, st, sr1, m1, dl, q⟩
    obtain ⟨hl, q⟩ := PostS.grd q
    refine ⟨?_, I1.bk _ _ o1, o2.keeps I1.bk, o4.keeps I1.bk, fun h' e mk => ?_⟩
    · have e1 := dl.length
      have e2 := r.length
      have := room_line hl
      rw [← e2, ← e1]
      exact this
    · exact C.xe _ _ (xp_made I1 mk (PostS.ex q (Stp.refl _ _) m1 sr1 ad rfl))
end
end NH
end
section
set_option linter.all false
set_option maxRecDepth 100000
set_option maxHeartbeats 4000000
namespace NH
open PySem PySem.Spec PyProof.Rows L2
structure Rec where
  e : Cn → Expr → Option De
  t : Cn → Expr → Option Dt
  w : Cn → Expr → Option Dt
  i : Cn → Expr → Option Di
  o : Cn → Expr → Option De
  s : Cn → Stmt → Option Ds
abbrev ER := Rec → Cn → Expr → Option De
abbrev TR := Rec → Cn → Expr → Option Dt
abbrev IR := Rec → Cn → Expr → Option Di
abbrev SR := Rec → Cn → Stmt → Option Ds
structure Rules where
  e : List ER
  t : List TR
  w : List TR
  i : List IR
  o : List ER
  s : List SR
def fstR {α β : Type} : List (Rec → Cn → α → Option β) → Rec → Cn → α → Option β
  | [], _, _, _ => none
  | f :: fs, r, Γ, e => match f r Γ e with
    | some d => some d
    | none => fstR fs r Γ e
def comp (R : Rules) : Nat → Rec
  | 0 => ⟨fun _ _ => none, fun _ _ => none, fun _ _ => none, fun _ _ => none, fun _ _ => none, fun _ _ => none⟩
  | n + 1 => ⟨fstR R.e (comp R n), fstR R.t (comp R n), fstR R.w (comp R n), fstR R.i (comp R n), fstR R.o (comp R n), fstR R.s (comp R n)⟩
def okTg (tg e : Expr) : Bool := match e with
  | .Call (.Name x _) _ _ _ => (x != ("enumerate" : Str) && x != ("zip" : Str)) || (match tg with | .Tuple _ _ _ => true | _ => false)
  | _ => true
structure RecOk (D : DP) (r : Rec) : Prop where
  e : ∀ {X W Γ k e f}, Ck D W Γ X k → r.e Γ e = some f → PE X e (rdE D W f)
  t : ∀ {X W Γ k e f}, Ck D W Γ X k → r.t Γ e = some f → PT X e (rdT D W f)
  w : ∀ {X W Γ k e f}, Ck D W Γ X k → r.w Γ e = some f → PW X e (rdT D W f)
  i : ∀ {X W Γ k tg e f}, Ck D W Γ X k → okTg tg e = true → r.i Γ e = some f → PI X tg e (rdI D W f)
  o : ∀ {X W Γ k e f}, Ck D W Γ X k → r.o Γ e = some f → PE X e (rdE D W f)
  s : ∀ {X W Γ k e f}, Sk D W Γ X k → r.s Γ e = some f → PS X e (rdS D W f)
def EOk (D : DP) (f : ER) : Prop := ∀ r, RecOk D r → ∀ {X W Γ k e d}, Ck D W Γ X k → f r Γ e = some d → PE X e (rdE D W d)
def TOk (D : DP) (f : TR) : Prop := ∀ r, RecOk D r → ∀ {X W Γ k e d}, Ck D W Γ X k → f r Γ e = some d → PT X e (rdT D W d)
def WOk (D : DP) (f : TR) : Prop := ∀ r, RecOk D r → ∀ {X W Γ k e d}, Ck D W Γ X k → f r Γ e = some d → PW X e (rdT D W d)
def IOk (D : DP) (f : IR) : Prop := ∀ r, RecOk D r → ∀ {X W Γ k tg e d}, Ck D W Γ X k → okTg tg e = true → f r Γ e = some d → PI X tg e (rdI D W d)
def SOk (D : DP) (f : SR) : Prop := ∀ r, RecOk D r → ∀ {X W Γ k e d}, Sk D W Γ X k → f r Γ e = some d → PS X e (rdS D W d)
def AllOk {α : Type} (P : α → Prop) : List α → Prop
  | [] => True
  | f :: fs => P f ∧ AllOk P fs
structure RulesOk (D : DP) (R : Rules) : Prop where
  e : AllOk (EOk D) R.e
  t : AllOk (TOk D) R.t
  w : AllOk (WOk D) R.w
  i : AllOk (IOk D) R.i
  o : AllOk (EOk D) R.o
  s : AllOk (SOk D) R.s
theorem fstR_ok {α β : Type} {P : (Rec → Cn → α → Option β) → Prop} {C : Prop} {r : Rec} {Γ : Cn} {e : α} {d : β} : ∀ {fs : List (Rec → Cn → α → Option β)}, AllOk P fs → (∀ f, P f → f r Γ e = some d → C) → fstR fs r Γ e = some d → C
  | [], _, _, h => by cases h
  | f :: fs, a, k, h => by
    unfold fstR at h
    cases q : f r Γ e with
    | some d' => rw [q] at h; cases h; exact k f a.1 q
    | none => rw [q] at h; exact fstR_ok a.2 k h
theorem comp_ok {D : DP} {R : Rules} (H : RulesOk D R) : ∀ n, RecOk D (comp R n)
  | 0 => ⟨fun _ h => (by cases h), fun _ h => (by cases h), fun _ h => (by cases h), fun _ _ h => (by cases h), fun _ h => (by cases h), fun _ h => (by cases h)⟩
  | n + 1 => ⟨fun C h => fstR_ok H.e (fun f p q => p _ (comp_ok H n) C q) h, fun C h => fstR_ok H.t (fun f p q => p _ (comp_ok H n) C q) h, fun C h => fstR_ok H.w (fun f p q => p _ (comp_ok H n) C q) h, fun C ht h => fstR_ok H.i (fun f p q => p _ (comp_ok H n) C ht q) h, fun C h => fstR_ok H.o (fun f p q => p _ (comp_ok H n) C q) h, fun C h => fstR_ok H.s (fun f p q => p _ (comp_ok H n) C q) h⟩
def gd {α : Type} (b : Bool) (o : Option α) : Option α := match b with
  | true => o
  | false => none
theorem gd_of {α : Type} {b : Bool} {o : Option α} {x : α} (h : gd b o = some x) : b = true ∧ o = some x := by
  cases b with
  | true => exact ⟨rfl, h⟩
  | false => cases h
theorem bnd {α β : Type} {o : Option α} {f : α → Option β} {x : β} (h : o.bind f = some x) : ∃ a, o = some a ∧ f a = some x := Option.bind_eq_some_iff.mp h
def mapE {α β : Type} (f : α → Option β) : List α → Option (List β)
  | [] => some []
  | a :: r => (f a).bind fun b => (mapE f r).bind fun bs => some (b :: bs)
def cEs (r : Rec) (Γ : Cn) (es : List Expr) : Option (List De) := mapE (fun e => gd (noStar e) (r.e Γ e)) es
section
variable {D : DP} {r : Rec} {X : Cx} {W : XW} {Γ : Cn} {k : Nat}
theorem cEs_ok (h : RecOk D r) (C : Ck D W Γ X k) : ∀ {es : List Expr} {fs : List De}, cEs r Γ es = some fs → EsOk X D W es fs
  | [], fs, e => by cases e; trivial
  | a :: es, fs, e => by
    obtain ⟨f, h1, e⟩ := bnd e
    obtain ⟨gs, h2, e⟩ := bnd e
    cases e
    obtain ⟨h3, h4⟩ := gd_of h1
    exact ⟨h3, h.e C h4, cEs_ok h C h2⟩
theorem mapT_ok (h : RecOk D r) (C : Ck D W Γ X k) : ∀ {es : List Expr} {fs : List Dt}, mapE (r.t Γ) es = some fs → TsOk X D W es fs
  | [], fs, e => by cases e; trivial
  | a :: es, fs, e => by
    obtain ⟨f, h1, e⟩ := bnd e
    obtain ⟨gs, h2, e⟩ := bnd e
    cases e
    exact ⟨h.t C h1, mapT_ok h C h2⟩
theorem mapS_ok (h : RecOk D r) (C : Sk D W Γ X k) : ∀ {es : List Stmt} {fs : List Ds}, mapE (r.s Γ) es = some fs → SsOk X D W es fs
  | [], fs, e => by cases e; trivial
  | a :: es, fs, e => by
    obtain ⟨f, h1, e⟩ := bnd e
    obtain ⟨gs, h2, e⟩ := bnd e
    cases e
    exact ⟨h.s C h1, mapS_ok h C h2⟩
end
def rCon : ER := fun _ _ e => match e with
  | .Constant c _ _ => (match c with
    | .int i => some (eC (.int i))
    | .bool b => some (eC (.bl b))
    | .none => some (eC .non)
    | .str x => some (eC (.str x))
    | _ => none)
  | _ => none
theorem rCon_ok {D : DP} : EOk D rCon := by
  intro r H X W Γ k e d C h
  cases e with
  | Constant c j p =>
    cases c with
    | int i => cases h; exact se_int
    | bool i => cases h; exact se_bl
    | none => cases h; exact se_non
    | str i => cases h; exact se_str
    | _ => cases h
  | _ => cases h
def rNam : ER := fun _ Γ e => match e with
  | .Name x _ => (match idx Γ.N x with
    | some i => some (eV i)
    | none => (match Γ.look x with
      | .cst t => some (eC t)
      | _ => none))
  | _ => none
theorem rNam_ok {D : DP} : EOk D rNam := by
  intro r H X W Γ k e d C h
  cases e with
  | Name x p =>
    simp only [rNam] at h
    cases q : idx Γ.N x with
    | some i => rw [q] at h; cases h; exact se_var C q
    | none =>
      rw [q] at h
      cases hl : Γ.look x with
      | cst t =>
        simp only [hl] at h
        cases h
        obtain ⟨hx, hg⟩ := look_eq hl (by intro z; cases z)
        exact se_cst C hx hg
      | _ => simp [hl] at h
  | _ => cases h
def rBin : ER := fun r Γ e => match e with
  | .BinOp a op b _ => (r.e Γ a).bind fun f => (r.e Γ b).bind fun g => some (eBin op f g)
  | _ => none
theorem rBin_ok {D : DP} : EOk D rBin := by
  intro r H X W Γ k e d C h
  cases e with
  | BinOp a op b p =>
    obtain ⟨f, h1, h⟩ := bnd h
    obtain ⟨g, h2, h⟩ := bnd h
    cases h
    exact se_bin (H.e C h1) (H.e C h2)
  | _ => cases h
def rUn : ER := fun r Γ e => match e with
  | .UnaryOp op a _ => (r.e Γ a).bind fun f => (match op with
    | .USub => some (eNeg f)
    | .Not => some (eNot f)
    | _ => none)
  | _ => none
theorem rUn_ok {D : DP} : EOk D rUn := by
  intro r H X W Γ k e d C h
  cases e with
  | UnaryOp op a p =>
    obtain ⟨f, h1, h⟩ := bnd h
    cases op with
    | USub => cases h; exact se_neg (H.e C h1)
    | Not => cases h; exact se_not (H.e C h1)
    | _ => cases h
  | _ => cases h
def rBool : ER := fun r Γ e => match e with
  | .BoolOp op es p => (match es with
    | [a] => r.e Γ a
    | a :: b :: l => (r.e Γ a).bind fun f => (r.e Γ (.BoolOp op (b :: l) p)).bind fun g => some (match op with | .And => eAnd f g | .Or => eOr f g)
    | [] => none)
  | _ => none
theorem rBool_ok {D : DP} : EOk D rBool := by
  intro r H X W Γ k e d C h
  cases e with
  | BoolOp op es p =>
    match es with
    | [] => cases h
    | [a] => exact se_one (H.e C h)
    | a :: b :: l =>
      obtain ⟨f, h1, h⟩ := bnd h
      obtain ⟨g, h2, h⟩ := bnd h
      cases h
      cases op with
      | And => exact se_and (H.e C h1) (H.e C h2)
      | Or => exact se_or (H.e C h1) (H.e C h2)
  | _ => cases h
def chs (r : Rec) (Γ : Cn) : List CmpOp → List Expr → Option (List (CmpOp × De))
  | [], [] => some []
  | op :: ops, e :: es => gd (bySize op) ((r.e Γ e).bind fun f => (chs r Γ ops es).bind fun ps => some ((op, f) :: ps))
  | _, _ => none
theorem chs_ok {D : DP} {r : Rec} {X : Cx} {W : XW} {Γ : Cn} {k : Nat} (H : RecOk D r) (C : Ck D W Γ X k) : ∀ {ops : List CmpOp} {es : List Expr} {ps : List (CmpOp × De)}, chs r Γ ops es = some ps → ChOk X D W es ps ∧ ps.map (·.1) = ops ∧ ps.all (fun p => bySize p.1) = true
  | [], [], ps, h => by cases h; exact ⟨trivial, rfl, rfl⟩
  | [], _ :: _, ps, h => by cases h
  | _ :: _, [], ps, h => by cases h
  | op :: ops, e :: es, ps, h => by
    obtain ⟨hb, h⟩ := gd_of h
    obtain ⟨f, h1, h⟩ := bnd h
    obtain ⟨qs, h2, h⟩ := bnd h
    cases h
    obtain ⟨k1, k2, k3⟩ := chs_ok H C h2
    exact ⟨⟨H.e C h1, k1⟩, by simp [k2], by simp [hb, k3]⟩
def cmpD (r : Rec) (Γ : Cn) (a : Expr) (ops : List CmpOp) (es : List Expr) : Option De := (r.e Γ a).bind fun f => (match ops, es with
  | [op], [b] => gd (okCmp op b) ((r.e Γ b).bind fun g => some (eCmp op f g))
  | _ :: _ :: _, _ :: _ :: _ => (chs r Γ ops es).bind fun ps => some (eCh f ps)
  | _, _ => none)
theorem cmpD_ok {D : DP} {r : Rec} {X : Cx} {W : XW} {Γ : Cn} {k : Nat} (H : RecOk D r) (C : Ck D W Γ X k) {a : Expr} {ops : List CmpOp} {es : List Expr} {p : Pos} {d : De} (h : cmpD r Γ a ops es = some d) : PE X (.Compare a ops es p) (rdE D W d) ∧ PT X (.Compare a ops es p) (rdT D W (tE d)) := by
  obtain ⟨f, h1, h⟩ := bnd h
  match ops, es with
  | [op], [b] =>
    obtain ⟨ho, h⟩ := gd_of h
    obtain ⟨g, h2, h⟩ := bnd h
    cases h
    exact ⟨se_cmp C ho (H.e C h1) (H.e C h2), stest_cmp1 C ho (H.e C h1) (H.e C h2)⟩
  | op :: op' :: ops, e :: e' :: es =>
    obtain ⟨ps, h2, h⟩ := bnd h
    cases h
    obtain ⟨k1, k2, k3⟩ := chs_ok H C h2
    match ps with
    | [] => cases k2
    | [p1] => simp at k2
    | p1 :: p2 :: ps =>
      simp only [List.map_cons, List.cons.injEq] at k2
      obtain ⟨rfl, rfl, rfl⟩ := k2
      exact ⟨se_chain C k3 (H.e C h1) k1, stest_chain C k3 (H.e C h1) k1⟩
  | [], es => cases h
  | [_], [] => cases h
  | [_], _ :: _ :: _ => cases h
  | _ :: _ :: _, [] => cases h
  | _ :: _ :: _, [_] => cases h
def rCmp : ER := fun r Γ e => match e with
  | .Compare a ops es _ => cmpD r Γ a ops es
  | _ => none
theorem rCmp_ok {D : DP} : EOk D rCmp := by
  intro r H X W Γ k e d C h
  cases e with
  | Compare a ops es p => exact (cmpD_ok H C h).1
  | _ => cases h
def rFld : ER := fun r Γ e => match e with
  | .Attribute a x _ => gd (plainOb a) ((r.e Γ a).bind fun f => (Γ.fld.lookup x).bind fun n => some (eFld f n))
  | _ => none
theorem rFld_ok {D : DP} : EOk D rFld := by
  intro r H X W Γ k e d C h
  cases e with
  | Attribute a x p =>
    obtain ⟨hp, h⟩ := gd_of h
    obtain ⟨f, h1, h⟩ := bnd h
    obtain ⟨n, h2, h⟩ := bnd h
    cases h
    exact se_fld C hp (lookup_mem h2) (H.e C h1)
  | _ => cases h
def prt (r : Rec) (Γ : Cn) : Option Expr → Option Dp
  | none => some pN
  | some e => (r.e Γ e).bind fun f => some (pS f)
theorem prt_ok {D : DP} {r : Rec} {X : Cx} {W : XW} {Γ : Cn} {k : Nat} (H : RecOk D r) (C : Ck D W Γ X k) {o : Option Expr} {d : Dp} (h : prt r Γ o = some d) : PO X o (rdO D W d) := by
  cases o with
  | none => cases h; exact so_none
  | some e =>
    obtain ⟨f, h1, h⟩ := bnd h
    cases h
    exact so_some (H.e C h1)
def rSub : ER := fun r Γ e => match e with
  | .Subscript a b _ => (match b with
    | .Slice lo hi st _ => (match st with
      | none => (r.e Γ a).bind fun f => (prt r Γ lo).bind fun l => (prt r Γ hi).bind fun u => some (eSl f l u)
      | some _ => none)
    | b => gd (plainIx b) ((r.e Γ a).bind fun f => (r.e Γ b).bind fun g => some (eIx f g)))
  | _ => none
theorem rSub_ok {D : DP} : EOk D rSub := by
  intro r H X W Γ k e d C h
  cases e with
  | Subscript a b p =>
    have gen : ∀ {b}, gd (plainIx b) ((r.e Γ a).bind fun f => (r.e Γ b).bind fun g => some (eIx f g)) = some d → PE X (.Subscript a b p) (rdE D W d) := fun {b} h => by
      obtain ⟨hp, h⟩ := gd_of h
      obtain ⟨f, h1, h⟩ := bnd h
      obtain ⟨g, h2, h⟩ := bnd h
      cases h
      exact se_ix hp C.hK (H.e C h1) (H.e C h2)
    cases b with
    | Slice lo hi st p2 =>
      cases st with
      | some _ => cases h
      | none =>
        obtain ⟨f, h1, h⟩ := bnd h
        obtain ⟨l, h2, h⟩ := bnd h
        obtain ⟨u, h3, h⟩ := bnd h
        cases h
        exact se_slice (H.e C h1) (prt_ok H C h2) (prt_ok H C h3)
    | _ => exact gen h
  | _ => cases h
def rLst : ER := fun r Γ e => match e with
  | .List es _ => gd (decide (es.length ≤ room)) ((cEs r Γ es).bind fun fs => some (eLst fs))
  | .Tuple es _ _ => gd (decide (es.length ≤ room)) ((cEs r Γ es).bind fun fs => some (eTup fs))
  | _ => none
theorem rLst_ok {D : DP} : EOk D rLst := by
  intro r H X W Γ k e d C h
  cases e with
  | List es p =>
    obtain ⟨hl, h⟩ := gd_of h
    obtain ⟨fs, h1, h⟩ := bnd h
    cases h
    exact se_lst (of_decide_eq_true hl) (cEs_ok H C h1)
  | Tuple es kk p =>
    obtain ⟨hl, h⟩ := gd_of h
    obtain ⟨fs, h1, h⟩ := bnd h
    cases h
    exact se_tup (of_decide_eq_true hl) (cEs_ok H C h1)
  | _ => cases h
def rCal : ER := fun r Γ e => match e with
  | .Call (.Name x _) es [] _ => gd ((idx Γ.N x).isNone && Γ.calm) ((cEs r Γ es).bind fun fs => (match Γ.look x with
    | .fn g => some (eCall g fs)
    | .mk c true g => some (eMk c g fs)
    | _ => none))
  | _ => none
theorem rCal_ok {D : DP} : EOk D rCal := by
  intro r H X W Γ k e d C h
  unfold rCal at h
  split at h
  · rename_i x p0 es pos
    obtain ⟨hb, h⟩ := gd_of h
    simp only [Bool.and_eq_true] at hb
    obtain ⟨fs, h1, h⟩ := bnd h
    cases hl : Γ.look x with
    | fn g =>
      simp only [hl] at h
      cases h
      obtain ⟨hx, hg⟩ := look_eq hl (by intro z; cases z)
      exact se_call C hx hg hb.2 (cEs_ok H C h1)
    | mk c z g =>
      cases z with
      | true =>
        simp only [hl] at h
        cases h
        obtain ⟨hx, hg⟩ := look_eq hl (by intro z; cases z)
        exact se_make C hx hg hb.2 (cEs_ok H C h1)
      | false => simp [hl] at h
    | _ => simp [hl] at h
  · cases h
def rB1 (nm : Str) (op : T → Mem → RE T) (cl : Bool) : ER := fun r Γ e => match e with
  | .Call (.Name x _) [a] [] _ => gd (x == nm && (idx Γ.N x).isNone && noStar a && (!cl || Γ.calm)) ((r.e Γ a).bind fun f => (match Γ.look x with
    | .none => some (eB1 op f)
    | _ => none))
  | _ => none
theorem rB1_ok {D : DP} {nm : Str} {op : T → Mem → RE T} {cl : Bool} (H1 : ∀ {X : Cx} {W : XW} {Γ : Cn} {k : Nat} {a : Expr} {f : De} {p0 pos : Pos}, Ck D W Γ X k → nm ∈ Γ.G → Γ.gl nm = .none → (cl = true → Γ.calm = true) → noStar a = true → PE X a (rdE D W f) → PE X (.Call (.Name nm p0) [a] [] pos) (rdE D W (eB1 op f))) : EOk D (rB1 nm op cl) := by
  intro r H X W Γ k e d C h
  unfold rB1 at h
  split at h
  · rename_i x p0 a pos
    have hh := gd_of h
    clear h
    obtain ⟨hb, h⟩ := hh
    simp only [Bool.and_eq_true, beq_iff_eq, Bool.or_eq_true, Bool.not_eq_true'] at hb
    obtain ⟨⟨⟨rfl, h2⟩, h3⟩, h4⟩ := hb
    obtain ⟨f, h1, h⟩ := bnd h
    cases hl : Γ.look x with
    | none =>
      simp only [hl] at h
      cases h
      obtain ⟨hx, hg⟩ := look_eq hl (by intro z; cases z)
      exact H1 C hx hg (fun z => h4.resolve_left (by rw [z]; simp)) h3 (H.e C h1)
    | _ => simp [hl] at h
  · cases h
def rLen : ER := rB1 "len" lenT false
theorem rLen_ok {D : DP} : EOk D rLen := rB1_ok fun C hx hg _ hs ha => se_b1 C hx hg boot_len (by decide) hs b_len ha
def rList : ER := rB1 "list" listT false
theorem rList_ok {D : DP} : EOk D rList := rB1_ok fun C hx hg _ hs ha => se_bT C hx hg (by decide +kernel) (by decide) hs b_list ha
def rAll : ER := rB1 "all" allT true
theorem rAll_ok {D : DP} : EOk D rAll := rB1_ok fun C hx hg hc hs ha => se_b1 C hx hg boot_all (by decide) hs (b_all (C.clm (hc rfl))) ha
def rIsi : ER := fun r Γ e => match e with
  | .Call (.Name x _) [a, c] [] _ => gd (x == ("isinstance" : Str) && (idx Γ.N x).isNone && noStar a) ((r.e Γ a).bind fun f => (clsNames Γ c).bind fun cs => (match Γ.look x with
    | .none => some (eIsi cs f)
    | _ => none))
  | _ => none
theorem rIsi_ok {D : DP} : EOk D rIsi := by
  intro r H X W Γ k e d C h
  unfold rIsi at h
  split at h
  · rename_i x p0 a c pos
    have hh := gd_of h
    clear h
    obtain ⟨hb, h⟩ := hh
    simp only [Bool.and_eq_true, beq_iff_eq] at hb
    obtain ⟨⟨rfl, h2⟩, h3⟩ := hb
    obtain ⟨f, h1, h⟩ := bnd h
    obtain ⟨cs, h4, h⟩ := bnd h
    cases hl : Γ.look "isinstance" with
    | none =>
      simp only [hl] at h
      cases h
      obtain ⟨hx, hg⟩ := look_eq hl (by intro z; cases z)
      exact se_isi C hx hg h3 h4 (H.e C h1)
    | _ => simp [hl] at h
  · cases h
def rM1 (nm : Str) (cb : De → De → De) : ER := fun r Γ e => match e with
  | .Call (.Attribute o m pa) [a] [] pc => gd (m == nm && plainOb o && noStar a && pa.endLine == pc.line) ((r.e Γ o).bind fun f => (r.e Γ a).bind fun g => some (cb f g))
  | _ => none
theorem rM1_ok {D : DP} {nm : Str} {cb : De → De → De} (H1 : ∀ {X : Cx} {W : XW} {Γ : Cn} {k : Nat} {o a : Expr} {f g : De} {pa pc : Pos}, Ck D W Γ X k → plainOb o = true → noStar a = true → (pa.endLine == pc.line) = true → PE X o (rdE D W f) → PE X a (rdE D W g) → PE X (.Call (.Attribute o nm pa) [a] [] pc) (rdE D W (cb f g))) : EOk D (rM1 nm cb) := by
  intro r H X W Γ k e d C h
  unfold rM1 at h
  split at h
  · have hh := gd_of h
    clear h
    obtain ⟨hb, h⟩ := hh
    simp only [Bool.and_eq_true] at hb
    obtain ⟨⟨⟨h0, h2⟩, h3⟩, h4⟩ := hb
    have h0 := beq_iff_eq.mp h0
    subst h0
    obtain ⟨f, h1, h⟩ := bnd h
    obtain ⟨g, h5, h⟩ := bnd h
    cases h
    exact H1 C h2 h3 h4 (H.e C h1) (H.e C h5)
  · cases h
def rApp : ER := rM1 "append" eApp
theorem rApp_ok {D : DP} : EOk D rApp := rM1_ok fun C hp hs hl ho ha => se_app hp hs hl ho ha
def cmpr (r : Rec) (Γ : Cn) (elt tg iter : Expr) (ifs : List Expr) (sc : Scope) (mk : Nat → List Nat → Tg → Di → List Dt → De → De) : Option De :=
  gd (Γ.calm && compOk Γ.N Γ.cel tg sc && plainIn iter && okTg tg iter) ((idxF Γ.N (frees sc)).bind fun fs => (tgOf (tgNames tg ++ frees sc) tg).bind fun tgt => (r.i Γ iter).bind fun fi => (mapE (r.t (inComp Γ tg sc)) ifs).bind fun cs => (r.e (inComp Γ tg sc) elt).bind fun fe => some (mk (tgNames tg).length fs tgt fi cs fe))
theorem cmpr_of {r : Rec} {Γ : Cn} {elt tg iter : Expr} {ifs : List Expr} {sc : Scope} {mk : Nat → List Nat → Tg → Di → List Dt → De → De} {d : De} (h : cmpr r Γ elt tg iter ifs sc mk = some d) :
    ∃ fs tgt fi cs fe, Γ.calm = true ∧ CompOk Γ.N Γ.cel tg sc ∧ (plainIn iter = true ∧ okTg tg iter = true) ∧ idxF Γ.N (frees sc) = some fs ∧ tgOf (tgNames tg ++ frees sc) tg = some tgt ∧ r.i Γ iter = some fi ∧ mapE (r.t (inComp Γ tg sc)) ifs = some cs ∧ r.e (inComp Γ tg sc) elt = some fe ∧ d = mk (tgNames tg).length fs tgt fi cs fe := by
  obtain ⟨hb, h⟩ := gd_of h
  simp only [Bool.and_eq_true] at hb
  obtain ⟨fs, h1, h⟩ := bnd h
  obtain ⟨tgt, h2, h⟩ := bnd h
  obtain ⟨fi, h3, h⟩ := bnd h
  obtain ⟨cs, h4, h⟩ := bnd h
  obtain ⟨fe, h5, h⟩ := bnd h
  cases h
  exact ⟨fs, tgt, fi, cs, fe, hb.1.1.1, compOk_of hb.1.1.2, ⟨hb.1.2, hb.2⟩, h1, h2, h3, h4, h5, rfl⟩
def rComp : ER := fun r Γ e => match e with
  | .ListComp elt [⟨tg, iter, ifs, z⟩] sc _ => gd (z == 0) (cmpr r Γ elt tg iter ifs sc eComp)
  | _ => none
theorem rComp_ok {D : DP} : EOk D rComp := by
  intro r H X W Γ k e d C h
  unfold rComp at h
  split at h
  · have hh := gd_of h
    clear h
    obtain ⟨hz, h⟩ := hh
    have hz := beq_iff_eq.mp hz
    subst hz
    obtain ⟨fs, tgt, fi, cs, fe, h1, h2, h3, h4, h5, h6, h7, h8, rfl⟩ := cmpr_of h
    exact se_comp C h1 h2 h4 h5 (H.i C h3.2 h6) (fun X' W' C' => H.e C' h8) (fun X' W' C' => mapT_ok H C' h7) (noSet h3.1)
  · cases h
def rtVal : TR := fun r Γ e => match e with
  | .Name _ _ => (r.e Γ e).bind fun f => some (tE f)
  | .Call _ _ _ _ => (r.e Γ e).bind fun f => some (tE f)
  | .Subscript _ _ _ => (r.e Γ e).bind fun f => some (tE f)
  | .Attribute _ _ _ => (r.e Γ e).bind fun f => some (tE f)
  | .Compare a ops es _ => (cmpD r Γ a ops es).bind fun f => some (tE f)
  | .UnaryOp op a _ => (match op with
    | .Not => (r.t Γ a).bind fun f => some (tNot f)
    | _ => none)
  | .BoolOp _ _ _ => r.w Γ e
  | _ => none
theorem rtVal_ok {D : DP} : TOk D rtVal := by
  intro r H X W Γ k e d C h
  cases e with
  | Name x p =>
    obtain ⟨f, h1, h⟩ := bnd h
    cases h
    exact stest (H.e C h1) fun _ => rfl
  | Call f args kws p =>
    obtain ⟨f, h1, h⟩ := bnd h
    cases h
    exact stest (H.e C h1) fun _ => rfl
  | Subscript a b p =>
    obtain ⟨f, h1, h⟩ := bnd h
    cases h
    exact stest (H.e C h1) fun _ => rfl
  | Attribute a b p =>
    obtain ⟨f, h1, h⟩ := bnd h
    cases h
    exact stest (H.e C h1) fun _ => rfl
  | Compare a ops es p =>
    obtain ⟨f, h1, h⟩ := bnd h
    cases h
    exact (cmpD_ok H C h1).2
  | UnaryOp op a p =>
    cases op with
    | Not =>
      obtain ⟨f, h1, h⟩ := bnd h
      cases h
      exact st_not (H.t C h1)
    | _ => cases h
  | BoolOp op es p => exact (H.w C h).pt
  | _ => cases h
def rwBool : TR := fun r Γ e => match e with
  | .BoolOp op es p => (match es with
    | [a] => r.t Γ a
    | a :: b :: l => (r.t Γ a).bind fun f => (r.w Γ (.BoolOp op (b :: l) p)).bind fun g => some (match op with | .And => tAnd f g | .Or => tOr f g)
    | [] => none)
  | _ => none
theorem rwBool_ok {D : DP} : WOk D rwBool := by
  intro r H X W Γ k e d C h
  cases e with
  | BoolOp op es p =>
    match es with
    | [] => cases h
    | [a] =>
      cases op with
      | And => exact pw_and1 (H.t C h)
      | Or => exact pw_or1 (H.t C h)
    | a :: b :: l =>
      obtain ⟨f, h1, h⟩ := bnd h
      obtain ⟨g, h2, h⟩ := bnd h
      cases h
      cases op with
      | And => exact st_and (H.t C h1) (H.w C h2)
      | Or => exact st_or (H.t C h1) (H.w C h2)
  | _ => cases h
def riRng : IR := fun r Γ e => match e with
  | .Call (.Name x _) as [] _ => gd (x == ("range" : Str) && (idx Γ.N x).isNone && as.all noStar) (match Γ.look x with
    | .none => (match as with
      | [a] => (r.e Γ a).bind fun f => some (iRng f)
      | [a, b] => (r.e Γ a).bind fun f => (r.e Γ b).bind fun g => some (iRng2 f g)
      | [a, b, c] => (r.e Γ a).bind fun f => (r.e Γ b).bind fun g => (r.e Γ c).bind fun h => some (iRng3 f g h)
      | _ => none)
    | _ => none)
  | _ => none
theorem riRng_ok {D : DP} : IOk D riRng := by
  intro r H X W Γ k tg e d C ht h
  unfold riRng at h
  split at h
  · rename_i x p0 as pos
    have hh := gd_of h
    clear h
    obtain ⟨hb, h⟩ := hh
    simp only [Bool.and_eq_true] at hb
    obtain ⟨⟨h0, h2⟩, h3⟩ := hb
    have h0 := beq_iff_eq.mp h0
    subst h0
    cases hl : Γ.look "range" with
    | none =>
      obtain ⟨hx, hg⟩ := look_eq hl (by intro z; cases z)
      simp only [hl] at h
      match as with
      | [] => cases h
      | [a] =>
        simp only [List.all_cons, Bool.and_eq_true] at h3
        obtain ⟨f, h1, h⟩ := bnd h
        cases h
        exact si_range C hx hg h3.1 (H.e C h1)
      | [a, b] =>
        simp only [List.all_cons, Bool.and_eq_true] at h3
        obtain ⟨f, h1, h⟩ := bnd h
        obtain ⟨g, h4, h⟩ := bnd h
        cases h
        exact si_range2 C hx hg h3.1 h3.2.1 (H.e C h1) (H.e C h4)
      | [a, b, c] =>
        simp only [List.all_cons, Bool.and_eq_true] at h3
        obtain ⟨f, h1, h⟩ := bnd h
        obtain ⟨g, h4, h⟩ := bnd h
        obtain ⟨g2, h5, h⟩ := bnd h
        cases h
        exact si_range3 C hx hg h3.1 h3.2.1 h3.2.2.1 (H.e C h1) (H.e C h4) (H.e C h5)
      | _ :: _ :: _ :: _ :: _ => cases h
    | _ => simp [hl] at h
  · cases h
def riE : IR := fun r Γ e => (r.e Γ e).bind fun f => some (iE f)
theorem riE_ok {D : DP} : IOk D riE := by
  intro r H X W Γ k tg e d C ht h
  obtain ⟨f, h1, h⟩ := bnd h
  cases h
  exact si_expr (H.e C h1)
def roLst : ER := fun r Γ e => match e with
  | .List es _ => gd (decide (es.length ≤ room)) ((cEs r Γ es).bind fun fs => some (eLay fs))
  | _ => none
theorem roLst_ok {D : DP} : EOk D roLst := by
  intro r H X W Γ k e d C h
  cases e with
  | List es p =>
    obtain ⟨hl, h⟩ := gd_of h
    obtain ⟨fs, h1, h⟩ := bnd h
    cases h
    exact se_lay (of_decide_eq_true hl) (cEs_ok H C h1)
  | _ => cases h
end NH
end
section
set_option linter.all false
set_option maxRecDepth 100000
set_option maxHeartbeats 4000000
namespace NH
open PySem PySem.Spec PyProof.Rows L2
def ownE (r : Rec) (Γ : Cn) (x : Str) (e : Expr) : Option De := match Γ.own.contains x with
  | true => r.o Γ e
  | false => r.e Γ e
theorem ownE_ok {D : DP} {r : Rec} {X : Cx} {W : XW} {Γ : Cn} {k : Nat} (H : RecOk D r) (C : Ck D W Γ X k) {x : Str} {e : Expr} {d : De} (h : ownE r Γ x e = some d) : PE X e (rdE D W d) := by
  unfold ownE at h
  cases q : Γ.own.contains x with
  | true => rw [q] at h; exact H.o C h
  | false => rw [q] at h; exact H.e C h
def rsRet : SR := fun r Γ s => match s with
  | .Return o _ => (match o with
    | some e => (ownE r Γ "return" e).bind fun f => some (sRet f)
    | none => some sRetN)
  | _ => none
theorem rsRet_ok {D : DP} : SOk D rsRet := by
  intro r H X W Γ k e d C h
  cases e with
  | Return o p =>
    cases o with
    | none => cases h; exact ss_retN
    | some e =>
      obtain ⟨f, h1, h⟩ := bnd h
      cases h
      exact ss_ret (ownE_ok H C.toCk h1)
  | _ => cases h
def isCall : Expr → Bool
  | .Call _ _ _ _ => true
  | .Constant _ _ _ => true
  | _ => false
def rsExp : SR := fun r Γ s => match s with
  | .Expr e _ => gd (isCall e) ((r.e Γ e).bind fun f => some (sExpr f))
  | _ => none
theorem rsExp_ok {D : DP} : SOk D rsExp := by
  intro r H X W Γ k e d C h
  cases e with
  | Expr e p =>
    obtain ⟨hb, h⟩ := gd_of h
    obtain ⟨f, h1, h⟩ := bnd h
    cases h
    exact ss_expr (by cases e <;> first | (simp [isCall] at hb; done) | rfl) (H.e C.toCk h1)
  | _ => cases h
def rsIf : SR := fun r Γ s => match s with
  | .If c a b _ => (r.t Γ c).bind fun t => (mapE (r.s Γ) a).bind fun us => (mapE (r.s Γ) b).bind fun vs => some (sIf t us vs)
  | _ => none
theorem rsIf_ok {D : DP} : SOk D rsIf := by
  intro r H X W Γ k e d C h
  cases e with
  | If c a b p =>
    obtain ⟨t, h1, h⟩ := bnd h
    obtain ⟨us, h2, h⟩ := bnd h
    obtain ⟨vs, h3, h⟩ := bnd h
    cases h
    exact ss_if (H.t C.toCk h1) (mapS_ok H C h2) (mapS_ok H C h3)
  | _ => cases h
def isComp : Expr → Bool
  | .ListComp _ _ _ _ => true
  | .SetComp _ _ _ _ => true
  | .DictComp _ _ _ _ _ => true
  | _ => false
def asgS (r : Rec) (Γ : Cn) (t e : Expr) : Option Ds := match t with
  | .Name x _ => (idx Γ.N x).bind fun i => (match e with
    | .ListComp elt gs sc _ => (match gs with
      | [g] => gd (g.is_async == 0) ((cmpr r Γ elt g.target g.iter g.ifs sc (match Γ.own.contains x with | true => eCompL | false => eComp)).bind fun f => some (sSet i f))
      | _ => none)
    | e => gd (!isComp e) ((ownE r Γ x e).bind fun f => some (sSet i f)))
  | .Tuple es _ _ => gd (Γ.calm && plainTup e) ((idxs Γ.N es).bind fun is => (r.e Γ e).bind fun f => some (sTup is f))
  | .Attribute o x _ => (Γ.fld.lookup x).bind fun n => (ownE r Γ x e).bind fun f => (r.e Γ o).bind fun go => some (sFld go n f)
  | .Subscript o b _ => gd (plainIx b) ((r.e Γ e).bind fun f => (r.e Γ o).bind fun go => (r.e Γ b).bind fun gb => some (sPut go gb f))
  | _ => none
def rsAsg : SR := fun r Γ s => match s with
  | .Assign ts e _ => (match ts with
    | [t] => asgS r Γ t e
    | _ => none)
  | _ => none
theorem asgS_ok {D : DP} {r : Rec} (H : RecOk D r) {X : Cx} {W : XW} {Γ : Cn} {k : Nat} {t e : Expr} {pos : Pos} {d : Ds} (C : Sk D W Γ X k) (h : asgS r Γ t e = some d) : PS X (.Assign [t] e pos) (rdS D W d) := by
  cases t with
  | Name x p =>
    obtain ⟨i, hi, h⟩ := bnd h
    have gen : isComp e = false → gd (!isComp e) ((ownE r Γ x e).bind fun f => some (sSet i f)) = some d → PS X (.Assign [.Name x p] e pos) (rdS D W d) := fun hc h => by
      obtain ⟨_, h⟩ := gd_of h
      obtain ⟨f, h1, h⟩ := bnd h
      cases h
      exact ss_set C hi (by cases e <;> first | (simp [isComp] at hc; done) | rfl) (ownE_ok H C.toCk h1)
    cases e with
    | ListComp elt gs sc pc =>
      match gs with
      | [] => cases h
      | _ :: _ :: _ => cases h
      | [⟨tg, iter, ifs, z⟩] =>
        have hh := gd_of h
        clear h gen
        obtain ⟨hz, h⟩ := hh
        have hz : z = 0 := beq_iff_eq.mp hz
        subst hz
        obtain ⟨f, h1, h⟩ := bnd h
        cases h
        obtain ⟨fs, tgt, fi, cs, fe, q1, q2, q3, q4, q5, q6, q7, q8, rfl⟩ := cmpr_of h1
        have he : (match Γ.own.contains x with | true => eCompL | false => eComp) (tgNames tg).length fs tgt fi cs fe = (match Γ.own.contains x with | true => eCompL (tgNames tg).length fs tgt fi cs fe | false => eComp (tgNames tg).length fs tgt fi cs fe) := by cases Γ.own.contains x <;> rfl
        have key : ∀ bb, swapsWith (.ListComp elt [⟨tg, iter, ifs, 0⟩] sc pc) (some (.Name x p)) pos.line X.env = pure bb → PS X (.Assign [.Name x p] (.ListComp elt [⟨tg, iter, ifs, 0⟩] sc pc) pos) (rdS D W (sSet i (match Γ.own.contains x with | true => eCompL (tgNames tg).length fs tgt fi cs fe | false => eComp (tgNames tg).length fs tgt fi cs fe))) := fun bb hsw => by
          cases bb with
          | true => exact ss_comp C q1 hi q2 q4 q5 (H.i C.toCk q3.2 q6) (fun X' W' C' => H.e C' q8) (fun X' W' C' => mapT_ok H C' q7) (noSet q3.1) _ hsw
          | false =>
            refine ss_set C hi hsw ?_
            cases Γ.own.contains x with
            | true => exact se_compL C.toCk q1 q2 q4 q5 (H.i C.toCk q3.2 q6) (fun X' W' C' => H.e C' q8) (fun X' W' C' => mapT_ok H C' q7) (noSet q3.1)
            | false => exact se_comp C.toCk q1 q2 q4 q5 (H.i C.toCk q3.2 q6) (fun X' W' C' => H.e C' q8) (fun X' W' C' => mapT_ok H C' q7) (noSet q3.1)
        rw [he]
        exact key _ rfl
    | SetComp _ _ _ _ => cases h
    | DictComp _ _ _ _ _ => cases h
    | _ => exact gen rfl h
  | Tuple es kk p =>
    obtain ⟨hb, h⟩ := gd_of h
    simp only [Bool.and_eq_true] at hb
    obtain ⟨is, h1, h⟩ := bnd h
    obtain ⟨f, h2, h⟩ := bnd h
    cases h
    exact ss_tup C hb.1 hb.2 h1 (H.e C.toCk h2)
  | Attribute o x p =>
    obtain ⟨n, h1, h⟩ := bnd h
    obtain ⟨f, h2, h⟩ := bnd h
    obtain ⟨go, h3, h⟩ := bnd h
    cases h
    exact ss_fld C (lookup_mem h1) (ownE_ok H C.toCk h2) (H.e C.toCk h3)
  | Subscript o b p =>
    obtain ⟨hb, h⟩ := gd_of h
    obtain ⟨f, h1, h⟩ := bnd h
    obtain ⟨go, h2, h⟩ := bnd h
    obtain ⟨gb, h3, h⟩ := bnd h
    cases h
    exact ss_put C hb (H.e C.toCk h1) (H.e C.toCk h2) (H.e C.toCk h3)
  | _ => cases h
theorem rsAsg_ok {D : DP} : SOk D rsAsg := by
  intro r H X W Γ k e d C h
  cases e with
  | Assign ts e p =>
    match ts with
    | [] => cases h
    | [t] => exact asgS_ok H C h
    | _ :: _ :: _ => cases h
  | _ => cases h
def rsFor : SR := fun r Γ s => match s with
  | .For tg it b els _ => gd (Γ.calm && plainIn it && els.isEmpty && okTg tg it) ((tgOf Γ.N tg).bind fun tgt => (r.i Γ it).bind fun fi => (mapE (r.s Γ) b).bind fun vs => some (sFor tgt fi vs))
  | _ => none
theorem rsFor_ok {D : DP} : SOk D rsFor := by
  intro r H X W Γ k e d C h
  cases e with
  | For tg it b els p =>
    obtain ⟨hb, h⟩ := gd_of h
    simp only [Bool.and_eq_true] at hb
    obtain ⟨tgt, h1, h⟩ := bnd h
    obtain ⟨fi, h2, h⟩ := bnd h
    obtain ⟨vs, h3, h⟩ := bnd h
    cases h
    cases els with
    | nil => exact ss_for C hb.1.1.1 h1 (H.i C.toCk hb.2 h2) (mapS_ok H C h3) (noSet hb.1.1.2)
    | cons _ _ => simp at hb
  | _ => cases h
def raiE : Stmt → Option Expr
  | .Raise (some e) none _ => some e
  | _ => none
theorem raiE_of {s : Stmt} {e : Expr} (h : raiE s = some e) : ∃ p, s = .Raise (some e) none p := by
  unfold raiE at h
  split at h
  · cases h; exact ⟨_, rfl⟩
  · cases h
def call0 : Expr → Option (Str × List Expr)
  | .Call (.Name x _) as [] _ => some (x, as)
  | _ => none
theorem call0_of {e : Expr} {q : Str × List Expr} (h : call0 e = some q) : ∃ p0 p1, e = .Call (.Name q.1 p0) q.2 [] p1 := by
  unfold call0 at h
  split at h
  · cases h; exact ⟨_, _, rfl⟩
  · cases h
def rsRai : SR := fun r Γ s => (raiE s).bind fun e => (call0 e).bind fun q => gd (Γ.calm && (idx Γ.N q.1).isNone && !q.2.isEmpty) ((cEs r Γ q.2).bind fun fs => (match Γ.look q.1 with
    | .xcl c => some (sRaise c fs)
    | _ => none))
theorem rsRai_ok {D : DP} : SOk D rsRai := by
  intro r H X W Γ k e d C h
  unfold rsRai at h
  obtain ⟨e', h0, h⟩ := bnd h
  obtain ⟨⟨x, as⟩, h2, h⟩ := bnd h
  obtain ⟨p2, rfl⟩ := raiE_of h0
  obtain ⟨p0, p1, rfl⟩ := call0_of h2
  obtain ⟨hb, h⟩ := gd_of h
  simp only [Bool.and_eq_true] at hb
  cases as with
  | nil => exact absurd hb.2 (by simp)
  | cons a as =>
    obtain ⟨fs, h1, h⟩ := bnd h
    cases hl : Γ.look x with
    | xcl c =>
      simp only [hl] at h
      cases h
      obtain ⟨hx, hg⟩ := look_eq hl (by intro z; cases z)
      exact ss_raise C hb.1.1 hx hg (cEs_ok H C.toCk h1)
    | _ => simp [hl] at h
structure MdOk (D : DP) (P : Program) (w : World) (K : PySem.W.Frag) (mg : Str → Option Value) (base : Heap) (Γ : Cn) (k : Nat) : Prop where
  hK : K = D.K
  glo : ∀ x ∈ Γ.U, GlOkM D P w K mg base k x (Γ.gl x) ∧ (x == ("__debug__" : Str)) = false
  isi : ∀ t x c, (x, c) ∈ Γ.cls → ∀ u v, TyNm D t u → ClValM mg x v → PySem.W.kitOne K u v = some (isinN t c)
  fld : ∀ c C x f, D.cad c = some C → (x, f) ∈ Γ.fld → D.fn f = some x ∧ Cls K C ∧ NoAttr K C x
  xcx : ∀ c C, D.adr c = some C → XCls K C
  ocx : ∀ c C, D.cad c = some C → OCls K C
  clv : ∀ x c, (x, c) ∈ Γ.cls → ∃ u v, ClValM mg x u ∧ ClsV v u
  xmt : ∀ t x c, (x, c) ∈ Γ.cls → c < 40 → ∀ Ct Cc, D.adr t = some Ct → mg x = some (.ref Cc) → PySem.W.exmOne K (.ref Ct) (.ref Cc) = some (isinN t c)
def scOk (Γ : Cn) (ps : List Str) (sc : Scope) : Bool :=
  (sc.kind == .function) && !sc.isCoroutine && !sc.isGenerator && decide (Γ.N.Nodup) && (Γ.N.take ps.length == ps) && sc.names.all (fun y => y.2 != .free) &&
  Γ.N.all (fun x => x != ("__debug__" : Str) && x != ("__classdict__" : Str) && (if Γ.cel.contains x then sc.names.lookup x == some .cell else sc.names.lookup x == some .local)) &&
  Γ.G.all (fun x => Γ.U.contains x && sc.names.lookup x == some .globalImplicit) && Γ.cel.all (fun x => Γ.N.contains x) && Γ.calm
theorem xp_frames {X : Cx} {W : XW} {e : Value} {s : Shared} (p : XP X W e s) : X.A.frames = some X.stack := by
  obtain ⟨_, _, _, _, _, _, _, _, I, _⟩ := p
  exact I.ok.frames
theorem argS_eq : ∀ (ts : List T) (n : Nat), argS ts n = ts.map some ++ List.replicate n none
  | [], n => by
    have : ∀ n, pad n = List.replicate n none := fun n => by
      induction n with
      | zero => rfl
      | succ n ih => show none :: pad n = _; rw [ih]; rfl
    exact this n
  | t :: r, n => by show some t :: argS r n = _; rw [argS_eq r n]; rfl
section
variable {D : DP} {P : Program} {w : World} {K : PySem.W.Frag} {mg : Str → Option Value} {base : Heap} {Γ : Cn} {k n : Nat}
theorem srel_start {φ α : List Addr} {H : Hp} {N : List Str} {ts : List T} {vs : List V} (d : DenL D φ α H ts vs) : SRel D φ α H (argS ts (N.length - ts.length)) (L2.start N vs) := by
  have hl := d.length
  rw [argS_eq]
  refine ⟨by simp [L2.start, hl], fun i t e => ?_⟩
  by_cases hi : i < ts.length
  · rw [List.getElem?_append_left (by simpa using hi), List.getElem?_map] at e
    cases q : ts[i]? with
    | none => rw [q] at e; cases e
    | some t' =>
      rw [q] at e
      have e : some (some t') = some (some t) := e
      cases e
      obtain ⟨v, hv, dv⟩ := d.get q
      refine ⟨v, ?_, dv⟩
      unfold L2.start
      rw [List.getElem?_append_left (by rw [List.length_map, ← hl]; exact hi), List.getElem?_map, hv]
      rfl
  · rw [List.getElem?_append_right (by simpa using hi), List.getElem?_replicate] at e
    split at e <;> cases e
theorem fn_rule {R : Rules} (HR : RulesOk D R) {f : Addr} {name qual : Str} {params : Arguments} {body : List Stmt} {scope : Scope} {dV kV doc pm cdv ct oc : Value} {an od : Option Addr} {osl : Array (Option Value)} {ps : List Str} {m : Nat} {ds : List Ds}
    (M : MdOk D P w K mg base Γ k) (lk : K.lookup f = some ⟨oc, od, .func (PySem.W.fnOf name qual params body scope dV kV doc pm an cdv ct), osl⟩) (hcd : PySem.W.codeIn K cdv qual = true) (hs : scOk Γ ps scope = true) (hm : Γ.N.length = ps.length + m) (hds : mapE ((comp R n).s Γ) body = some ds) (hlam : LamOk D mg base cdv (qual ++ ".<locals>.") k Γ.lam := by exact LamOk.no rfl) :
    FnOk P w K mg base (CX1 P w) (k + 1) f (PySem.W.fnOf name qual params body scope dV kV doc pm an cdv ct) ps (spN D ps.length (fnW ps.length m ds)) := by
  simp only [scOk, Bool.and_eq_true, List.all_eq_true, beq_iff_eq, Bool.not_eq_true', decide_eq_true_eq, bne_iff_ne, ne_eq] at hs
  obtain ⟨⟨⟨⟨⟨⟨⟨⟨⟨h1, h2⟩, h3⟩, h4⟩, h5⟩, h6⟩, h7⟩, h8⟩, h9⟩, h10⟩ := hs
  have kin : ∀ x ∈ Γ.N, (Γ.cel.contains x = true ∧ scope.names.lookup x = some .cell) ∨ (Γ.cel.contains x = false ∧ scope.names.lookup x = some .local) := fun x hx => by
    have q := (h7 x hx).2
    cases hc : Γ.cel.contains x with
    | true => rw [hc, if_pos rfl] at q; exact .inl ⟨rfl, beq_iff_eq.mp q⟩
    | false => rw [hc] at q; exact .inr ⟨rfl, beq_iff_eq.mp q⟩
  have loc : ∀ x ∈ Γ.N, scope.names.lookup x = some .local ∨ scope.names.lookup x = some .cell := fun x hx => (kin x hx).elim (fun z => .inr z.2) fun z => .inl z.2
  have S : FnScope Γ.N ps scope := ⟨h1, h2, h3, h4, h5, fun x hx => loc x (by rw [← h5] at hx; exact List.mem_of_mem_take hx), h6⟩
  refine fn_of lk hcd S (fun vs H Q E q => q.1) fun A outer s H vs Q E hr hsp => ?_
  obtain ⟨hl, φ, α, ts, μ, d, mr, K0, Z0, ⟨hle, q⟩, hk0, hz0⟩ := hsp
  generalize hX : cxOf (CX1 P w) P w K mg base Γ.N qual scope f cdv A outer s H E = X
  have F : Frm X (envOfC qual scope s.heap.objs.size f cdv) outer s.heap.objs.size := by rw [← hX]; exact ⟨rfl, rfl, rfl⟩
  have C : Sk D (wOf E) Γ (X.wish (XP X (wOf E))) k := by
    have xe : ∀ e s, XP (X.wish (XP X (wOf E))) (wOf E) e s → XP X (wOf E) e s := fun e s p => xp_unwish p
    have pso : PassesOwn (model X.prog X.w) X.A X.env (XP X (wOf E)) := fun e s p => xp_passes F (xp_frames p) e s p
    subst hX
    exact { hK := M.hK, hN := rfl, nd := h4, vis := fun x hx => (loc x hx).elim .inl fun z => .inr (.inl z), dbg := fun x hx => ⟨beq_eq_false_iff_ne.mpr (h7 x hx).1.1, beq_eq_false_iff_ne.mpr (h7 x hx).1.2⟩,
            dbG := fun x hx => (M.glo x (by simpa using (h8 x hx).1)).2, glb := fun x hx => (h8 x hx).2, glo := fun x hx => (M.glo x (by simpa using (h8 x hx).1)).1, glU := M.glo,
            cel := fun x hx => .inl ((kin x (by simpa using h9 x hx)).elim (fun z => z.2) fun z => by have := z.1; rw [List.contains_iff_mem.mpr hx] at this; cases this),
            isi := M.isi, fld := M.fld, xcx := M.xcx, ocx := M.ocx, clv := M.clv, clm := fun _ => rfl, rom := fun _ => hr, rmh := ⟨hr.dp, hr.un⟩, xe := xe, frm := ⟨_, _, _, F.stk, F.f0, F.fe⟩, lam := hlam,
            sto := fun x hx => ⟨loc x hx, .inl rfl⟩, lcl := fun x hx hc => (kin x hx).elim (fun z => by rw [z.1] at hc; cases hc) fun z => z.2, pso := pso, xmt := M.xmt }
  have B : PSs X body (rdS D (wOf E) (blks ds)) := fun pins s1 σ1 H1 E1 I1 q => by
    refine wpAny_mono (sss_all (mapS_ok (comp_ok HR n) C hds) pins s1 σ1 H1 E1 (I1.wish _) q) (fun f s' q => q.unwish) fun e s' p => ?_
    have p : XP X (wOf E) e s' := p
    have := xp_leave (M := model X.prog X.w) (F2 := fun e' s'' => CX1 X.prog X.w X.outer X.H₀ X.s₀ E e' s'') F (xp_frames p) (by rw [← hX]; rfl) p
    subst hX
    exact this
  have hmm : Γ.N.length - ts.length = m := by omega
  refine ⟨_, B, φ, α, _, μ, srel_start d, mr, { nx := fun _ μ1 => K0 .non μ1, rt := K0, bk := fun _ _ => False, ct := fun _ _ => False, ex := fun c fs _ μ1 => Z0 c fs μ1 }, by rw [hmm]; exact q, fun _ μ1 z α' H' σ' st m _ => hk0 _ _ z α' H' st m .non rfl, fun _ _ z => z.elim, fun _ _ z => z.elim, fun t μ1 z α' H' v st m dv => hk0 _ _ z α' H' st m v dv, fun c fs _ μ1 z α' H' σ' C1 dd st m _ ad xd => hz0 c fs μ1 z α' H' C1 dd st m ad xd⟩
theorem fnW_len {n m : Nat} {ds : List Ds} : ∀ ts μ K Z, fnW n m ds ts μ K Z → ts.length = n := fun _ _ _ _ h => h.1
end
end NH
end
section
set_option linter.all false
set_option maxRecDepth 100000
set_option maxHeartbeats 4000000
namespace NH
open PySem PySem.Spec PyProof.Rows L2
def noLs : PySem.W.Frag → Bool
  | [] => true
  | p :: r => (match p.2.cls with | .type t => t != "list" | _ => true) && noLs r
theorem noLs_of : ∀ {K : PySem.W.Frag} {a : Addr} {o : Obj}, noLs K = true → K.lookup a = some o → o.cls ≠ .type "list"
  | [], _, _, _, h => by cases h
  | (b, p) :: r, a, o, hn, h => by
    simp only [noLs, Bool.and_eq_true] at hn
    rw [List.lookup_cons] at h
    cases q : a == b with
    | true =>
      rw [q] at h
      cases h
      intro e
      have h1 := hn.1
      rw [e] at h1
      exact absurd h1 (by decide)
    | false => rw [q] at h; exact noLs_of hn.2 h
def spLaw (K : PySem.W.Frag) : Sp := fun vs H Q _ => ∃ (a : Addr) (ns : List Int), vs = [.ref a] ∧ SqL K H a (ns.map V.int) ∧ ns.length ≤ 63 ∧ ∀ H', Q (.bl true) H'
theorem denL_ints {D : DP} {φ α : List Addr} {H : Hp} : ∀ (ns : List Int), DenL D φ α H (ns.map T.int) (ns.map V.int)
  | [] => rfl
  | n :: r => ⟨.int n, r.map V.int, rfl, rfl, denL_ints r⟩
def Tells (f : Fn) : Prop := ∀ ns : List Int, ns.length ≤ 63 → f [.lst (ns.map T.int)] [] (fun t _ => t = .bl true) (fun _ _ _ => False)
theorem law_of {D : DP} {P : Program} {w : World} {K : PySem.W.Frag} {mg : Str → Option Value} {base : Heap} {k : Nat} {fa : Addr} {fd : FuncData} {x : Str} {f : Fn} (hl : noLs K = true) (ht : Tells f)
    (F : FnOk P w K mg base (CX1 P w) k fa fd [x] (spN D 1 f)) : FnOk P w K mg base (CX1 P w) k fa fd [x] (spLaw K) := by
  refine F.imp ?_
  rintro vs H Q E ⟨a, ns, rfl, hs, hn, q⟩
  have r : Rd H a (.lst (ns.map V.int)) := by
    rcases hs with r | ⟨o, its, n, h1, h2, _⟩
    · exact r
    · exact absurd h2 (noLs_of hl h1)
  refine ⟨rfl, [], [], [.lst (ns.map T.int)], [], ⟨.ref a, [], rfl, ⟨a, _, rfl, by simp, by simp, r, denL_ints ns⟩, rfl⟩, MRel.nil D (by simp), _, _, ht ns hn, ?_, ?_⟩
  · rintro t μ rfl α' H' st m v d
    have d : v = .bl true := d
    rw [d]
    exact q H'
  · exact fun _ _ _ z => z.elim
theorem walk {l : PySem.W.OpenLaw} {q : Program} {loose : List Str} {XP : (Str → Option Value) → Heap → Prop} {YP : World → Heap → Prop} {d : DefRec} {K : Params → PySem.W.Frag} {x : Str} {k : Nat} (hk : k ≤ 40) (hn : l.most = some 63) (hdf : d.params.defaults = [])
    (hY : ∀ (w : World) (h : Heap), YP w h → (K w.params).In h)
    (F : ∀ (w : World) (mg : Str → Option Value) (fa : Addr) (h : Heap), (K w.params).In h → h.Ns mainGlobals mg → mg d.name = some (.ref fa) →
      ∃ fd : FuncData, (∀ (s : Shared) (u : Value), BindsTo s fd ⟨[u], []⟩ [(x, u)]) ∧ ∀ base : Heap, (K w.params).In base → base.Ns mainGlobals mg → FnOk l.prog w (K w.params) mg base (CX1 l.prog w) k fa fd [x] (spLaw (K w.params))) :
    PySem.W.WalkO q loose XP YP l.row.toRowW d [] (fun f vs => PySem.call f vs) :=
  L2.walk_of (n := 63) (k := k) (x := x) (CX := fun w => CX1 l.prog w) (sp := fun w => spLaw (K w.params)) hn (by decide) hdf (Room.mono (k := 40) ⟨rfl, by decide, by decide⟩ hk) hY F (fun _ _ a ns hl _ hS => ⟨a, ns, rfl, hS, hl, fun _ => rfl⟩) fun _ _ _ _ _ z => by
    obtain ⟨_, _, _, _, _, _, _, _, _, _, _, _, _, _, _, z⟩ := z
    exact z
def FLD : List Str := ["moments", "houses", "counts", "start", "turns", "holder", "lease", "until", "is_cut", "shape", "grants", "house", "begin", "end", "ahead", "stride", "keeper", "mark", "newest", "batches", "has_fallen", "clock", "kept", "common", "given", "now", "seats", "world", "line", "by"]
theorem FLD_nd : FLD.Nodup := by decide +kernel
structure Ads where
  xs : List (Nat × Addr)
  cs : List (Nat × Addr)
def mkD (K : PySem.W.Frag) (A : Ads) (clo : Nat → Addr → Option HO → List V → Prop) (tabs : Nat → Option (Addr × List Pos × Str) := fun _ => none) : DP := ⟨K, fun c => A.xs.lookup c, fun c => A.cs.lookup c, fun i => FLD[i]?, fun i j x h1 h2 => nodup_ix FLD_nd h1 h2, clo, tabs⟩
def cn (cls fld : List (Str × Nat)) (gs : List (Str × GM)) (N G cel own : List Str) (lam : Option (Nat × List Pos) := none) : Cn where
  N := N
  G := G
  calm := true
  gl := fun x => (gs.lookup x).getD .bad
  cls := cls
  fld := fld
  U := gs.map (·.1)
  cel := cel
  own := own
  lam := lam
def tys (A : Ads) : List (Nat × Value) := [(0, .type "NoneType"), (1, .type "bool"), (2, .type "int"), (3, .type "str"), (4, .type "tuple"), (5, .type "list"), (6, .type "dict")] ++ (A.xs.map fun p => (p.1, Value.ref p.2)) ++ A.cs.map fun p => (p.1, Value.ref p.2)
def clVal (K : PySem.W.Frag) (c : Str) : Option Value := match PySem.W.nsIn K mainGlobals c with
  | some (some v) => some v
  | some none => if c == ("__name__" : Str) then none else bootBuiltins c
  | none => none
def isCls : Value → Bool
  | .ref _ => true
  | .type _ => true
  | _ => false
def isC (o : Option (Option Value)) (s : String) : Bool := match o with
  | some (some (.builtin x)) => x == s
  | _ => false
theorem isC_of {o : Option (Option Value)} {s : String} (h : isC o s = true) : o = some (some (.builtin s)) := by
  unfold isC at h
  split at h
  · rw [beq_iff_eq.mp h]
  · cases h
def isN0 (o : Option (Option Value)) : Bool := match o with
  | some none => true
  | _ => false
theorem isN0_of {o : Option (Option Value)} (h : isN0 o = true) : o = some none := by
  unfold isN0 at h
  split at h
  · rfl
  · cases h
def isB (o : Option Bool) (b : Bool) : Bool := match o with | some c => c == b | none => false
theorem isB_of {o : Option Bool} {b : Bool} (h : isB o b = true) : o = some b := by
  cases o with
  | none => cases h
  | some c => have : (c == b) = true := h; rw [beq_iff_eq.mp this]
def clsB (K : PySem.W.Frag) (C : Addr) : Bool := isC (PySem.W.findIn K (.ref C) "__class__") "object.__class__" && isC (PySem.W.specialIn K (.builtin "object.__class__") "__get__") "getset_descriptor.__get__" && isB (PySem.W.takesIn K (.builtin "object.__class__")) true && isB (PySem.W.mroIn K C (.type "object")) true
def xclsB (K : PySem.W.Frag) (C : Addr) : Bool := clsB K C && isC (PySem.W.findIn K (.ref C) "__getattribute__") "BaseException.__getattribute__" && isN0 (PySem.W.findIn K (.ref C) "__getattr__") && isB (PySem.W.mroIn K C (.type "BaseException")) true && (PySem.W.clsIn K C).isSome
def oclsB (K : PySem.W.Frag) (C : Addr) : Bool := clsB K C && PySem.W.plainGet K C Str.empty && PySem.W.hasDictIn K C && PySem.W.plainOver K C && isC (PySem.W.findIn K (.ref C) "__setattr__") "object.__setattr__"
def chk (K : PySem.W.Frag) (A : Ads) (cls fld : List (Str × Nat)) : Bool :=
  cls.all (fun p => match clVal K p.1 with
    | some v => isCls v && (tys A).all (fun q => isB (PySem.W.kitOne K q.2 v) (isinN q.1 p.2)) && (Nat.ble 40 p.2 || (match v with | .ref C => A.xs.all (fun q => isB (PySem.W.exmOne K (.ref q.2) (.ref C)) (isinN q.1 p.2)) | _ => true))
    | none => false) &&
  A.xs.all (fun q => xclsB K q.2) && A.cs.all (fun q => oclsB K q.2 && fld.all (fun p => isN0 (PySem.W.findIn K (.ref q.2) p.1))) && fld.all (fun p => match FLD[p.2]? with | some x => x == p.1 | none => false)
theorem clVal_of {K : PySem.W.Frag} {h : Heap} {mg : Str → Option Value} {c : Str} {v : Value} (X : K.In h) (G : h.Ns mainGlobals mg) (e : clVal K c = some v) : ClValM mg c v ∧ ∀ u, ClValM mg c u → u = v := by
  unfold clVal at e
  split at e
  · rename_i v' q
    cases e
    have m := PySem.W.mg_of X G q
    refine ⟨.inl m, fun u z => ?_⟩
    rcases z with z | ⟨z, _⟩
    · rw [m] at z; cases z; rfl
    · rw [m] at z; cases z
  · rename_i q
    have m := PySem.W.mg_none_of X G q
    split at e
    · cases e
    · rename_i hn
      refine ⟨.inr ⟨m, e, fun z => hn (by rw [z]; rfl)⟩, fun u z => ?_⟩
      rcases z with z | ⟨_, z, _⟩
      · rw [m] at z; cases z
      · rw [e] at z; cases z; rfl
  · cases e
theorem lookup_in {α β : Type} [BEq α] [LawfulBEq α] {x : α} {v : β} : ∀ {l : List (α × β)}, l.lookup x = some v → (x, v) ∈ l
  | [], h => by cases h
  | (y, w) :: r, h => by
    rw [List.lookup_cons] at h
    cases q : x == y with
    | true => rw [q] at h; cases h; rw [beq_iff_eq.mp q]; exact List.mem_cons_self
    | false => rw [q] at h; exact List.mem_cons_of_mem _ (lookup_in h)
theorem lookup_some {α : Type} {x : Str} : ∀ {l : List (Str × α)}, x ∈ l.map (·.1) → ∃ v, l.lookup x = some v
  | [], h => by simp at h
  | (y, w) :: r, h => by
    rw [List.lookup_cons]
    cases q : x == y with
    | true => exact ⟨w, rfl⟩
    | false =>
      rcases List.mem_cons.mp h with z | z
      · have z : x = y := z
        rw [z] at q; simp at q
      · exact lookup_some z
section
variable {P : Program} {w : World} {K : PySem.W.Frag} {mg : Str → Option Value} {base : Heap} {A : Ads} {clo : Nat → Addr → Option HO → List V → Prop} {cls fld : List (Str × Nat)} {gs : List (Str × GM)} {N G cel own : List Str} {k : Nat} {lam : Option (Nat × List Pos)} {tabs : Nat → Option (Addr × List Pos × Str)}
theorem tys_of {t : Nat} {u : Value} (h : TyNm (mkD K A clo tabs) t u) : (t, u) ∈ tys A := by
  unfold tys
  rcases h with ⟨rfl, rfl⟩ | ⟨rfl, rfl⟩ | ⟨rfl, rfl⟩ | ⟨rfl, rfl⟩ | ⟨rfl, rfl⟩ | ⟨rfl, rfl⟩ | ⟨C, h, rfl⟩ | ⟨rfl, rfl⟩ | ⟨C, h, rfl⟩
  · simp
  · simp
  · simp
  · simp
  · simp
  · simp
  · exact List.mem_append_left _ (List.mem_append_right _ (List.mem_map.mpr ⟨(t, C), lookup_in h, rfl⟩))
  · simp
  · exact List.mem_append_right _ (List.mem_map.mpr ⟨(t, C), lookup_in h, rfl⟩)
def GsOk (P : Program) (w : World) (K : PySem.W.Frag) (mg : Str → Option Value) (base : Heap) (A : Ads) (clo : Nat → Addr → Option HO → List V → Prop) (k : Nat) (gs : List (Str × GM)) (tabs : Nat → Option (Addr × List Pos × Str) := fun _ => none) : Prop := ∀ p ∈ gs, GlOkM (mkD K A clo tabs) P w K mg base k p.1 p.2 ∧ (p.1 == ("__debug__" : Str)) = false
theorem GlOkM.mono {D : DP} {j k : Nat} {x : Str} {g : GM} (h : j ≤ k) (q : GlOkM D P w K mg base j x g) : GlOkM D P w K mg base k x g := by
  cases g with
  | fn f => obtain ⟨fa, a, fd, ps, kk, b, c, d, r⟩ := q; exact ⟨fa, a, fd, ps, kk, b, c, Nat.le_trans d h, r⟩
  | fnh nm f => obtain ⟨fa, a, fd, ps, kk, b, c, d, r⟩ := q; exact ⟨fa, a, fd, ps, kk, b, c, Nat.le_trans d h, r⟩
  | met c nm f => obtain ⟨C, fI, fd, ps, kk, a, b, c, d, e, f1, r⟩ := q; exact ⟨C, fI, fd, ps, kk, a, b, c, d, e, Nat.le_trans f1 h, r⟩
  | mk c z f => obtain ⟨C, fI, fd, ps, kk, a, b, c, d, e, r⟩ := q; exact ⟨C, fI, fd, ps, kk, a, b, c, d, Nat.le_trans e h, r⟩
  | xin c f nm fl => obtain ⟨C, HE, fI, fd, ps, kk, a1, a2, a3, a4, a5, a6, r⟩ := q; exact ⟨C, HE, fI, fd, ps, kk, a1, a2, a3, a4, a5, Nat.le_trans a6 h, r⟩
  | mkd c nm n f => obtain ⟨C, fI, fd, ps, kk, a, b, c, d, e, r⟩ := q; exact ⟨C, fI, fd, ps, kk, a, b, c, d, Nat.le_trans e h, r⟩
  | metd c nm n d f => obtain ⟨C, fI, fd, ps, kk, du, dv, a1, a2, a3, a4, a5, a6, a7, a8, r⟩ := q; exact ⟨C, fI, fd, ps, kk, du, dv, a1, a2, a3, a4, a5, a6, a7, Nat.le_trans a8 h, r⟩
  | kpr => exact ⟨fun t φ α H v hj d => let ⟨a, kk, h1, h2, h3⟩ := q.1 t φ α H v hj d; ⟨a, kk, h1, Nat.le_trans h2 h, h3⟩, q.2⟩
  | _ => exact q
theorem GsOk.mono {j k : Nat} (h : j ≤ k) (q : GsOk P w K mg base A clo j gs tabs) : GsOk P w K mg base A clo k gs tabs := fun p hp => ⟨(q p hp).1.mono h, (q p hp).2⟩
theorem GsOk.add {x : Str} {g : GM} (q : GsOk P w K mg base A clo k gs tabs) (h : GlOkM (mkD K A clo tabs) P w K mg base k x g) (hx : (x == ("__debug__" : Str)) = false) : GsOk P w K mg base A clo k ((x, g) :: gs) tabs := fun p hp => by
  rcases List.mem_cons.mp hp with rfl | z
  · exact ⟨h, hx⟩
  · exact q p z
def plainGs (bs : List Str) (xs : List (Str × Nat)) (ys : List (Str × Nat × Nat)) : List (Str × GM) := bs.map (fun x => (x, GM.none)) ++ xs.map (fun x => (x.1, GM.xcl x.2)) ++ ys.map (fun x => (x.1, GM.xcf x.2.1 x.2.2))
def atA (K : PySem.W.Frag) (A : Ads) (x : Str) (c : Nat) : Bool := match A.xs.lookup c, PySem.W.nsIn K mainGlobals x with
  | some C, some (some (.ref C')) => C == C'
  | _, _ => false
def chkGs (K : PySem.W.Frag) (A : Ads) (bs : List Str) (xs : List (Str × Nat)) (ys : List (Str × Nat × Nat)) : Bool :=
  bs.all (fun x => x != ("__debug__" : Str) && isN0 (PySem.W.nsIn K mainGlobals x)) &&
  xs.all (fun x => x.1 != ("__debug__" : Str) && atA K A x.1 x.2) && ys.all (fun x => x.1 != ("__debug__" : Str) && atA K A x.1 x.2.1)
theorem atA_of {x : Str} {c : Nat} (X : K.In base) (Gm : base.Ns mainGlobals mg) (h : atA K A x c = true) : ∃ C, A.xs.lookup c = some C ∧ mg x = some (.ref C) := by
  unfold atA at h
  split at h
  · rename_i C C' q1 q2
    have h : C = C' := beq_iff_eq.mp h
    subst h
    exact ⟨C, q1, PySem.W.mg_of X Gm q2⟩
  · cases h
def XOkL (K : PySem.W.Frag) (A : Ads) : List (Str × Nat) → Prop
  | [] => True
  | p :: r => (∃ C, A.xs.lookup p.2 = some C ∧ PySem.W.excIn K C veMro "ValueError.__new__" = true) ∧ XOkL K A r
theorem XOkL.at : ∀ {xs : List (Str × Nat)} {p : Str × Nat}, XOkL K A xs → p ∈ xs → ∀ C, A.xs.lookup p.2 = some C → PySem.W.excIn K C veMro "ValueError.__new__" = true
  | q :: r, p, h, hp, C, e => by
    rcases List.mem_cons.mp hp with rfl | z
    · obtain ⟨C', e', x⟩ := h.1
      rw [e'] at e; cases e; exact x
    · exact XOkL.at h.2 z C e
theorem plainGs_ok {bs : List Str} {xs : List (Str × Nat)} {ys : List (Str × Nat × Nat)} (X : K.In base) (Gm : base.Ns mainGlobals mg) (h : chkGs K A bs xs ys = true) (hX : XOkL K A xs) : GsOk P w K mg base A clo k (plainGs bs xs ys) tabs := by
  simp only [chkGs, Bool.and_eq_true, List.all_eq_true, bne_iff_ne, ne_eq] at h
  intro p hp
  rcases List.mem_append.mp hp with z | z
  · rcases List.mem_append.mp z with z | z
    · obtain ⟨x, hx, rfl⟩ := List.mem_map.mp z
      obtain ⟨h1, h2⟩ := h.1.1 x hx
      exact ⟨PySem.W.mg_none_of X Gm (isN0_of h2), beq_eq_false_iff_ne.mpr h1⟩
    · obtain ⟨x, hx, rfl⟩ := List.mem_map.mp z
      obtain ⟨h1, h2⟩ := h.1.2 x hx
      obtain ⟨C, q1, q2⟩ := atA_of X Gm h2
      exact ⟨⟨C, q1, q2, XOkL.at hX hx C q1⟩, beq_eq_false_iff_ne.mpr h1⟩
  · obtain ⟨x, hx, rfl⟩ := List.mem_map.mp z
    obtain ⟨h1, h2⟩ := h.2 x hx
    obtain ⟨C, q1, q2⟩ := atA_of X Gm h2
    exact ⟨⟨C, q1, q2⟩, beq_eq_false_iff_ne.mpr h1⟩
theorem md_of (X : K.In base) (Gm : base.Ns mainGlobals mg) (hc : chk K A cls fld = true) (q : GsOk P w K mg base A clo k gs tabs) : MdOk (mkD K A clo tabs) P w K mg base (cn cls fld gs N G cel own lam) k := by
  simp only [chk, Bool.and_eq_true, List.all_eq_true] at hc
  obtain ⟨⟨⟨c1, c2⟩, c3⟩, c4⟩ := hc
  have cb : ∀ {C}, clsB K C = true → PySem.W.findIn K (.ref C) "__class__" = some (some (.builtin "object.__class__")) ∧ PySem.W.specialIn K (.builtin "object.__class__") "__get__" = some (some (.builtin "getset_descriptor.__get__")) ∧ PySem.W.takesIn K (.builtin "object.__class__") = some true ∧ PySem.W.mroIn K C (.type "object") = some true := fun {C} h => by
    simp only [clsB, Bool.and_eq_true] at h
    exact ⟨isC_of h.1.1.1, isC_of h.1.1.2, isB_of h.1.2, isB_of h.2⟩
  have oc : ∀ c C, A.cs.lookup c = some C → OCls K C := fun c C h => by
    have h' := (c3 _ (lookup_in h)).1
    simp only [oclsB, Bool.and_eq_true] at h'
    obtain ⟨⟨⟨⟨h1, h2⟩, h3⟩, h4⟩, h5⟩ := h'
    obtain ⟨k1, k2, k3, k4⟩ := cb h1
    exact ⟨⟨h2, h3, h4, isC_of h5⟩, k1, k2, k3, k4⟩
  refine ⟨rfl, fun x hx => ?_, fun t x c hxc u v hu hv => ?_, fun c C x f hC hf => ?_, fun c C hC => ?_, oc, fun x c hxc => ?_, fun t x c hxc hlt Ct Cc hCt hCc => ?_⟩
  · obtain ⟨g, hg⟩ := lookup_some (l := gs) hx
    have := q _ (lookup_in hg)
    refine ⟨?_, this.2⟩
    show GlOkM _ P w K mg base k x ((gs.lookup x).getD .bad)
    rw [hg]
    exact this.1
  · have h' := c1 _ hxc
    dsimp only at h'
    split at h'
    · rename_i v' q'
      simp only [Bool.and_eq_true, List.all_eq_true] at h'
      have e := (clVal_of X Gm q').2 v hv
      subst e
      exact isB_of (h'.1.2 _ (tys_of hu))
    · cases h'
  · have h' := c4 _ hf
    dsimp only at h'
    refine ⟨?_, (oc c C hC).cl, isN0_of ((c3 _ (lookup_in hC)).2 _ hf)⟩
    split at h'
    · rename_i y hy
      show FLD[f]? = some x
      rw [hy, beq_iff_eq.mp h']
    · cases h'
  · have h' := c2 _ (lookup_in hC)
    simp only [xclsB, Bool.and_eq_true] at h'
    obtain ⟨⟨⟨⟨h1, h2⟩, h3⟩, h4⟩, h5⟩ := h'
    obtain ⟨k1, k2, k3, k4⟩ := cb h1
    exact ⟨isC_of h2, isN0_of h3, k1, k2, k3, k4, isB_of h4, h5⟩
  · have h' := c1 _ hxc
    dsimp only at h'
    split at h'
    · rename_i v q'
      simp only [Bool.and_eq_true] at h'
      have hcv := h'.1.1
      refine ⟨v, (match v with | .ref C => V.ref C | .type n => V.ty n | _ => V.non), (clVal_of X Gm q').1, ?_⟩
      cases v with
      | ref C => exact .inl ⟨C, rfl, rfl⟩
      | type n => exact .inr ⟨n, rfl, rfl⟩
      | _ => cases hcv
    · cases h'
  · have h' := c1 _ hxc
    dsimp only at h'
    split at h'
    · rename_i v q'
      simp only [Bool.and_eq_true, Bool.or_eq_true] at h'
      have e := (clVal_of X Gm q').2 (.ref Cc) (.inl hCc)
      subst e
      have h3 := h'.2.resolve_left (fun z => by have := Nat.le_of_ble_eq_true z; omega)
      simp only [List.all_eq_true] at h3
      exact isB_of (h3 _ (lookup_in hCt))
    · cases h'
end
end NH
end
section
set_option linter.all false
set_option maxRecDepth 100000
set_option maxHeartbeats 4000000
namespace NH
open PySem PySem.Spec PyProof.Rows L2
section
variable {X : Cx} {D : DP} {W : XW} {Γ : Cn} {k : Nat} {pins : List (Addr × Obj)} {s : Shared} {σ : St} {H : Hp} {φ α : List Addr} {τ : Sl} {μ : Mem} {pos : Pos}
end
end NH
end
section
set_option linter.all false
set_option maxRecDepth 100000
set_option maxHeartbeats 4000000
namespace NH
open PySem PySem.Spec PyProof.Rows L2
end NH
end
section
set_option linter.all false
set_option maxRecDepth 100000
set_option maxHeartbeats 4000000
namespace NH
open PySem PySem.Spec PyProof.Rows L2
abbrev eB2 (op : T → T → Mem → RE T) (f g : De) : De := fun τ μ => (f τ μ).bind fun x μ1 => (g τ μ1).bind fun y μ2 => op x y μ2
abbrev min2T (x y : T) (μ : Mem) : RE T := match x, y with
  | .int a, .int b => .ok (.int (if b < a then b else a)) μ
  | _, _ => .st
section
variable {X : Cx} {D : DP} {W : XW} {Γ : Cn} {k : Nat} {pins : List (Addr × Obj)} {s : Shared} {σ : St} {H : Hp} {φ α : List Addr} {τ : Sl} {μ : Mem} {f g h : De} {a b c : Expr} {pos : Pos} {es : List Expr}
def B2 (X : Cx) (D : DP) (W : XW) (fv : Value) (op : T → T → Mem → RE T) : Prop :=
  ∀ (pins : List (Addr × Obj)) (s : Shared) (σ : St) (H : Hp) (φ α : List Addr) (μ : Mem) (t t' : T) (v v' : V) (u u' : Value) (Q : VK), Inv X pins σ H s → MRel D φ α H μ → Den D φ α H t v → Den D φ α H t' v' → RelV v u → RelV v' u' → Post D W φ α H σ (RV D φ Q) (op t t' μ) →
    wpAny (model X.prog X.w) X.A (call fv [u, u']) (EP X pins σ Q) X.xe s
theorem se_b2 (C : Ck D W Γ X k) {x : Str} {id : String} {op : T → T → Mem → RE T} {p0 : Pos} (hx : x ∈ Γ.G) (hg : Γ.gl x = .none) (hv : bootBuiltins x = some (.builtin id)) (hn : x ≠ "__name__") (ha' : noStar a = true) (hb' : noStar b = true) (hB : B2 X D W (.builtin id) op) (ha : PE X a (rdE D W f)) (hb : PE X b (rdE D W g)) :
    PE X (.Call (.Name x p0) [a, b] [] pos) (rdE D W (eB2 op f g)) := by
  have hm := C.glo _ hx
  rw [hg] at hm
  rintro pins s σ H Q I ⟨φ, α, τ, μ, sr, mr, p⟩
  refine wpAny_Call_Name_kw (ld_blt I (C.glb _ hx) hm hv ?_ hn (C.dbG _ hx))
  refine PyProof.Rows.callWith_builtin1 (thn (pa_cons ha (pa_cons hb pa_nil (noStar_of hb')) (noStar_of ha') pos pins s σ H (fun vs H2 => ∃ v1 v2 t1 t2 μ2 α2, vs = [v1, v2] ∧ MRel D φ α2 H2 μ2 ∧ Den D φ α2 H2 t1 v1 ∧ Den D φ α2 H2 t2 v2 ∧ Post D W φ α2 H2 σ (RV D φ Q) (op t1 t2 μ2)) I
    ⟨φ, α, τ, μ, sr, mr, p.bind.mono fun t1 μ1 α1 H1 st1 m1 q1 v1 d1 => ⟨φ, α1, τ, μ1, sr.step st1, m1, q1.bind.mono fun t2 μ2 α2 H2 st2 m2 q2 v2 d2 => ⟨v1, v2, t1, t2, μ2, α2, rfl, m2, d1.step st2, d2, q2⟩⟩⟩) ?_) (noStar_of ha') (noStars (by simp [hb']))
  rintro us s1 ⟨vs, H1, I1, rv, v1, v2, t1, t2, μ2, α2, rfl, m, d1, d2, q⟩
  obtain ⟨u1, u2, rfl, r1, r2⟩ := vals2 rv
  exact hB pins s1 σ H1 φ α2 μ2 t1 t2 v1 v2 u1 u2 Q I1 m d1 d2 r1 r2 q
theorem b_min2 (hc : X.calm = true) : B2 X D W (.builtin "min") min2T := by
  intro pins s σ H φ α μ t t' v v' u u' Q I mr d d' r r' p
  unfold min2T at p
  split at p
  · cases d; cases d'
    obtain ⟨t1, rfl⟩ := r
    obtain ⟨t2, rfl⟩ := r'
    refine min_two_ints (I.ok.hd hc) fun h' tk kp => ?_
    have I1 : Inv X pins σ H { s with heap := h', toks := tk } := I.kept kp
    rename_i i j
    by_cases z : j < i
    · rw [if_pos z] at p ⊢
      exact ⟨.int j, H, I1, ⟨_, rfl⟩, p.here mr rfl⟩
    · rw [if_neg z] at p ⊢
      exact ⟨.int i, H, I1, ⟨_, rfl⟩, p.here mr rfl⟩
  · exact p.elim
theorem intsAre_of : ∀ {ns : List Int} {us : List Value}, Vals (ns.map V.int) us → IntsAre us ns
  | [], _, .nil => .nil
  | n :: ns, _, .cons r q => by
    obtain ⟨t, rfl⟩ := r
    exact .cons n t (intsAre_of q)
end
def rB2 (nm : Str) (op : T → T → Mem → RE T) : ER := fun r Γ e => match e with
  | .Call (.Name x _) [a, b] [] _ => gd (x == nm && (idx Γ.N x).isNone && noStar a && noStar b && Γ.calm) ((r.e Γ a).bind fun f => (r.e Γ b).bind fun g => (match Γ.look x with
    | .none => some (eB2 op f g)
    | _ => none))
  | _ => none
theorem rB2_ok {D : DP} {nm : Str} {op : T → T → Mem → RE T} (H1 : ∀ {X : Cx} {W : XW} {Γ : Cn} {k : Nat} {a b : Expr} {f g : De} {p0 pos : Pos}, Ck D W Γ X k → nm ∈ Γ.G → Γ.gl nm = .none → Γ.calm = true → noStar a = true → noStar b = true → PE X a (rdE D W f) → PE X b (rdE D W g) → PE X (.Call (.Name nm p0) [a, b] [] pos) (rdE D W (eB2 op f g))) : EOk D (rB2 nm op) := by
  intro r H X W Γ k e d C h
  unfold rB2 at h
  split at h
  · rename_i x p0 a b pos
    have hh := gd_of h
    clear h
    obtain ⟨hb, h⟩ := hh
    simp only [Bool.and_eq_true, beq_iff_eq] at hb
    obtain ⟨⟨⟨⟨rfl, h2⟩, h3⟩, h4⟩, h5⟩ := hb
    obtain ⟨f, h1, h⟩ := bnd h
    obtain ⟨g, h6, h⟩ := bnd h
    cases hl : Γ.look x with
    | none =>
      simp only [hl] at h
      cases h
      obtain ⟨hx, hg⟩ := look_eq hl (by intro z; cases z)
      exact H1 C hx hg h5 h3 h4 (H.e C h1) (H.e C h6)
    | _ => simp [hl] at h
  · cases h
def rMin2 : ER := rB2 "min" min2T
theorem rMin2_ok {D : DP} : EOk D rMin2 := rB2_ok fun C hx hg hc h1 h2 ha hb => se_b2 C hx hg (by decide +kernel) (by decide) h1 h2 (b_min2 (C.clm hc)) ha hb
end NH
end
section
set_option linter.all false
set_option maxRecDepth 100000
set_option maxHeartbeats 4000000
namespace NH
open PySem PySem.Spec PyProof.Rows L2
abbrev storeMk (c : Nat) (g : Fn) (ts : List T) (μ : Mem) : RE T := fun K Z => g (.mut μ.length :: ts) (μ ++ [.obj c []]) (fun r μ1 => r = .non ∧ K (.mut μ.length) μ1) Z
noncomputable abbrev eMkL (c : Nat) (g : Fn) (fs : List De) : De := fun τ μ => (evs fs τ μ).bind (storeMk c g)
section
variable {X : Cx} {D : DP} {W : XW} {Γ : Cn} {k : Nat} {pins : List (Addr × Obj)} {s : Shared} {σ : St} {H : Hp} {φ α : List Addr} {τ : Sl} {μ : Mem} {fs : List De} {a b c : Expr} {pos : Pos} {es : List Expr}
end
section
variable {X : Cx} {D : DP} {W : XW} {Γ : Cn} {k : Nat} {pins : List (Addr × Obj)} {s : Shared} {σ : St} {H : Hp} {φ α : List Addr} {τ : Sl} {μ : Mem} {f : De} {a tg : Expr} {pos : Pos}
end
end NH
end
section
set_option linter.all false
set_option maxRecDepth 100000
set_option maxHeartbeats 4000000
namespace NH
open PySem PySem.Spec PyProof.Rows L2
section
variable {X : Cx} {pins : List (Addr × Obj)} {s : Shared} {σ : St} {H : Hp}
theorem inv_trackT {x : Addr} {o : HO} (I : Inv X pins σ H s) (ox : XOk X H x) (hp : ∀ p ∈ pins, p.1 ≠ x) (hx : ObjOk X.prog X.w (upd H x o) s.heap x o) : Inv X pins σ (upd H x o) s := by
  have ne : ∀ b, H b ≠ none → b ≠ x := fun b h z => h (by rw [z]; exact ox.free)
  refine ⟨I.ok, I.os, I.bare, ⟨I.base.keep, I.base.slot, fun b o e n hx' => ?_, I.base.there, fun b xs e => ?_, fun b o u e => ?_, fun b ps e => ?_⟩, I.loc, I.cell, ?_, fun y c e => ?_, fun p hp' => ?_, fun b ob e => ?_, I.len⟩
  · have : b ≠ x := fun z => by
      rcases ox.new with q | q
      · exact hx' (by rw [z]; exact q)
      · rw [← z, e] at q; cases q
    rw [upd_ne this]; exact I.base.free b o e n hx'
  · have q := I.base.tups b xs e
    rw [upd_ne (ne b (by rw [q]; simp))]; exact q
  · have q := I.base.frzs b o u e
    rw [upd_ne (ne b (by rw [q]; simp))]; exact q
  · obtain ⟨more, q⟩ := I.base.tbls b ps e
    exact ⟨more, by rw [upd_ne (ne b (by rw [q]; simp))]; exact q⟩
  · rw [upd_ne (Ne.symm ox.loc)]; exact I.free
  · rw [upd_ne (ox.cel y c e)]; exact I.freeC y c e
  · obtain ⟨e, n, r⟩ := I.pin p hp'
    have : p.1 ≠ x := (List.mem_append.mp hp').elim (ox.pin p) (hp p)
    exact ⟨e, by rw [upd_ne this]; exact n, r⟩
  · by_cases z : b = x
    · subst z
      rw [upd_same] at e
      cases e
      exact hx
    · rw [upd_ne z] at e
      exact (I.hok b ob e).stay (fun _ _ _ q => q) (fun c q => by
        by_cases w : c = x
        · rw [w, ox.free] at q; cases q
        · rw [upd_ne w]; exact q) fun c _ q => by
        by_cases w : c = x
        · rw [w, ox.free] at q; cases q
        · rw [upd_ne w]; exact q
theorem fp_xok {b : Addr} (f : FpOk X pins H b) : XOk X H b ∧ ∀ p ∈ pins, p.1 ≠ b :=
  ⟨⟨f.1, f.2.1, f.2.2.1, f.2.2.2.1.imp id fun h => Heap.get?_none_of_le h, f.2.2.2.2.1, fun p hp => f.2.2.2.2.2 p (List.mem_append_left _ hp)⟩, fun p hp => f.2.2.2.2.2 p (List.mem_append_right _ hp)⟩
end
def ItEn (K : PySem.W.Frag) (a : Addr) : It := ⟨fun i H => ∃ xs x, SqL K H a xs ∧ xs[i]? = some x, fun i H v H' => ∃ p x, H p = none ∧ H' = upd H p (.tup [.int i, x]) ∧ v = .ref p ∧ ∀ xs, SqL K H a xs → xs[i]? = some x, fun i H => ∃ xs, SqL K H a xs ∧ xs.length ≤ i⟩
theorem turn_enum {P : Program} {w : World} {K : PySem.W.Frag} {elts : List Expr} {x1 : Nat} {tp : Pos} (a e it : Addr) (hei : e ≠ it) : Turn P w K (.Tuple elts x1 tp) (ItEn K a) [e, it] e (fun i h => (∃ old, IsEnum h e it (i : Nat) old) ∧ h.IsListIter it a i) where
  mem := by simp
  obj := fun i h st b hb => by
    obtain ⟨⟨old, he⟩, o, ho, hc, hd⟩ := st
    have : b = e ∨ b = it := by simpa using hb
    rcases this with rfl | rfl
    · exact ⟨_, he, fun v z => by cases (show Data.fields _ = Data.cell v from z)⟩
    · exact ⟨o, ho, fun v z => by rw [hd] at z; cases z⟩
  keep := fun i h h' st k => ⟨let ⟨old, he⟩ := st.1; ⟨old, k e (by simp) _ he⟩, st.2.at fun o q => k it (by simp) o q⟩
  item := by
    intro X hP hw hK hc i pins s σ H E I hf st hg
    subst hP hw hK
    obtain ⟨⟨old, he⟩, hit⟩ := st
    obtain ⟨xs, x, hq, hx⟩ := hg
    obtain ⟨its, rv, p, hz⟩ := I.list hq
    obtain ⟨u, hu, ru⟩ := rv.get hx
    have fe := fp_xok (hf e (by simp))
    have fi := fp_xok (hf it (by simp))
    have hes : e < s.heap.objs.size := Heap.lt_size he
    have his : it < s.heap.objs.size := by obtain ⟨o, ho, _⟩ := hit; exact Heap.lt_size ho
    refine wpAny_pyNext_enum_item he hit p.isList (x := u) (by simpa using hu) hei fun h1 heo hit1 ht hz1 hk1 => ?_
    refine ⟨_, rfl, wpAny_letOwnedTupleGo_enum heo fun h2 he2 hs2 => ?_⟩
    have hs2 : Heap.SameBut e h1 h2 := hs2
    have kp : ∀ b o, b ≠ e → b ≠ it → s.heap.get? b = some o → h2.get? b = some o := fun b o h3 h4 q => (hs2.2 b h3).trans (hk1 b o h3 h4 q)
    have I1 : Inv X pins σ H { s with heap := h2 } := inv_step (ch := [e, it]) I (fun b hb => by
      have : b = e ∨ b = it := by simpa using hb
      rcases this with rfl | rfl
      · exact fe
      · exact fi) (fun b o _ hb q => kp b o (fun z => hb (by simp [z])) (fun z => hb (by simp [z])) q) fun b o _ hb q => ⟨o.slots, kp b o (fun z => hb (by simp [z])) (fun z => hb (by simp [z])) q⟩
    have I2 : Inv X pins σ H { s with heap := h2, toks := s.toks + 1 } := I1.tok _
    have htup : h2.get? s.heap.objs.size = some { cls := .type "tuple", data := .seq #[.int i s.toks, u] } := (hs2.2 _ (Nat.ne_of_gt hes)).trans ht
    have hn : H s.heap.objs.size = none := I.hok.fresh (Nat.le_refl _)
    have fn := fp_xok (I.fpOk (Nat.le_refl _) hn)
    have I3 : Inv X pins σ (upd H s.heap.objs.size (.tup [.int i, x])) { s with heap := h2, toks := s.toks + 1 } := inv_trackT I2 fn.1 fn.2 (show ObjOk X.prog X.w _ h2 _ (.tup [.int i, x]) from ⟨by rw [sizeLine_eq]; simp, [.int i s.toks, u], .cons ⟨_, rfl⟩ (.cons ru .nil), ⟨_, htup, rfl, _, rfl⟩⟩)
    refine ⟨.ref s.heap.objs.size, _, I3, rfl, ⟨s.heap.objs.size, x, hn, rfl, rfl, fun ys hy => by rw [I.list_inj hy hq]; exact hx⟩, ⟨⟨u, he2⟩, hit1.at fun o q => (hs2.2 it (Ne.symm hei)).trans q⟩, fun b hb => ?_⟩
    have : b = e ∨ b = it := by simpa using hb
    rcases this with rfl | rfl
    · rw [upd_ne (Nat.ne_of_lt hes)]; exact fe.1.free
    · rw [upd_ne (Nat.ne_of_lt his)]; exact fi.1.free
  done := by
    intro X hP hw hK hc i pins s σ H E I hf st hg
    subst hP hw hK
    obtain ⟨⟨old, he⟩, hit⟩ := st
    obtain ⟨xs, hq, hx⟩ := hg
    obtain ⟨its, rv, p, hz⟩ := I.list hq
    obtain ⟨f0, f1, f2, f3, f4, f5⟩ := hf it (by simp)
    have hl := rv.length
    exact wpAny_pyNext_enum_end (I.ok.hd hc) he hit p.isList (by simp; omega) fun h' eb => ⟨rfl, I.turned (t' := s.toks) (fun b o hb e => eb b o hb e) f0 f1 f3 f4 f5⟩
  self := fun _ _ _ _ _ st h => let ⟨⟨old, he⟩, _⟩ := st; wpAny_pyIter_enum he h
def enumT : Int → List T → List T
  | _, [] => []
  | i, x :: r => .tup [.int i, x] :: enumT (i + 1) r
theorem enumT_len : ∀ {xs : List T} {i : Int}, (enumT i xs).length = xs.length
  | [], _ => rfl
  | x :: r, i => by simp [enumT, enumT_len]
theorem enumT_get : ∀ {xs : List T} {k : Int} {i : Nat} {t : T}, (enumT k xs)[i]? = some t → ∃ x, xs[i]? = some x ∧ t = .tup [.int (k + i), x]
  | [], _, _, _, h => by simp [enumT] at h
  | x :: r, k, 0, t, h => by
    have h : some (T.tup [.int k, x]) = some t := h
    cases h
    exact ⟨x, rfl, by simp⟩
  | x :: r, k, i + 1, t, h => by
    obtain ⟨y, hy, e⟩ := enumT_get (xs := r) (k := k + 1) (i := i) (t := t) h
    refine ⟨y, hy, ?_⟩
    rw [e, show k + ((i + 1 : Nat) : Int) = k + 1 + i by omega]
abbrev enumI (t : T) (μ : Mem) : RI := match t with
  | .lst xs => .ok (enumT 0 xs) lvT μ
  | .mut i => fun K _ => ∃ xs, μ[i]? = some (.lst xs) ∧ K (enumT 0 xs) (lvM i xs) μ
  | _ => .st
abbrev iEnum (f : De) : Di := fun τ μ => (f τ μ).it enumI
section
variable {X : Cx} {D : DP} {W : XW} {Γ : Cn} {k : Nat} {pins : List (Addr × Obj)} {s : Shared} {σ : St} {H : Hp} {φ α : List Addr} {τ : Sl} {μ : Mem} {f : De} {a tg : Expr} {pos : Pos}
theorem itv_enum {K : PySem.W.Frag} {ad : Addr} {xs : List T} : ItV D (ItEn K ad) (fun φ α H => (∃ vs, Rd H ad (.lst vs) ∧ DenL D φ α H xs vs) ∧ (∀ p, H p = none → p ∉ φ ∧ p ∉ α)) (enumT 0 xs) :=
  ⟨fun i φ α H ⟨⟨vs, ok, l⟩, _⟩ hi => by
    have hi : i < vs.length := by rw [← l.length, ← enumT_len (i := 0)]; exact hi
    exact ⟨vs, vs[i], .inl ok, by simp⟩, fun i φ α H v H' t ⟨⟨vs, ok, l⟩, fr⟩ hi y => by
    obtain ⟨p, z, hp, rfl, rfl, hy⟩ := y
    obtain ⟨x, hx, rfl⟩ := enumT_get hi
    obtain ⟨v, hv, d⟩ := l.get hx
    have e := hy vs (.inl ok)
    rw [e] at hv; cases hv
    have sm : Same H (upd H p (.tup [.int i, z])) := same_upd hp
    refine ⟨sm, p, _, rfl, (fr p hp).1, (fr p hp).2, .inl upd_same, _, _, rfl, ?_, _, _, rfl, d.step (Stp.new sm), rfl⟩
    show V.int _ = V.int _
    simp, fun φ α H ⟨⟨vs, ok, l⟩, _⟩ => ⟨vs, .inl ok, by rw [enumT_len, l.length]; exact Nat.le_refl _⟩⟩
theorem si_enum (C : Ck D W Γ X k) {p0 tp : Pos} {elts : List Expr} {x1 : Nat} (hx : ("enumerate" : Str) ∈ Γ.G) (hg : Γ.gl "enumerate" = .none) (hs : noStar a = true) (ha : PE X a (rdE D W f)) :
    PI X (.Tuple elts x1 tp) (.Call (.Name "enumerate" p0) [a] [] pos) (rdI D W (iEnum f)) := by
  have hm := C.glo _ hx
  rw [hg] at hm
  rintro pins s σ H R I ⟨φ, α, τ, μ, sr, mr, p⟩
  refine wpAny_Call_Name_kw (ld_blt I (C.glb _ hx) hm (show bootBuiltins "enumerate" = some (.type "enumerate") by decide +kernel) ?_ (by decide) (C.dbG _ hx))
  refine PyProof.Rows.callWith_type1 (thn (pa_cons ha pa_nil (noStar_of hs) pos pins s σ H (fun vs H1 => ∃ v t μ1 α1, vs = [v] ∧ Stp α H α1 H1 ∧ MRel D φ α1 H1 μ1 ∧ Den D φ α1 H1 t v ∧ Post D W φ α1 H1 σ (fun p μ' α' H' => ∀ J Ok, ItV D J Ok p.1 → OkI D φ α' H' p.1 p.2 Ok → p.2 μ' → R J H') (enumI t μ1).re) I ⟨φ, α, τ, μ, sr, mr, (show Post D W φ α H σ _ ((f τ μ).bind fun t μ1 => (enumI t μ1).re) from p).bind.mono fun t μ' α' H' st m q v d => ⟨v, t, μ', α', rfl, st, m, d, q⟩⟩) ?_) (noStar_of hs) rfl
  rintro us s1 ⟨vs, H1, I1, rv, v, t, μ1, α1, rfl, st, m, d, q⟩
  obtain ⟨u, rfl, r1⟩ := vals1 rv
  have fin : ∀ {ad : Addr} {vs : List V} {xs : List T}, u = .ref ad → Rd H1 ad (.lst vs) → DenL D φ α1 H1 xs vs → R (ItEn X.K ad) H1 → wpAny (model X.prog X.w) X.A (call (.type "enumerate") [u]) (fun v s1 => wpAny (model X.prog X.w) X.A (pyIter v) (PIE X pins σ (.Tuple elts x1 tp) R) X.xe s1) X.xe s1 := fun {ad vs xs} hu q l hR => by
    subst hu
    obtain ⟨its, rv2, pl, hz⟩ := I1.list (.inl q)
    refine call_enumerate_list pl.isList fun h' he hi hz' kp => ?_
    refine wpAny_pyIter_enum he ?_
    refine ⟨s1.heap.objs.size + 1, [s1.heap.objs.size + 1, s1.heap.objs.size], _, _, H1, rfl, I1.kept (t' := s1.toks) kp, turn_enum ad _ _ (Nat.succ_ne_self _), ⟨⟨_, he⟩, hi⟩, fun b hb => ?_, hR⟩
    have : b = s1.heap.objs.size + 1 ∨ b = s1.heap.objs.size := by simpa using hb
    rcases this with rfl | rfl
    · exact I1.fpOk (Nat.le_succ _) (I1.hok.fresh (Nat.le_succ _))
    · exact I1.fpOk (Nat.le_refl _) (I1.hok.fresh (Nat.le_refl _))
  cases t with
  | lst ts =>
    obtain ⟨ad, vs, rfl, n1, n2, q1, l⟩ := d
    have p2 : Post D W φ α1 H1 σ _ (RE.ok (enumT 0 ts, lvT) μ1) := q
    refine fin r1 q1 l (p2.ok (Stp.refl _ _) m _ _ itv_enum (fun φ' α' H' μ' lk mm _ => ⟨?_, fun p hp => ⟨fresh_phi mm hp, fresh_out mm hp⟩⟩) trivial)
    obtain ⟨a', ws, e, _, _, q', l'⟩ := Den.lk lk (show Den D φ α1 H1 (.lst ts) (.ref ad) from ⟨ad, vs, rfl, n1, n2, q1, l⟩)
    cases e; exact ⟨ws, q', l'⟩
  | «mut» j =>
    obtain ⟨ad, hj, rfl⟩ := d
    have p2 : Post D W φ α1 H1 σ _ (fun K _ => ∃ xs, μ1[j]? = some (.lst xs) ∧ K (enumT 0 xs, lvM j xs) μ1) := q
    obtain ⟨xs, hx2, p2⟩ := p2.ex1
    obtain ⟨vs, q1, l⟩ := m.ob j ad _ hj hx2
    have p2 : Post D W φ α1 H1 σ _ (RE.ok (enumT 0 xs, lvM j xs) μ1) := p2
    refine fin r1 (.inl q1) l (p2.ok (Stp.refl _ _) m _ _ itv_enum (fun φ' α' H' μ' lk mm hl => ⟨?_, fun p hp => ⟨fresh_phi mm hp, fresh_out mm hp⟩⟩) hx2)
    obtain ⟨ws, q', l'⟩ := mm.ob j ad _ (lk.st j ad hj) hl
    exact ⟨ws, .inl q', l'⟩
  | _ => exact Post.elim q
end
def riEnum : IR := fun r Γ e => match e with
  | .Call (.Name x _) [a] [] _ => gd (x == ("enumerate" : Str) && (idx Γ.N x).isNone && noStar a) ((r.e Γ a).bind fun f => (match Γ.look x with
    | .none => some (iEnum f)
    | _ => none))
  | _ => none
theorem riEnum_ok {D : DP} : IOk D riEnum := by
  intro r H X W Γ k tg e d C ht h
  unfold riEnum at h
  split at h
  · rename_i x p0 a pos
    have hh := gd_of h
    clear h
    obtain ⟨hb, h⟩ := hh
    simp only [Bool.and_eq_true] at hb
    obtain ⟨⟨h0, h2⟩, h3⟩ := hb
    have h0 := beq_iff_eq.mp h0
    subst h0
    obtain ⟨f, h1, h⟩ := bnd h
    cases hl : Γ.look "enumerate" with
    | none =>
      simp only [hl] at h
      cases h
      obtain ⟨hx, hg⟩ := look_eq hl (by intro z; cases z)
      cases tg with
      | Tuple elts x1 tp => exact si_enum C hx hg h3 (H.e C h1)
      | _ => simp [okTg] at ht
    | _ => simp [hl] at h
  · cases h
end NH
end
section
set_option linter.all false
set_option maxRecDepth 100000
set_option maxHeartbeats 4000000
namespace NH
open PySem PySem.Spec PyProof.Rows L2
section
variable {X : Cx} {D : DP} {W : XW} {Γ : Cn} {k : Nat} {pins : List (Addr × Obj)} {s : Shared} {σ : St} {H : Hp} {φ α : List Addr} {τ : Sl} {μ : Mem} {f : De} {g : Dp} {a : Expr} {pos p2 : Pos}
end
end NH
end
section
set_option linter.all false
set_option maxRecDepth 100000
namespace L2
open PySem PySem.Spec PyProof.Rows
section
variable {κ : Type} [DecidableEq κ]
end
section
variable {P : Program} {w : World} {H : Hp} {h : Heap} {a : Addr}
end
section
variable {X : Cx} {pins : List (Addr × Obj)} {σ : St} {H : Hp} {s : Shared} {a : Addr} {y v : V} {u r : Value} {o : Option V} {A : Around} {E : Value → Shared → Prop}
end
section
variable {X : Cx} {pins : List (Addr × Obj)} {σ : St} {H : Hp} {s : Shared} {a : Addr} {kvs : List (Key × V)} {k : Key} {u : Value} {A : Around} {E : Value → Shared → Prop}
end
section
variable {X : Cx} {o i e value : Expr} {pos pos' tpos : Pos} {td ty tv : TE}
end
section
variable {X : Cx} {pos : Pos}
end
section
variable {X : Cx} {pins : List (Addr × Obj)} {σ : St} {H : Hp} {s : Shared} {a : Addr} {y d : V} {u r : Value} {o : Option V} {A : Around} {E : Value → Shared → Prop}
end
section
variable {X : Cx} {o e f : Expr} {apos cpos : Pos} {td ty tx : TE}
end
section
variable {X : Cx} {pins : List (Addr × Obj)} {σ : St} {H : Hp} {s : Shared} {a : Addr} {kvs : List (Key × V)} {A : Around} {E : Value → Shared → Prop}
end
section
variable {X : Cx} {pins : List (Addr × Obj)} {σ : St} {H : Hp} {s : Shared} {a : Addr} {y : V} {u : Value} {A : Around} {E : Value → Shared → Prop}
end
end L2
end
section
set_option linter.all false
set_option maxRecDepth 100000
set_option maxHeartbeats 4000000
namespace NH
open PySem PySem.Spec PyProof.Rows L2
abbrev eDicT : De := fun _ μ => .ok (.dic []) μ
section
variable {X : Cx} {D : DP} {W : XW} {Γ : Cn} {k : Nat} {pins : List (Addr × Obj)} {s : Shared} {σ : St} {H : Hp} {φ α : List Addr} {τ : Sl} {μ : Mem} {f g : De} {a b : Expr} {pos : Pos}
end
end NH
end
section
set_option linter.all false
set_option maxRecDepth 100000
namespace NH.P
open PySem L2 NH
@[reducible] def b_is_whole : List Ds := [(sRet (eAnd (eIsi [2] (eV 0)) (eNot (eIsi [1] (eV 0)))))]
def is_whole : Fn := fnW 1 0 b_is_whole
end NH.P
end
section
set_option linter.all false
set_option maxRecDepth 100000
namespace NH.P
open PySem L2 NH
@[reducible] def b_is_size : List Ds := [(sRet (eAnd (eCall is_whole [(eV 0)]) (eCmp .GtE (eV 0) (eC (.int 1)))))]
def is_size : Fn := fnW 1 0 b_is_size
@[reducible] def b_is_below : List Ds := [(sRet (eAnd (eCall is_whole [(eV 0)]) (eCh (eC (.int 0)) [(.LtE, (eV 0)), (.Lt, (eV 1))])))]
def is_below : Fn := fnW 2 0 b_is_below
@[reducible] def b_Shape_init : List Ds := [(sIf (tNot (tAnd (tE (eCall is_size [(eV 1)])) (tAnd (tE (eCall is_size [(eV 2)])) (tE (eCall is_size [(eV 3)]))))) [(sRaise 12 [(eC (.str "a shape has three whole numbers from 1 on"))])] []), (sFld (eV 0) 0 (eV 1)), (sFld (eV 0) 1 (eV 2)), (sFld (eV 0) 2 (eV 3))]
def Shape_init : Fn := fnW 4 0 b_Shape_init
@[reducible] def b_names_in : List Ds := [(sRet (eBin .Mult (eBin .Mult (eFld (eV 0) 0) (eFld (eV 0) 1)) (eFld (eV 0) 2)))]
def names_in : Fn := fnW 1 0 b_names_in
@[reducible] def b_is_name : List Ds := [(sRet (eCall is_below [(eV 1), (eCall names_in [(eV 0)])]))]
def is_name : Fn := fnW 2 0 b_is_name
@[reducible] def b_check_name : List Ds := [(sIf (tNot (tE (eCall is_name [(eV 0), (eV 1)]))) [(sRaise 13 [(eC (.str "no name of the shape"))])] [])]
def check_name : Fn := fnW 2 0 b_check_name
@[reducible] def b_l_cell_at : List Ds := [(sIf (tE (eCmp .Lt (eV 1) (eB1 lenT (eV 0)))) [(sRet (eIx (eV 0) (eV 1)))] []), (sRet (eC (.int 0)))]
def l_cell_at : Fn := fnW 2 0 b_l_cell_at
end NH.P
end
section
set_option linter.all false
set_option maxRecDepth 100000
namespace NH.P
open PySem L2 NH
@[reducible] def b_parts_of : List Ds := [(sExpr (eCall check_name [(eV 0), (eV 1)])), (sSet 2 (eBin .Mod (eV 1) (eFld (eV 0) 2))), (sSet 3 (eBin .FloorDiv (eV 1) (eFld (eV 0) 2))), (sRet (eTup [(eBin .FloorDiv (eV 3) (eFld (eV 0) 1)), (eBin .Mod (eV 3) (eFld (eV 0) 1)), (eV 2)]))]
def parts_of : Fn := fnW 2 2 b_parts_of
end NH.P
end
section
set_option linter.all false
set_option maxRecDepth 100000
set_option maxHeartbeats 4000000
namespace NH
open PySem PySem.Spec PyProof.Rows L2
section
variable {X : Cx} {D : DP} {W : XW} {Γ : Cn} {k : Nat} {pins : List (Addr × Obj)} {s : Shared} {σ : St} {H : Hp} {φ α : List Addr} {τ : Sl} {μ : Mem} {f g h : De} {a b c : Expr} {pos : Pos} {es : List Expr}
end
end NH
end
section
set_option linter.all false
set_option maxRecDepth 100000
set_option maxHeartbeats 4000000
namespace NH
open PySem PySem.Spec PyProof.Rows L2
section
variable {P : Program} {w : World} {K : PySem.W.Frag} {mg : Str → Option Value} {base : Heap} {D : DP} {Γ : Cn} {k n : Nat}
end
section
variable {X : Cx} {D : DP} {W : XW} {Γ : Cn} {k : Nat} {pins : List (Addr × Obj)} {s : Shared} {σ : St} {H : Hp} {φ α : List Addr} {τ : Sl} {μ : Mem} {fs : List De} {a b c : Expr} {pos : Pos} {es : List Expr}
end
end NH
end
section
set_option linter.all false
set_option maxRecDepth 100000
set_option maxHeartbeats 400000
namespace NH
open PySem PySem.Spec PyProof.Rows L2
section
variable {prog : Program} {w : World} {A : Around} {E : Value → Shared → Prop} {s : Shared} {l I S : Addr} {vs : List Value} {R : Result → Shared → Prop} {Q : Value → Shared → Prop}
def RowAt (h : Heap) (v : Value) (ns : List Int) : Prop := ∃ a items, v = .ref a ∧ IsTup h a items ∧ IntsAre items.toList ns
theorem RowAt.keep {h h' : Heap} {v : Value} {ns : List Int} (r : RowAt h v ns) (k : ∀ b o, h.get? b = some o → h'.get? b = some o) : RowAt h' v ns := by
  obtain ⟨a, items, e, ⟨o, ho, hc⟩, hi⟩ := r
  exact ⟨a, items, e, ⟨o, k _ _ ho, hc⟩, hi⟩
end
def rowsOf : List T → Option (List (List Int))
  | [] => some []
  | .tup ts :: r => (intsOf ts).bind fun ns => (rowsOf r).map (ns :: ·)
  | _ :: _ => none
theorem rowsOf_len : ∀ {xs : List T} {rows : List (List Int)}, rowsOf xs = some rows → rows.length = xs.length
  | [], rows, h => by cases h; rfl
  | .tup ts :: r, rows, h => by
    obtain ⟨ns, h1, h⟩ := Option.bind_eq_some_iff.mp h
    obtain ⟨q, h2, rfl⟩ := Option.map_eq_some_iff.mp h
    simp [rowsOf_len h2]
theorem intsOf_eq : ∀ {ts : List T} {ns : List Int}, intsOf ts = some ns → ts = ns.map T.int
  | [], ns, h => by cases h; rfl
  | .int i :: r, ns, h => by
    obtain ⟨q, h2, rfl⟩ := Option.map_eq_some_iff.mp h
    rw [intsOf_eq h2]; rfl
theorem rowsOf_at : ∀ {xs : List T} {rows : List (List Int)} {i : Nat} {ns : List Int}, rowsOf xs = some rows → rows[i]? = some ns → xs[i]? = some (.tup (ns.map T.int))
  | [], rows, i, ns, h, e => by cases h; simp at e
  | .tup ts :: r, rows, i, ns, h, e => by
    obtain ⟨n1, h1, h⟩ := Option.bind_eq_some_iff.mp h
    obtain ⟨q, h2, rfl⟩ := Option.map_eq_some_iff.mp h
    cases i with
    | zero =>
      have e : n1 = ns := by simpa using e
      subst e
      rw [intsOf_eq h1]; rfl
    | succ i => exact rowsOf_at (i := i) h2 (by simpa using e)
section
variable {X : Cx} {D : DP} {W : XW} {Γ : Cn} {k : Nat} {pins : List (Addr × Obj)} {s : Shared} {σ : St} {H : Hp} {φ α : List Addr} {τ : Sl} {μ : Mem}
end
end NH
end
section
set_option linter.all false
set_option maxRecDepth 100000
set_option maxHeartbeats 1000000
namespace NH
open PySem PySem.Spec PyProof.Rows L2
section
variable {X : Cx} {D : DP} {W : XW} {Γ : Cn} {k : Nat} {pins : List (Addr × Obj)} {s : Shared} {σ : St} {H : Hp} {φ α : List Addr} {τ : Sl} {μ : Mem}
end
section
variable {X : Cx} {D : DP} {W : XW} {Γ : Cn} {k n : Nat}
end
end NH
end
section
set_option linter.all false
set_option maxRecDepth 100000
set_option maxHeartbeats 1000000
namespace NH
open PySem PySem.Spec PyProof.Rows L2
section
variable {prog : Program} {w : World} {A : Around} {E : Value → Shared → Prop} {s : Shared} {a : Addr} {vs : List Value} {kz : List Int} {P : PySem.Fin → Shared → Prop} {J : Shared → Prop} {f : Value} {z0 : Nat}
end
end NH
end
section
set_option linter.all false
set_option maxRecDepth 100000
set_option maxHeartbeats 1000000
namespace NH
open PySem PySem.Spec PyProof.Rows L2
section
variable {X : Cx} {D : DP} {W : XW} {Γ : Cn} {k n : Nat} {pins : List (Addr × Obj)} {s : Shared} {σ : St} {H : Hp} {φ α : List Addr} {τ : Sl} {μ : Mem}
end
end NH
end
section
set_option linter.all false
set_option maxRecDepth 100000
set_option maxHeartbeats 1000000
namespace NH
open PySem PySem.Spec PyProof.Rows L2
end NH
end
section
set_option linter.all false
set_option maxRecDepth 100000
set_option maxHeartbeats 1000000
namespace NH
open PySem PySem.Spec PyProof.Rows L2
section
variable {X : Cx} {D : DP} {W : XW} {Γ : Cn} {k : Nat} {pins : List (Addr × Obj)} {s : Shared} {σ : St} {H : Hp} {φ α : List Addr} {τ : Sl} {μ : Mem} {f g : De} {a b : Expr} {pos : Pos}
end
end NH
end
section
set_option linter.all false
set_option maxRecDepth 100000
namespace NH.P
open PySem L2 NH
end NH.P
end
section
set_option linter.all false
set_option maxRecDepth 100000
set_option maxHeartbeats 1000000
namespace NH
open PySem PySem.Spec PyProof.Rows L2
section
variable {X : Cx} {D : DP} {W : XW} {Γ : Cn} {k : Nat} {pins : List (Addr × Obj)} {s : Shared} {σ : St} {H : Hp} {φ α : List Addr} {τ : Sl} {μ : Mem} {f g : De} {a b : Expr} {pos : Pos}
end
end NH
end
section
set_option linter.all false
set_option maxRecDepth 100000
set_option maxHeartbeats 4000000
namespace NH
open PySem PySem.Spec PyProof.Rows L2
section
variable {X : Cx} {D : DP} {W : XW} {Γ : Cn} {k : Nat} {pins : List (Addr × Obj)} {s : Shared} {σ : St} {H : Hp} {φ α : List Addr} {τ : Sl} {μ : Mem} {f g : De} {a b tg : Expr} {pos : Pos}
end
end NH
end
section
set_option linter.all false
set_option maxRecDepth 100000
set_option maxHeartbeats 1000000
namespace NH
open PySem PySem.Spec PyProof.Rows L2
def intsT : T → Option (List Int)
  | .tup ts => intsOf ts
  | _ => none
abbrev memT (neg : Bool) (x y : T) (μ : Mem) : RE T := match x with
  | .tup xs => (match y with
    | .lst ys => fun K _ => ∃ a, intsOf xs = some a ∧ (∀ t ∈ ys, (intsT t).isSome = true) ∧ K (.bl (neg ^^ ys.any fun t => decide (intsT t = some a))) μ
    | .mut i => fun K _ => ∃ ys, μ[i]? = some (MO.lst ys) ∧ ∃ a, intsOf xs = some a ∧ (∀ t ∈ ys, (intsT t).isSome = true) ∧ K (.bl (neg ^^ ys.any fun t => decide (intsT t = some a))) μ
    | _ => .st)
  | _ => .st
abbrev eMem (neg : Bool) (f g : De) : De := fun τ μ => (f τ μ).bind fun x μ1 => (g τ μ1).bind fun y μ2 => memT neg x y μ2
def intV : Value → Option Int
  | .int i _ => some i
  | _ => none
def intsV : List Value → Option (List Int)
  | [] => some []
  | v :: r => (intV v).bind fun i => (intsV r).map (i :: ·)
def valI (h : Heap) : Value → Option (List Int)
  | .ref a => (h.get? a).bind fun o => (match o.data with | .seq its _ => intsV its.toList | _ => none)
  | _ => none
theorem intsV_of : ∀ {ns : List Int} {us : List Value}, Vals (ns.map V.int) us → intsV us = some ns
  | [], _, .nil => rfl
  | n :: ns, _, .cons r q => by
    obtain ⟨t, rfl⟩ := r
    simp [intsV, intV, intsV_of q]
theorem intsOf_map : ∀ {ts : List T} {ns : List Int}, intsOf ts = some ns → ts = ns.map T.int
  | [], ns, h => by simp [intsOf] at h; subst h; rfl
  | .int i :: r, ns, h => by
    simp only [intsOf, Option.map_eq_some_iff] at h
    obtain ⟨ms, h, rfl⟩ := h
    rw [intsOf_map h]; rfl
theorem eqL_ints : ∀ (ns ms : List Int), eqL (ns.map T.int) (ms.map T.int) = some (decide (ns = ms))
  | [], [] => rfl
  | [], m :: ms => rfl
  | n :: ns, [] => rfl
  | n :: ns, m :: ms => by
    have h : (n == m) = decide (n = m) := by by_cases z : n = m <;> simp [z]
    simp only [List.map_cons, eqL, eqT, eqL_ints ns ms, h, List.cons.injEq, Bool.decide_and]
theorem depL_ints : ∀ (ns : List Int), depL (ns.map T.int) = 0
  | [] => rfl
  | n :: r => by simp [depL, depT, depL_ints r]
section
variable {X : Cx} {D : DP} {W : XW} {Γ : Cn} {k : Nat} {pins : List (Addr × Obj)} {s : Shared} {σ : St} {H : Hp} {φ α : List Addr} {τ : Sl} {μ : Mem} {f g : De} {a b : Expr} {pos : Pos}
theorem valI_of {t : T} {v : V} {u : Value} {ns : List Int} (I : Inv X pins σ H s) (h : intsT t = some ns) (d : Den D φ α H t v) (r : RelV v u) : valI s.heap u = some ns ∧ t = .tup (ns.map T.int) := by
  unfold intsT at h
  split at h
  · rename_i ts
    have e := intsOf_map h
    subst e
    obtain ⟨c, xs, rfl, _, _, rd, l⟩ := d
    cases r
    obtain ⟨its, rv, ⟨o, ho, _, n, hd⟩, _⟩ := I.tuple (.inl rd)
    have ev := intsOf_den h l
    subst ev
    refine ⟨?_, rfl⟩
    unfold valI
    simp only [ho, Option.bind_some, hd]
    simpa using intsV_of rv
  · cases h
theorem mem_go {neg : Bool} {xs : List T} {a0 : List Int} {ys : List T} {vs : List V} {v : V} {u1 : Value} {ad : Addr} {Q : VK} (I : Inv X pins σ H s) (hu : X.A.units + 64 < cLine) (mr : MRel D φ α H μ) (hx : intsOf xs = some a0) (d1 : Den D φ α H (.tup xs) v) (r1 : RelV v u1) (rd : Rd H ad (.lst vs)) (l : DenL D φ α H ys vs) (hy : ∀ t ∈ ys, (intsT t).isSome = true)
    (q : Post D W φ α H σ (RV D φ Q) (.ok (.bl (neg ^^ ys.any fun t => decide (intsT t = some a0))) μ)) : wpAny (model X.prog X.w) X.A (compareOp (if neg then .NotIn else .In) u1 (.ref ad)) (EP X pins σ Q) X.xe s := by
  obtain ⟨its, rv, pl, _⟩ := I.list (.inl rd)
  have e1 := intsOf_map hx
  have each : ∀ (ys : List T) (vs : List V) (its : List Value), DenL D φ α H ys vs → Vals vs its → (∀ t ∈ ys, (intsT t).isSome = true) → (∀ w ∈ its, SeqAt.EqAt X.A.in1 s w u1 (decide (valI s.heap w = some a0))) ∧ its.any (fun w => decide (valI s.heap w = some a0)) = ys.any fun t => decide (intsT t = some a0) := by
    intro ys
    induction ys with
    | nil => intro vs its l rv _; cases l; cases rv; exact ⟨by simp, rfl⟩
    | cons t r ih =>
      intro vs its l rv hy
      obtain ⟨v', q', rfl, d, l⟩ := l
      cases rv with
      | @cons _ u0 _ us0 r0 rv =>
      obtain ⟨h1, h2⟩ := ih _ _ l rv fun t ht => hy t (List.mem_cons_of_mem _ ht)
      obtain ⟨ns, hns⟩ := Option.isSome_iff_exists.mp (hy t List.mem_cons_self)
      obtain ⟨e3, e4⟩ := valI_of I hns d r0
      refine ⟨fun w hw => ?_, ?_⟩
      · rcases List.mem_cons.mp hw with rfl | hw
        · rw [e3]
          refine eqAt_tree I d d1 r0 r1 ?_ ?_
          · rw [e4, e1]
            show eqL (ns.map T.int) (a0.map T.int) = _
            rw [eqL_ints]
            simp
          · rw [e4, in1_units]
            show X.A.units + 1 + (depL (ns.map T.int) + 1) + 1 < cLine
            rw [depL_ints]; omega
        · exact h1 w hw
      · rw [List.any_cons, List.any_cons, h2, e3, hns]
  obtain ⟨h1, h2⟩ := each ys vs its l rv hy
  cases neg with
  | false =>
    refine SeqAt.in_listAt (fun w => decide (valI s.heap w = some a0)) pl.isList (fun w hw => h1 w (by simpa using hw)) ⟨.bl _, H, I, rfl, ?_⟩
    rw [show its.toArray.any (fun w => decide (valI s.heap w = some a0)) = its.any (fun w => decide (valI s.heap w = some a0)) by simp, h2]
    exact q.here mr (by show V.bl _ = V.bl _; simp)
  | true =>
    refine SeqAt.notIn_listAt (fun w => decide (valI s.heap w = some a0)) pl.isList (fun w hw => h1 w (by simpa using hw)) ⟨.bl _, H, I, rfl, ?_⟩
    rw [show its.toArray.any (fun w => decide (valI s.heap w = some a0)) = its.any (fun w => decide (valI s.heap w = some a0)) by simp, h2]
    exact q.here mr (by show V.bl _ = V.bl _; simp)
theorem op_mem {neg : Bool} {x y : T} {v w : V} {u1 u2 : Value} {Q : VK} (I : Inv X pins σ H s) (hu : X.A.units + 64 < cLine) (mr : MRel D φ α H μ) (d1 : Den D φ α H x v) (d2 : Den D φ α H y w) (r1 : RelV v u1) (r2 : RelV w u2)
    (p : Post D W φ α H σ (RV D φ Q) (memT neg x y μ)) : wpAny (model X.prog X.w) X.A (compareOp (if neg then .NotIn else .In) u1 u2) (EP X pins σ Q) X.xe s := by
  unfold memT at p
  split at p
  · split at p
    · obtain ⟨K0, Z0, ⟨a0, ha, hy, p⟩, k1, k2⟩ := p
      obtain ⟨ad, vs, rfl, _, _, rd, l⟩ := d2
      cases r2
      exact mem_go I hu mr ha d1 r1 rd l hy ⟨K0, Z0, p, k1, k2⟩
    · obtain ⟨K0, Z0, ⟨ys, hi, a0, ha, hy, p⟩, k1, k2⟩ := p
      obtain ⟨ad, hj, rfl⟩ := d2
      cases r2
      obtain ⟨vs, rd, l⟩ := mr.ob _ ad _ hj hi
      exact mem_go I hu mr ha d1 r1 (.inl rd) l hy ⟨K0, Z0, p, k1, k2⟩
    · exact p.elim
  · exact p.elim
theorem op_mem' {neg : Bool} {β : Type} {R : β → Mem → List Addr → Hp → Prop} {kk : T → Mem → RE β} {x y : T} {v w : V} {u1 u2 : Value} (I : Inv X pins σ H s) (hu : X.A.units + 64 < cLine) (mr : MRel D φ α H μ) (d1 : Den D φ α H x v) (d2 : Den D φ α H y w) (r1 : RelV v u1) (r2 : RelV w u2)
    (p : Post D W φ α H σ R ((memT neg x y μ).bind kk)) : wpAny (model X.prog X.w) X.A (compareOp (if neg then .NotIn else .In) u1 u2) (EP X pins σ fun z H1 => ∃ t μ1 α1, Stp α H α1 H1 ∧ MRel D φ α1 H1 μ1 ∧ Den D φ α1 H1 t z ∧ Post D W φ α1 H1 σ R (kk t μ1)) X.xe s :=
  op_mem I hu mr d1 d2 r1 r2 (p.bind.mono fun t μ' α' H' st m q v d => ⟨t, μ', α', st, m, d, q⟩)
theorem stest_mem (C : Ck D W Γ X k) {neg : Bool} (ho : okCmp (if neg then .NotIn else .In) b = true) (ha : PE X a (rdE D W f)) (hb : PE X b (rdE D W g)) : PT X (.Compare a [if neg then .NotIn else .In] [b] pos) (rdT D W (tE (eMem neg f g))) := by
  rintro pins s σ H Q I ⟨φ, α, τ, μ, sr, mr, p⟩
  have p : Post D W φ α H σ (fun b _ _ H' => Q b H') ((f τ μ).bind fun x μ1 => (g τ μ1).bind fun y μ2 => (memT neg x y μ2).bind truT) := p
  refine wpAny_isTrue_Compare1 (thn (sub ha I sr mr p) ?_) (mark_of ho)
  rintro u s1 ⟨v, H1, t, μ1, α1, I1, r1, st1, sr1, mr1, d1, p1⟩
  refine thn (sub hb I1 sr1 mr1 p1) ?_
  rintro u' s2 ⟨v', H2, t', μ2, α2, I2, r2, st2, sr2, mr2, d2, p2⟩
  refine thn (op_mem' I2 C.unt mr2 (d1.step st2) d2 r1 r2 p2) ?_
  rintro d s3 ⟨z, H3, I3, r3, t3, μ3, α3, st3, mr3, d3, p3⟩
  unfold truT at p3
  split at p3
  · cases d3
    cases r3
    exact wpAny_truthy_bool ⟨H3, I3, p3.ok (Stp.refl _ _) mr3⟩
  · exact p3.elim
end
end NH
end
section
set_option linter.all false
set_option maxRecDepth 100000
set_option maxHeartbeats 1000000
namespace NH
open PySem PySem.Spec PyProof.Rows L2
def isT (v : Value) : Bool := match v with | .bool b => b | _ => false
section
variable {X : Cx} {D : DP} {W : XW} {Γ : Cn} {k : Nat} {pins : List (Addr × Obj)} {s : Shared} {σ : St} {H : Hp} {φ α : List Addr} {τ : Sl} {μ : Mem} {f g : De} {a b : Expr} {pos : Pos}
theorem bools_den : ∀ {ts : List T} {bs : List Bool} {vs : List V}, bools ts = some bs → DenL D φ α H ts vs → vs = bs.map V.bl
  | [], bs, vs, h, l => by simp [bools] at h; subst h; exact l
  | .bl b :: ts, bs, vs, h, l => by
    obtain ⟨v, q, rfl, d, l⟩ := l
    simp only [bools, Option.map_eq_some_iff] at h
    obtain ⟨cs, h, rfl⟩ := h
    have d : v = V.bl b := d
    subst d
    rw [bools_den h l]; rfl
theorem vals_bools : ∀ {bs : List Bool} {us : List Value}, Vals (bs.map V.bl) us → us = bs.map Value.bool
  | [], _, .nil => rfl
  | b :: bs, _, .cons r q => by cases r; rw [vals_bools q]; rfl
end
end NH
end
section
set_option linter.all false
set_option maxRecDepth 100000
set_option maxHeartbeats 1000000
namespace NH
open PySem PySem.Spec PyProof.Rows L2
section
variable {X : Cx} {D : DP} {W : XW} {Γ : Cn} {k : Nat} {pins : List (Addr × Obj)} {s : Shared} {σ : St} {H : Hp} {φ α : List Addr} {τ : Sl} {μ : Mem} {f g : De} {a b : Expr} {pos : Pos}
end
end NH
end
section
set_option linter.all false
set_option maxRecDepth 100000
set_option maxHeartbeats 4000000
namespace NH
open PySem PySem.Spec PyProof.Rows L2
section
variable {prog : Program} {w : World} {A : Around} {E : Value → Shared → Prop} {h : Heap} {g : Array GenState} {d : Drawn} {t : Nat} {os : OsState}
variable {nm q : Str} {C N : Addr} {bs bm bmB : List Value} {hdct : Bool} {sn : List Str} {sub : List Value} {ab : Bool} {col : Option Bool} {dd : Option Addr} {k0 k1 k2 k3 k5 : Option Value} {B newId initId : String}
end
end NH
end
section
set_option linter.all false
set_option maxRecDepth 100000
set_option maxHeartbeats 4000000
namespace NH
open PySem PySem.Spec PyProof.Rows L2
section
variable {prog : Program} {w : World} {A : Around} {E : Value → Shared → Prop} {s : Shared}
variable {nm q : Str} {C N : Addr} {bs bm bmB : List Value} {hdct : Bool} {sn : List Str} {sub : List Value} {ab : Bool} {col : Option Bool} {dd : Option Addr} {k0 k1 k2 k3 k5 : Option Value} {B newId initId : String}
end
section
variable {prog : Program} {w : World} {A : Around} {E : Value → Shared → Prop} {s : Shared} {K : PySem.W.Frag} {C x : Addr}
end
end NH
end
section
set_option linter.all false
set_option maxRecDepth 100000
set_option maxHeartbeats 4000000
namespace NH
open PySem PySem.Spec PyProof.Rows L2
section
variable {X : Cx} {pins : List (Addr × Obj)} {s : Shared} {σ : St} {H : Hp} {C HE fI : Addr} {fl : Str}
end
section
variable {P : Program} {w : World} {K : PySem.W.Frag} {mg : Str → Option Value} {base : Heap} {C HE fI : Addr} {fl : Str} {k : Nat}
end
end NH
end
section
set_option linter.all false
set_option maxRecDepth 100000
set_option maxHeartbeats 4000000
namespace NH
open PySem PySem.Spec PyProof.Rows L2
section
variable {X : Cx} {pins : List (Addr × Obj)} {s : Shared} {σ : St} {H : Hp}
end
section
variable {X : Cx} {D : DP} {W : XW} {Γ : Cn} {k : Nat} {pins : List (Addr × Obj)} {s : Shared} {σ : St} {H : Hp} {φ α : List Addr} {τ : Sl} {μ : Mem} {a : Expr} {pos : Pos} {E : Ends} {g : De}
end
section
open PySem.W
end
section
variable {X : Cx} {D : DP} {W : XW} {Γ : Cn} {k : Nat} {pins : List (Addr × Obj)} {s : Shared} {σ : St} {H : Hp} {φ α : List Addr} {τ : Sl} {μ : Mem} {a : Expr} {pos : Pos} {f : De}
end
end NH
end
section
end
section
set_option linter.all false
set_option maxRecDepth 100000
set_option maxHeartbeats 1000000
namespace NH
open PySem PySem.Spec PyProof.Rows L2
section
variable {prog : Program} {w : World} {A : Around} {E : Value → Shared → Prop} {s : Shared}
end
section
variable {X : Cx} {D : DP} {W : XW} {Γ : Cn} {k : Nat} {pins : List (Addr × Obj)} {s : Shared} {σ : St} {H : Hp} {φ α : List Addr} {τ : Sl} {μ : Mem} {f g : De} {a b : Expr} {pos : Pos}
end
end NH
end
section
set_option linter.all false
set_option maxRecDepth 100000
set_option maxHeartbeats 1000000
namespace NH
open PySem PySem.Spec PyProof.Rows L2
section
variable {X : Cx} {D : DP} {W : XW} {Γ : Cn} {k : Nat} {f : De} {pos : Pos}
end
end NH
end
section
set_option linter.all false
set_option maxRecDepth 100000
set_option maxHeartbeats 1000000
namespace NH
open PySem PySem.Spec PyProof.Rows L2
abbrev eLamJ (j : Nat) : De := fun _ (μ : Mem) K _ => (∃ i : Nat, μ[i]? = some (MO.tab j)) ∧ K (.clo (2 * j) [.clo (100 + j) []]) μ
section
variable {X : Cx} {D : DP} {W : XW} {Γ : Cn} {k : Nat} {pins : List (Addr × Obj)} {s : Shared} {σ : St} {H : Hp} {φ α : List Addr} {τ : Sl} {μ : Mem} {f g : De} {fs : List De} {a b c : Expr} {pos : Pos} {es : List Expr}
end
section
variable {P : Program} {w : World} {K : PySem.W.Frag} {mg : Str → Option Value} {base : Heap} {D : DP} {k n : Nat}
end
end NH
end
section
set_option linter.all false
set_option maxRecDepth 100000
namespace NH.P
open PySem L2 NH
@[reducible] def b_l_mixed : List Ds := [(sSet 2 (eBin .Mod (eBin .Mult (eBin .Add (eBin .Add (eBin .Mod (eV 0) (eC (.int 2147483629))) (eBin .Mult (eC (.int 69621)) (eV 1))) (eC (.int 1))) (eC (.int 48271))) (eC (.int 2147483629)))), (sSet 2 (eBin .Mod (eBin .Mult (eV 2) (eBin .Add (eBin .FloorDiv (eV 2) (eC (.int 1009))) (eC (.int 69621)))) (eC (.int 2147483629)))), (sSet 2 (eBin .Mod (eBin .Mult (eV 2) (eBin .Add (eBin .Add (eBin .FloorDiv (eV 2) (eC (.int 907))) (eC (.int 16807))) (eV 1))) (eC (.int 2147483629)))), (sRet (eBin .Mod (eBin .Mult (eV 2) (eBin .Add (eBin .FloorDiv (eV 2) (eC (.int 1201))) (eC (.int 30011)))) (eC (.int 2147483629))))]
def l_mixed : Fn := fnW 2 1 b_l_mixed
@[reducible] def b_l_digits : List Ds := [(sRet (eLay [(eBin .Mult (eBin .FloorDiv (eV 0) (eC (.int 2))) (eBin .Sub (eC (.int 1)) (eBin .Mod (eV 0) (eC (.int 2))))), (eV 0), (eC (.int 0))]))]
def l_digits : Fn := fnW 1 0 b_l_digits
@[reducible] def b_l_next_2 : List Ds := [(sIf (tE (eCmp .Gt (eIx (eV 0) (eC (.int 0))) (eC (.int 0)))) [(sSet 2 (eBin .Mod (eIx (eV 0) (eC (.int 0))) (eV 1))), (sPut (eV 0) (eC (.int 0)) (eBin .FloorDiv (eIx (eV 0) (eC (.int 0))) (eV 1))), (sRet (eV 2))] []), (sPut (eV 0) (eC (.int 2)) (eBin .Add (eIx (eV 0) (eC (.int 2))) (eC (.int 1)))), (sRet (eBin .Mod (eCall l_mixed [(eIx (eV 0) (eC (.int 1))), (eIx (eV 0) (eC (.int 2)))]) (eV 1)))]
def l_next_2 : Fn := fnW 2 1 b_l_next_2
end NH.P
end
section
set_option linter.all false
set_option maxRecDepth 100000
set_option maxHeartbeats 1000000
namespace NH
open PySem PySem.Spec PyProof.Rows L2
def lstAt (i : Nat) (t : T) (μ : Mem) (zs : List T) : Prop := t = .lst zs ∨ ∃ j, t = .mut j ∧ j ≠ i ∧ μ[j]? = some (.lst zs)
section
variable {X : Cx} {D : DP} {W : XW} {Γ : Cn} {k : Nat} {pins : List (Addr × Obj)} {s : Shared} {σ : St} {H : Hp} {φ α : List Addr} {τ : Sl} {μ : Mem} {f g : De} {fs : List De} {a b c : Expr} {pos : Pos} {es : List Expr}
end
end NH
end
section
set_option linter.all false
set_option maxRecDepth 100000
namespace NH.P
open PySem L2 NH
end NH.P
end
section
set_option linter.all false
set_option maxRecDepth 100000
set_option maxHeartbeats 1000000
namespace NH
open PySem PySem.Spec PyProof.Rows L2
section
variable {X : Cx} {D : DP} {W : XW} {Γ : Cn} {k : Nat} {pins : List (Addr × Obj)} {s : Shared} {σ : St} {H : Hp} {φ α : List Addr} {τ : Sl} {μ : Mem} {f g : De} {a b : Expr} {pos : Pos}
end
section
variable {X : Cx} {D : DP} {W : XW} {Γ : Cn} {k : Nat} {f : De} {a : Expr}
end
end NH
end
section
set_option linter.all false
set_option maxRecDepth 100000
set_option maxHeartbeats 1000000
namespace NH
open PySem PySem.Spec PyProof.Rows L2
abbrev memBT (neg : Bool) (x y : T) (μ : Mem) : RE T := match x with
  | .bl true => (match y with
    | .lst ys => fun K _ => ∃ bs, bools ys = some bs ∧ K (.bl (neg ^^ bs.any id)) μ
    | _ => .st)
  | _ => .st
abbrev eMemB (neg : Bool) (f g : De) : De := fun τ μ => (f τ μ).bind fun x μ1 => (g τ μ1).bind fun y μ2 => memBT neg x y μ2
section
variable {X : Cx} {D : DP} {W : XW} {Γ : Cn} {k : Nat} {pins : List (Addr × Obj)} {s : Shared} {σ : St} {H : Hp} {φ α : List Addr} {τ : Sl} {μ : Mem} {f g : De} {a b : Expr} {pos : Pos}
theorem op_memB {neg : Bool} {x y : T} {v w : V} {u1 u2 : Value} {Q : VK} (I : Inv X pins σ H s) (mr : MRel D φ α H μ) (d1 : Den D φ α H x v) (d2 : Den D φ α H y w) (r1 : RelV v u1) (r2 : RelV w u2)
    (p : Post D W φ α H σ (RV D φ Q) (memBT neg x y μ)) : wpAny (model X.prog X.w) X.A (compareOp (if neg then .NotIn else .In) u1 u2) (EP X pins σ Q) X.xe s := by
  unfold memBT at p
  split at p
  · split at p
    · obtain ⟨K0, Z0, ⟨bs, hb, p⟩, k1, k2⟩ := p
      obtain ⟨ad, vs, rfl, _, _, rd, l⟩ := d2
      cases r2
      have d1 : v = V.bl true := d1
      subst d1
      cases r1
      obtain ⟨its, rv, pl, _⟩ := I.list (.inl rd)
      have ev := bools_den hb l
      subst ev
      have eu := vals_bools rv
      subst eu
      have each : ∀ w ∈ (bs.map Value.bool).toArray, SeqAt.EqAt X.A.in1 s w (.bool true) (isT w) := fun w hw => by
        have : w ∈ bs.map Value.bool := by simpa using hw
        obtain ⟨b, _, rfl⟩ := List.mem_map.mp this
        have := SeqAt.EqAt.bool_bool (A := X.A.in1) (s := s) b true
        cases b <;> exact this
      have ea : (bs.map Value.bool).toArray.any isT = bs.any id := by
        rw [show (bs.map Value.bool).toArray.any isT = (bs.map Value.bool).any isT by simp, List.any_map]; rfl
      have q : Post D W φ α H σ (RV D φ Q) (.ok (.bl (neg ^^ bs.any id)) μ) := ⟨K0, Z0, p, k1, k2⟩
      cases neg with
      | false =>
        refine SeqAt.in_listAt isT pl.isList each ⟨.bl _, H, I, rfl, ?_⟩
        rw [ea]
        exact q.here mr (by show V.bl _ = V.bl _; simp)
      | true =>
        refine SeqAt.notIn_listAt isT pl.isList each ⟨.bl _, H, I, rfl, ?_⟩
        rw [ea]
        exact q.here mr (by show V.bl _ = V.bl _; simp)
    · exact p.elim
  · exact p.elim
theorem op_memB' {neg : Bool} {β : Type} {R : β → Mem → List Addr → Hp → Prop} {kk : T → Mem → RE β} {x y : T} {v w : V} {u1 u2 : Value} (I : Inv X pins σ H s) (mr : MRel D φ α H μ) (d1 : Den D φ α H x v) (d2 : Den D φ α H y w) (r1 : RelV v u1) (r2 : RelV w u2)
    (p : Post D W φ α H σ R ((memBT neg x y μ).bind kk)) : wpAny (model X.prog X.w) X.A (compareOp (if neg then .NotIn else .In) u1 u2) (EP X pins σ fun z H1 => ∃ t μ1 α1, Stp α H α1 H1 ∧ MRel D φ α1 H1 μ1 ∧ Den D φ α1 H1 t z ∧ Post D W φ α1 H1 σ R (kk t μ1)) X.xe s :=
  op_memB I mr d1 d2 r1 r2 (p.bind.mono fun t μ' α' H' st m q v d => ⟨t, μ', α', st, m, d, q⟩)
theorem se_memB {neg : Bool} (ho : okCmp (if neg then .NotIn else .In) b = true) (ha : PE X a (rdE D W f)) (hb : PE X b (rdE D W g)) : PE X (.Compare a [if neg then .NotIn else .In] [b] pos) (rdE D W (eMemB neg f g)) := by
  rintro pins s σ H Q I ⟨φ, α, τ, μ, sr, mr, p⟩
  refine wpAny_Compare1 (thn (sub ha I sr mr p) ?_) (mark_of ho)
  rintro u s1 ⟨v, H1, t, μ1, α1, I1, r1, st1, sr1, mr1, d1, p1⟩
  refine thn (sub hb I1 sr1 mr1 p1) ?_
  rintro u' s2 ⟨v', H2, t', μ2, α2, I2, r2, st2, sr2, mr2, d2, p2⟩
  exact op_memB I2 mr2 (d1.step st2) d2 r1 r2 p2
theorem stest_memB {neg : Bool} (ho : okCmp (if neg then .NotIn else .In) b = true) (ha : PE X a (rdE D W f)) (hb : PE X b (rdE D W g)) : PT X (.Compare a [if neg then .NotIn else .In] [b] pos) (rdT D W (tE (eMemB neg f g))) := by
  rintro pins s σ H Q I ⟨φ, α, τ, μ, sr, mr, p⟩
  have p : Post D W φ α H σ (fun b _ _ H' => Q b H') ((f τ μ).bind fun x μ1 => (g τ μ1).bind fun y μ2 => (memBT neg x y μ2).bind truT) := p
  refine wpAny_isTrue_Compare1 (thn (sub ha I sr mr p) ?_) (mark_of ho)
  rintro u s1 ⟨v, H1, t, μ1, α1, I1, r1, st1, sr1, mr1, d1, p1⟩
  refine thn (sub hb I1 sr1 mr1 p1) ?_
  rintro u' s2 ⟨v', H2, t', μ2, α2, I2, r2, st2, sr2, mr2, d2, p2⟩
  refine thn (op_memB' I2 mr2 (d1.step st2) d2 r1 r2 p2) ?_
  rintro d s3 ⟨z, H3, I3, r3, t3, μ3, α3, st3, mr3, d3, p3⟩
  unfold truT at p3
  split at p3
  · cases d3
    cases r3
    exact wpAny_truthy_bool ⟨H3, I3, p3.ok (Stp.refl _ _) mr3⟩
  · exact p3.elim
end
def isTru (a : Expr) : Bool := match a with
  | .Constant (.bool true) _ _ => true
  | _ => false
def rMemB : ER := fun r Γ e => match e with
  | .Compare a [.In] [b] _ => gd (isTru a && okCmp .In b) ((r.e Γ a).bind fun f => (r.e Γ b).bind fun g => some (eMemB false f g))
  | _ => none
theorem rMemB_ok {D : DP} : EOk D rMemB := by
  intro r H X W Γ k e d C h
  unfold rMemB at h
  split at h
  · obtain ⟨hb, h1⟩ := gd_of h
    obtain ⟨f, e1, h1⟩ := bnd h1
    obtain ⟨g, e2, h1⟩ := bnd h1
    cases h1
    simp only [Bool.and_eq_true] at hb
    exact se_memB (neg := false) hb.2 (H.e C e1) (H.e C e2)
  · cases h
def rtMemB : TR := fun r Γ e => match e with
  | .Compare a [.In] [b] _ => gd (isTru a && okCmp .In b) ((r.e Γ a).bind fun f => (r.e Γ b).bind fun g => some (tE (eMemB false f g)))
  | _ => none
theorem rtMemB_ok {D : DP} : TOk D rtMemB := by
  intro r H X W Γ k e d C h
  unfold rtMemB at h
  split at h
  · obtain ⟨hb, h1⟩ := gd_of h
    obtain ⟨f, e1, h1⟩ := bnd h1
    obtain ⟨g, e2, h1⟩ := bnd h1
    cases h1
    simp only [Bool.and_eq_true] at hb
    exact stest_memB (neg := false) hb.2 (H.e C e1) (H.e C e2)
  · cases h
end NH
end
section
set_option linter.all false
set_option maxRecDepth 100000
namespace NH.P
open PySem L2 NH
@[reducible] def b_l_shape_2 : List Ds := [(sSet 1 (eIx (eLst [(eBin .Add (eC (.int 1)) (eCall l_next_2 [(eV 0), (eC (.int 90))])), (eBin .Add (eC (.int 1)) (eBin .Mult (eCall l_next_2 [(eV 0), (eBin .Pow (eC (.int 10)) (eC (.int 9)))]) (eC (.int 1000)))), (eBin .Pow (eC (.int 10)) (eC (.int 20)))]) (eCall l_next_2 [(eV 0), (eC (.int 3))]))), (sRet (eTup [(eV 1), (eBin .Add (eC (.int 1)) (eCall l_next_2 [(eV 0), (eC (.int 5))])), (eBin .Add (eC (.int 1)) (eIx (eLst [(eCall l_next_2 [(eV 0), (eC (.int 4))]), (eCall l_next_2 [(eV 0), (eC (.int 900))])]) (eCall l_next_2 [(eV 0), (eC (.int 2))])))]))]
def l_shape_2 : Fn := fnW 1 1 b_l_shape_2
end NH.P
end
section
set_option linter.all false
set_option maxRecDepth 100000
set_option maxHeartbeats 1000000
namespace NH
open PySem PySem.Spec PyProof.Rows L2
def DfO : List (Str × Value) → Prop := fun kw => kw = [] ∨ kw = [(Str.ofString "default", .none)]
section
variable {prog : Program} {w : World} {A : Around} {E : Value → Shared → Prop} {s : Shared} {l I S : Addr} {vs : List Value} {R : Result → Shared → Prop} {Q : Value → Shared → Prop} {κ : Type}
def CmpAt (prog : Program) (w : World) (A : Around) (s : Shared) (vs : List Value) (ks : List κ) (gt : κ → κ → Bool) : Prop :=
  ∀ (E : Value → Shared → Prop) (i j : Nat) vi vj ki kj h' (tk' : Nat) (Q : Value → Shared → Prop), vs[i]? = some vi → ks[i]? = some ki → vs[j]? = some vj → ks[j]? = some kj → (∀ b o, s.heap.get? b = some o → h'.get? b = some o) →
    Q (.bool (gt ki kj)) { s with heap := h', toks := tk' } → wpAny (model prog w) A.in1 (richCompare .Gt vi vj) Q E { s with heap := h', toks := tk' }
theorem max_turns {ks : List κ} {gt : κ → κ → Bool} {kw : List (Str × Value)} (irr : ∀ a, gt a a = false) (key : ∀ a b c, gt a b = true → gt c b = false → gt c a = false) (hcmp : CmpAt prog w A s vs ks gt) (hh : A.handled = none) (hl : s.heap.IsList l vs.toArray) (hI : s.heap.get? I = none) (hS : s.heap.get? S = none) (hSI : S ≠ I) (hlen : ks.length = vs.length)
    (hR : ∀ (i : Nat) v kk h' tk', vs[i]? = some v → ks[i]? = some kk → (∀ m ∈ ks, gt m kk = false) → (∀ b o, s.heap.get? b = some o → h'.get? b = some o) → R (.ok (.ret v)) { s with heap := h', toks := tk' }) :
    ∀ (r j i : Nat) (h : Heap) (tk : Nat) (vb : Value) (nb : κ) (c : Nat), vs.length - (j + 1) = r → j + 1 ≤ vs.length → (∀ b o, s.heap.get? b = some o → h.get? b = some o) →
      h.get? S = some (seqObj "list" #[vb, vb] c) → h.IsListIter I l (j + 1) → vs[i]? = some vb → ks[i]? = some nb → (∀ m ∈ ks.take (j + 1), gt m nb = false) →
      codeAny (model prog w) A (.builtin "max.loop" ⟨[.ref I, .none, .ref S], kw⟩) R { s with heap := h, toks := tk } := by
  have hname : (toString "max" ++ toString ".loop" : String) = "max.loop" := by decide
  have old : ∀ {b : Addr} {o : Obj}, s.heap.get? b = some o → b ≠ I ∧ b ≠ S := fun {b o} e => ⟨fun z => (by rw [z, hI] at e; cases e), fun z => (by rw [z, hS] at e; cases e)⟩
  have hlI : l ≠ I := by obtain ⟨o, ho, _⟩ := id hl; exact (old ho).1
  have W := Walks.list (prog := prog) (w := w) (A := A.in1) hh I l hlI vs.toArray
  have hsz : vs.toArray.size = vs.length := List.size_toArray ..
  have lst : ∀ {h : Heap}, (∀ b o, s.heap.get? b = some o → h.get? b = some o) → h.IsList l vs.toArray := fun {h} k => by
    obtain ⟨o, ho, hc⟩ := hl
    exact ⟨o, k _ _ ho, hc⟩
  intro r
  induction r with
  | zero =>
    intro j i h tk vb nb c hr hj kp hSh hit hvb hnb hbest
    have hin : j + 1 = vs.length := by omega
    refine codeAny_builtin PySem.F.entry_max_loop ?_
    rw [Around.under_plainId PySem.F.plain_max_loop _]
    show wpAny _ A.in1 (seqItems? (.ref S) >>= _) _ _ _
    refine wpAny_bind (wpAny_seqItems hSh rfl ?_)
    show wpAny _ A.in1 (tryCatch (pyNext (.ref I)) _ >>= _) _ _ _
    refine wpAny_bind (wpAny_tryCatch (W.done _ _ _ ⟨by rw [hsz, ← hin]; exact hit, lst kp⟩ fun h' tk' hk' => ?_))
    have kp' : ∀ b o, s.heap.get? b = some o → h'.get? b = some o := fun b o e => hk' b o (by simpa using (old e).1) (kp b o e)
    have hS' := hk' S _ (by simpa using hSI) hSh
    have s1 := Heap.SameBut.update h' S (Obj.mapSeq fun _ => (#[] : Array Value))
    show wpAny _ A.in1 (updateSeq S (fun _ => #[]) >>= _) _ _ _
    refine wpAny_bind ?_
    refine wpAny_updateSeq hS' rfl (wpAny_bind (wpAny_letGo (wpAny_pure ?_)))
    refine hR i vb nb _ _ hvb hnb ?_ fun b o e => (s1.2 b (old e).2).trans (kp' b o e)
    rw [hin, ← hlen, List.take_length] at hbest
    exact hbest
  | succ r ih =>
    intro j i h tk vb nb c hr hj kp hSh hit hvb hnb hbest
    have hlt : j + 1 < vs.length := by omega
    refine codeAny_builtin PySem.F.entry_max_loop ?_
    rw [Around.under_plainId PySem.F.plain_max_loop _]
    show wpAny _ A.in1 (seqItems? (.ref S) >>= _) _ _ _
    refine wpAny_bind (wpAny_seqItems hSh rfl ?_)
    show wpAny _ A.in1 (tryCatch (pyNext (.ref I)) _ >>= _) _ _ _
    refine wpAny_bind (wpAny_tryCatch (W.item (j + 1) _ _ _ (by rw [hsz]; exact hlt) ⟨hit, lst kp⟩ fun v h' tk' hP hst' hk' => ?_))
    have hv : vs[j + 1]? = some v := by simpa using hP
    have kp' : ∀ b o, s.heap.get? b = some o → h'.get? b = some o := fun b o e => hk' b o (by simpa using (old e).1) (kp b o e)
    have hS' := hk' S _ (by simpa using hSI) hSh
    have hn : ∃ ns, ks[j + 1]? = some ns := ⟨_, List.getElem?_eq_getElem (by omega)⟩
    obtain ⟨ns, hns⟩ := hn
    have tk1 : ks.take (j + 1 + 1) = ks.take (j + 1) ++ [ns] := by rw [List.take_add_one, hns]; rfl
    show wpAny _ A.in1 (tryCatch (holding [v, v] (richCompare .Gt v vb >>= _)) _ >>= _) _ _ _
    refine wpAny_bind (wpAny_tryCatch (wpAny_holding (wpAny_bind (hcmp _ (j + 1) i v vb ns nb h' tk' _ hv hns hvb hnb kp' ?_))))
    refine wpAny_bind (wpAny_holding (wpAny_truthy_bool ?_))
    refine wpAny_bind (wpAny_letGo (wpAny_pure ?_))
    cases hb' : gt ns nb with
    | true =>
      have s1 := Heap.SameBut.update h' S (Obj.mapSeq fun _ => #[v, v])
      obtain ⟨c2, hc2⟩ : ∃ c2, (h'.update S (Obj.mapSeq fun _ => #[v, v])).get? S = some (seqObj "list" #[v, v] c2) := ⟨_, get?_update_seq hS' fun _ => #[v, v]⟩
      simp only [if_true]
      refine wpAny_bind ?_
      refine wpAny_updateSeq hS' rfl (wpAny_bind (wpAny_letGo ?_))
      rw [hname]
      obtain ⟨oI', hoI', hoc, hod⟩ := id hst'.1
      refine wpAny_pure ⟨plainId_quiet PySem.F.plain_max_loop _, ih (j + 1) (j + 1) _ _ v ns c2 (by omega) hlt (fun b o e => (s1.2 b (old e).2).trans (kp' b o e)) hc2 ⟨oI', (s1.2 I hSI.symm).trans hoI', hoc, hod⟩ hv hns ?_⟩
      rw [tk1]
      intro ms hm
      rcases List.mem_append.mp hm with z | z
      · exact key _ _ _ hb' (hbest ms z)
      · rw [List.mem_singleton.mp z]; exact irr ns
    | false =>
      simp only [Bool.false_eq_true, if_false]
      refine wpAny_bind (wpAny_letGo ?_)
      rw [hname]
      refine wpAny_pure ⟨plainId_quiet PySem.F.plain_max_loop _, ih (j + 1) i _ _ vb nb c (by omega) hlt kp' hS' hst'.1 hvb hnb ?_⟩
      rw [tk1]
      intro ms hm
      rcases List.mem_append.mp hm with z | z
      · exact hbest ms z
      · rw [List.mem_singleton.mp z]; exact hb'
theorem max_kw0 (a : Value) : argsOk "max" ⟨[a], []⟩ := by unfold argsOk; kernel_rfl
theorem max_kw1 (a : Value) : argsOk "max" ⟨[a], [(Str.ofString "default", .none)]⟩ := by unfold argsOk; kernel_rfl
theorem max_rows {ks : List κ} {gt : κ → κ → Bool} {kw : List (Str × Value)} (irr : ∀ a, gt a a = false) (key : ∀ a b c, gt a b = true → gt c b = false → gt c a = false) (hcmp : CmpAt prog w A s vs ks gt) (hkw : DfO kw) (hh : A.handled = none) (hl : s.heap.IsList l vs.toArray) (hlen : ks.length = vs.length) (hne : vs = [] → kw = [(Str.ofString "default", .none)])
    (hE : vs = [] → ∀ h' tk', (∀ b o, s.heap.get? b = some o → h'.get? b = some o) → Q .none { s with heap := h', toks := tk' })
    (hQ : ∀ (i : Nat) v kk h' tk', vs[i]? = some v → ks[i]? = some kk → (∀ m ∈ ks, gt m kk = false) → (∀ b o, s.heap.get? b = some o → h'.get? b = some o) → Q v { s with heap := h', toks := tk' }) :
    wpAny (model prog w) A (call (.builtin "max") [.ref l] kw) Q E s := by
  have hname : (toString "max" ++ toString ".loop" : String) = "max.loop" := by decide
  have hargs : argsOk "max" ⟨[.ref l], kw⟩ := by rcases hkw with rfl | rfl; exact max_kw0 _; exact max_kw1 _
  have hbp : ∃ df : Option Value, Builtin.Builtins.bindParams "max" ["key", "default"] 0 ⟨[], kw⟩ = pure [none, df] ∧ df.toList.map (fun d => (("default" : Str), d)) = kw := by
    rcases hkw with rfl | rfl
    · exact ⟨none, rfl, rfl⟩
    · exact ⟨some .none, rfl, rfl⟩
  obtain ⟨df, hb1, hb2⟩ := hbp
  refine kmb_tree PySem.F.kind_max PySem.F.plain_max PySem.F.entry_max hargs ?_
  show wpAny _ A.in1 (Builtin.Builtins.bindParams "max" ["key", "default"] 0 ⟨[], kw⟩ >>= _) _ _ s
  refine wpAny_bind (wpAny_of_eq hb1 ?_)
  refine wpAny_bind (wpAny_pure ?_)
  refine wpAny_bind (wpAny_pyIter_list hl ?_)
  refine wpAny_bind (wpAny_newList ?_ (Nat.zero_le _))
  rw [hname]
  show wpAny _ A.in1 (pure _) _ _ _
  rw [hb2]
  refine wpAny_pure ⟨plainId_quiet PySem.F.plain_max_loop _, ?_⟩
  let oI : Obj := { cls := .type "list_iterator", data := .fields #[.ref l, .int 0 0] }
  let oS : Obj := seqObj "list" #[] 0
  have e1 : (s.heap.push oI).objs.size = s.heap.objs.size + 1 := Heap.size_push ..
  have up : ∀ b o, s.heap.get? b = some o → ((s.heap.push oI).push oS).get? b = some o := fun b o e => Heap.get?_push_of_some _ (Heap.get?_push_of_some _ e)
  have gI : ((s.heap.push oI).push oS).get? s.heap.objs.size = some oI := Heap.get?_push_of_some _ (Heap.get?_push_size _ rfl)
  have gS : ((s.heap.push oI).push oS).get? (s.heap.push oI).objs.size = some oS := Heap.get?_push_size _ rfl
  have hI : s.heap.get? s.heap.objs.size = none := Heap.get?_none_of_le (Nat.le_refl _)
  have hS : s.heap.get? (s.heap.push oI).objs.size = none := Heap.get?_none_of_le (by rw [e1]; exact Nat.le_succ _)
  have hSI : (s.heap.push oI).objs.size ≠ s.heap.objs.size := by rw [e1]; exact Nat.ne_of_gt (Nat.lt_succ_self _)
  have old : ∀ {b : Addr} {o : Obj}, s.heap.get? b = some o → b ≠ s.heap.objs.size ∧ b ≠ (s.heap.push oI).objs.size := fun {b o} e => ⟨fun z => (by rw [z, hI] at e; cases e), fun z => (by rw [z, hS] at e; cases e)⟩
  have hlI : l ≠ s.heap.objs.size := by obtain ⟨o, ho, _⟩ := id hl; exact (old ho).1
  have lst : ∀ {h : Heap}, (∀ b o, s.heap.get? b = some o → h.get? b = some o) → h.IsList l vs.toArray := fun {h} k => by
    obtain ⟨o, ho, hc⟩ := hl
    exact ⟨o, k _ _ ho, hc⟩
  have W := Walks.list (prog := prog) (w := w) (A := A.in1) hh s.heap.objs.size l hlI vs.toArray
  have hsz : vs.toArray.size = vs.length := List.size_toArray ..
  refine codeAny_builtin PySem.F.entry_max_loop ?_
  rw [Around.under_plainId PySem.F.plain_max_loop _]
  show wpAny _ A.in1 (seqItems? (.ref _) >>= _) _ _ _
  refine wpAny_bind (wpAny_seqItems gS rfl ?_)
  show wpAny _ A.in1 (tryCatch (pyNext (.ref s.heap.objs.size)) _ >>= _) _ _ _
  by_cases hne0 : vs = []
  · have hk := hne hne0
    refine wpAny_bind (wpAny_tryCatch (W.done _ _ _ ⟨by rw [hsz, hne0]; exact ⟨_, gI, rfl, rfl⟩, lst up⟩ fun h' tk' hk' => ?_))
    have kp' : ∀ b o, s.heap.get? b = some o → h'.get? b = some o := fun b o e => hk' b o (by simpa using (old e).1) (up b o e)
    subst hk
    show wpAny _ A.in1 (rule _ >>= _) _ _ _
    refine wpAny_bind (wpAny_rule ?_)
    exact wpAny_pure (hE hne0 _ _ kp')
  have hne : 0 < vs.length := by cases vs with | nil => exact absurd rfl hne0 | cons _ _ => simp
  refine wpAny_bind (wpAny_tryCatch (W.item 0 _ _ _ (by rw [hsz]; exact hne) ⟨⟨_, gI, rfl, rfl⟩, lst up⟩ fun v h' tk' hP hst' hk' => ?_))
  have hv : vs[0]? = some v := by simpa using hP
  have kp' : ∀ b o, s.heap.get? b = some o → h'.get? b = some o := fun b o e => hk' b o (by simpa using (old e).1) (up b o e)
  have hS' := hk' _ _ (by simpa using hSI) gS
  have hn : ∃ ns, ks[0]? = some ns := ⟨_, List.getElem?_eq_getElem (by omega)⟩
  obtain ⟨ns, hns⟩ := hn
  have s1 := Heap.SameBut.update h' (s.heap.push oI).objs.size (Obj.mapSeq fun _ => #[v, v])
  obtain ⟨c2, hc2⟩ : ∃ c2, (h'.update (s.heap.push oI).objs.size (Obj.mapSeq fun _ => #[v, v])).get? (s.heap.push oI).objs.size = some (seqObj "list" #[v, v] c2) := ⟨_, get?_update_seq hS' fun _ => #[v, v]⟩
  refine wpAny_bind (wpAny_pure ?_)
  show wpAny _ A.in1 (updateSeq _ _ >>= _) _ _ _
  refine wpAny_bind ?_
  refine wpAny_updateSeq (s := { s with heap := h', toks := tk' }) (f := fun _ => #[v, v]) (xs := #[]) (n := 0) (o := seqObj "list" #[] 0) hS' rfl ?_ (Nat.zero_le _) (by show 2 ≤ sizeLine + 1; decide)
  rw [hname]
  obtain ⟨oI', hoI', hoc, hod⟩ := id hst'.1
  refine wpAny_pure ⟨plainId_quiet PySem.F.plain_max_loop _, max_turns irr key hcmp hh hl hI hS hSI hlen (fun i v ns h' tk' a b c d => hQ i v ns h' tk' a b c d) _ 0 0 _ _ v ns c2 rfl (by omega) (fun b o e => (s1.2 b (old e).2).trans (kp' b o e)) hc2 ⟨oI', (s1.2 _ hSI.symm).trans hoI', hoc, hod⟩ hv hns ?_⟩
  rw [List.take_add_one, hns]
  intro ms hm
  have : ms = ns := by simpa using hm
  rw [this]; exact irr ns
end
theorem cmp_ints {prog : Program} {w : World} {A : Around} {s : Shared} {vs : List Value} {ns : List Int} (hi : IntsAre vs ns) : CmpAt prog w A s vs ns (fun a b => decide (b < a)) := by
  intro E i j vi vj ki kj h' tk' Q h1 h2 h3 h4 kp q
  obtain ⟨n, t, rfl, e1⟩ := IntsAre.at hi i vi h1
  obtain ⟨m, u, rfl, e2⟩ := IntsAre.at hi j vj h3
  rw [h2] at e1; cases e1
  rw [h4] at e2; cases e2
  exact richCompare_gives (op := .Gt) (typeIs_int _ _ t) (typeIs_int _ _ u) PySem.F.slot_int_gt PySem.F.entry_int_gt (PySem.F.args_int_gt_2 _ _) (gives_int_gt _ _ t u) (fun x => nomatch x) q
abbrev maxL (xs : List T) (μ : Mem) : RE T := fun K _ => ∃ ns, intsOf xs = some ns ∧ 0 < xs.length ∧ ∀ n ∈ ns, (∀ m ∈ ns, m ≤ n) → K (.int n) μ
abbrev maxT (t : T) (μ : Mem) : RE T := match t with
  | .lst xs => maxL xs μ
  | .mut i => fun K Z => ∃ xs, μ[i]? = some (.lst xs) ∧ maxL xs μ K Z
  | _ => .st
section
variable {X : Cx} {D : DP} {W : XW} {Γ : Cn} {k : Nat} {pins : List (Addr × Obj)} {s : Shared} {σ : St} {H : Hp} {φ α : List Addr} {τ : Sl} {μ : Mem} {f : De}
theorem max_go {ad : Addr} {xs : List T} {ws : List V} {Q : VK} {kw : List (Str × Value)} {K0 : T → Mem → Prop} (hc : X.calm = true) (I : Inv X pins σ H s) (mr : MRel D φ α H μ) (q : Rd H ad (.lst ws)) (l : DenL D φ α H xs ws) {ns : List Int} (hn : intsOf xs = some ns) (hkw : DfO kw) (hne : xs = [] → kw = [(Str.ofString "default", .none)])
    (hE : xs = [] → K0 .non μ) (hK : ∀ n ∈ ns, (∀ m ∈ ns, m ≤ n) → K0 (.int n) μ) (k1 : ∀ t μ', K0 t μ' → ∀ α' H', Stp α H α' H' → MRel D φ α' H' μ' → RV D φ Q t μ' α' H') :
    wpAny (model X.prog X.w) X.A (call (.builtin "max") [.ref ad] kw) (EP X pins σ Q) X.xe s := by
  obtain ⟨its, rv, pl, hz⟩ := I.list (.inl q)
  have ev := intsOf_den hn l
  subst ev
  have hi := intsAre_of rv
  have e1 := rv.length
  have e2 := l.length
  have nil : its = [] → xs = [] := fun z => by
    rw [z] at e1
    exact List.length_eq_zero_iff.mp (by rw [e2, e1]; rfl)
  refine max_rows (ks := ns) (gt := fun a b => decide (b < a)) (fun a => decide_eq_false (by omega)) (fun a b c h1 h2 => decide_eq_false (by have := of_decide_eq_true h1; have := of_decide_eq_false h2; omega)) (cmp_ints hi) hkw (I.ok.hd hc) pl.isList (by rw [← e1, List.length_map]) (fun z => hne (nil z)) (fun z h' tk' kp => ?_) fun i v n h' tk' hv hn' hb kp => ?_
  · exact ⟨.non, H, I.kept kp, rfl, k1 _ _ (hE (nil z)) α H (Stp.refl _ _) mr _ rfl⟩
  · obtain ⟨n2, t, rfl, e3⟩ := IntsAre.at hi i v hv
    rw [hn'] at e3; cases e3
    exact ⟨.int n, H, I.kept kp, ⟨t, rfl⟩, k1 _ _ (hK n (List.mem_of_getElem? hn') fun m hm => by have := of_decide_eq_false (hb m hm); omega) α H (Stp.refl _ _) mr _ rfl⟩
theorem b_maxL (hc : X.calm = true) : B1 X D W (.builtin "max") maxT := by
  intro pins s σ H φ α μ t v u Q I mr d r p
  unfold maxT at p
  split at p
  · obtain ⟨K0, Z0, ⟨ns, hn, hne, hk⟩, k1, k2⟩ := p
    obtain ⟨ad, xs, rfl, _, _, q, l⟩ := d
    cases r
    exact max_go hc I mr q l hn (.inl rfl) (fun z => by rw [z] at hne; exact absurd hne (by simp)) (fun z => by rw [z] at hne; exact absurd hne (by simp)) hk k1
  · obtain ⟨K0, Z0, ⟨xs, hj, ns, hn, hne, hk⟩, k1, k2⟩ := p
    obtain ⟨ad, hi, rfl⟩ := d
    cases r
    obtain ⟨ws, q, l⟩ := mr.ob _ ad _ hi hj
    exact max_go hc I mr (.inl q) l hn (.inl rfl) (fun z => by rw [z] at hne; exact absurd hne (by simp)) (fun z => by rw [z] at hne; exact absurd hne (by simp)) hk k1
  · exact p.elim
end
def rMaxL : ER := rB1 "max" maxT true
theorem rMaxL_ok {D : DP} : EOk D rMaxL := rB1_ok fun C hx hg hc hs ha => se_b1 C hx hg (by decide +kernel) (by decide) hs (b_maxL (C.clm (hc rfl))) ha
end NH
end
section
set_option linter.all false
set_option maxRecDepth 100000
set_option maxHeartbeats 1000000
namespace NH
open PySem PySem.Spec PyProof.Rows L2
end NH
end
section
set_option linter.all false
set_option maxRecDepth 100000
set_option maxHeartbeats 1000000
namespace NH
open PySem PySem.Spec PyProof.Rows L2
section
variable {X : Cx} {D : DP} {W : XW} {Γ : Cn} {k : Nat} {f : De} {a : Expr}
end
end NH
end
section
set_option linter.all false
set_option maxRecDepth 100000
set_option maxHeartbeats 1000000
namespace NH
open PySem PySem.Spec PyProof.Rows L2
section
open PySem.SeqAt
open PySem.AutoSeq1 (wpAny_loadPart')
open PySem.MeetsSeq PySem.MeetsSeq2 PySem.MeetsSeq3
end
section
variable {X : Cx} {D : DP} {W : XW} {Γ : Cn} {k : Nat} {pins : List (Addr × Obj)} {s : Shared} {σ : St} {H : Hp} {φ α : List Addr} {τ : Sl} {μ : Mem} {f g : De} {a b : Expr} {pos : Pos}
end
end NH
end
section
set_option linter.all false
set_option maxRecDepth 100000
set_option maxHeartbeats 4000000
namespace NH
open PySem PySem.Spec PyProof.Rows L2
section
variable {X : Cx} {D : DP} {W : XW} {Γ : Cn} {k : Nat} {pins : List (Addr × Obj)} {s : Shared} {σ : St} {H : Hp} {φ α : List Addr} {τ : Sl} {μ : Mem} {f : De} {g : Dp} {a : Expr} {pos p2 : Pos}
end
end NH
end
section
set_option linter.all false
set_option maxRecDepth 100000
set_option maxHeartbeats 1000000
namespace NH
open PySem PySem.Spec PyProof.Rows L2
def lexGt : List Int → List Int → Bool
  | [], [] => false
  | [], _ :: _ => false
  | _ :: _, [] => true
  | x :: xs, y :: ys => if x = y then lexGt xs ys else decide (y < x)
theorem lexGt_cons (x y : Int) (xs ys : List Int) : lexGt (x :: xs) (y :: ys) = if x = y then lexGt xs ys else decide (y < x) := rfl
theorem lexGt_nil_nil : lexGt [] [] = false := rfl
theorem lexGt_nil_cons (y : Int) (ys : List Int) : lexGt [] (y :: ys) = false := rfl
theorem lexGt_cons_nil (x : Int) (xs : List Int) : lexGt (x :: xs) [] = true := rfl
theorem rcGt_int (A : Around) (s : Shared) (a : Int) (t : Tok) (c : Int) (u : Tok) (prog : Program) (w : World) (E : Value → Shared → Prop) (Q : Value → Shared → Prop) (h : Q (.bool (decide (c < a))) s) :
    wpAny (model prog w) A (richCompare .Gt (.int a t) (.int c u)) Q E s :=
  (PyProof.Rows.gt_int h : wpAny (model prog w) A (compareOp .Gt (.int a t) (.int c u)) Q E s)
section
open PySem.SeqAt
open PySem.AutoSeq1 (wpAny_loadPart')
open PySem.MeetsSeq PySem.MeetsSeq2 PySem.MeetsSeq3
theorem tuple_gt_ints (l b : Addr) (items items2 : Array Value) (n n2 : Nat) (dd dd2 : Option Addr) (sl sl2 : Array (Option Value)) (ns ms : List Int) (hi : IntsAre items.toList ns) (hj : IntsAre items2.toList ms) :
    Meets (Builtin.«tuple.__gt__» ⟨[.ref l, .ref b], []⟩)
      (fun _ R s => s.heap.get? l = some { cls := .type "tuple", dict := dd, data := .seq items n, slots := sl } ∧ s.heap.get? b = some { cls := .type "tuple", dict := dd2, data := .seq items2 n2, slots := sl2 } ∧
        R (.ok (.ret (.bool (lexGt ns ms)))) s) :=
  .of_wp fun prog w A R s h => by
    obtain ⟨hp, g, d, tk, os⟩ := s; obtain ⟨hl, hb, h⟩ := h
    have f2 := AutoSeq1.sub_tuple_tuple
    have z1 : items.size = ns.length := by rw [← hi.length]; simp
    have z2 : items2.size = ms.length := by rw [← hj.length]; simp
    wp_walk using wpAny_loadPart' hl, wpAny_loadPart' hb, wpAny_forIn_list _ (fun rest b s' => b.1 = none ∧ s' = ⟨hp, g, d, tk, os⟩ ∧ ∃ (vs ws : List Value) (ns' ms' : List Int), rest = vs.zip ws ∧
      IntsAre vs ns' ∧ IntsAre ws ms' ∧ ns'.length + items2.size = ms'.length + items.size ∧ R (.ok (.ret (.bool (lexGt ns' ms')))) ⟨hp, g, d, tk, os⟩) _
    case turn =>
      rintro ⟨y, x⟩ rest b s' ⟨hb', rfl, vs, ws, ns', ms', hz, hvi, hwi, hlen, hR⟩
      cases hvi with
      | nil => rw [List.zip_nil_left] at hz; cases hz
      | cons a t hvi' =>
        cases hwi with
        | nil => rw [List.zip_nil_right] at hz; cases hz
        | cons c u hwi' =>
          rw [List.zip_cons_cons] at hz
          injection hz with hyx hrest
          injection hyx with hy hx
          subst hy hx
          rw [lexGt_cons] at hR
          simp only [List.length_cons] at hlen
          obtain ⟨e, he, hiff⟩ := HT.eqAt_int A.in1 ⟨hp, g, d, tk, os⟩ a t c u
          refine wpAny_bind (he prog w _ _ ?_)
          cases e with
          | true =>
            rw [if_pos (hiff.mp rfl)] at hR
            wp_walk
            exact ⟨rfl, rfl, _, _, _, _, hrest, hvi', hwi', by omega, hR⟩
          | false =>
            rw [if_neg (fun q => absurd (hiff.mpr q) Bool.false_ne_true)] at hR
            have hri := rcGt_int A.in1 ⟨hp, g, d, tk, os⟩ a t c u prog w
            wp_walk using hri
            exact ⟨_, rfl, by simpa using hR⟩
    case fin =>
      rintro ⟨b1, b2⟩ s' ⟨hb', rfl, vs, ws, ns', ms', hz, hvi, hwi, hlen, hR⟩
      simp only at hb'
      subst hb'
      have hv : lexGt ns' ms' = decide (items2.size < items.size) := by
        cases hvi with
        | nil =>
          cases hwi with
          | nil =>
            simp only [List.length_nil] at hlen
            rw [lexGt_nil_nil]
            exact (decide_eq_false (by omega)).symm
          | cons c u hw =>
            simp only [List.length_nil, List.length_cons] at hlen
            rw [lexGt_nil_cons]
            exact (decide_eq_false (by omega)).symm
        | cons a t hv =>
          cases hwi with
          | nil =>
            simp only [List.length_nil, List.length_cons] at hlen
            rw [lexGt_cons_nil]
            exact (decide_eq_true (by omega)).symm
          | cons c u hw =>
            rw [List.zip_cons_cons] at hz
            cases hz
      rw [hv] at hR
      wp_walk
      exact ⟨_, rfl, by simpa [Builtin.Tuple.tupleCompareSizes] using hR⟩
    case h =>
      exact ⟨rfl, rfl, items.toList, items2.toList, ns, ms, rfl, hi, hj, by omega, h⟩
end
theorem gt_tupInts {prog : Program} {w : World} {A : Around} {E : Value → Shared → Prop} {s : Shared} {l b : Addr} {items items2 : Array Value} {ns ms : List Int} {Q : Value → Shared → Prop} (hl : IsTup s.heap l items) (hb : IsTup s.heap b items2) (hi : IntsAre items.toList ns) (hj : IntsAre items2.toList ms)
    (hu : A.units < cLine) (h : Q (.bool (lexGt ns ms)) s) : wpAny (model prog w) A (compareOp .Gt (.ref l) (.ref b)) Q E s := by
  obtain ⟨⟨cls, dd, data, sl⟩, ho, hc, n, hd⟩ := id hl
  obtain ⟨⟨cls2, dd2, data2, sl2⟩, ho2, hc2, n2, hd2⟩ := id hb
  simp only at hc hd hc2 hd2
  subst hc hd hc2 hd2
  exact richCompare_meets_room (op := .Gt) ⟨_, ho, rfl⟩ ⟨_, ho2, rfl⟩ PySem.F.slot_tuple_gt PySem.F.entry_tuple_gt (PySem.F.args_tuple_gt_2 _ _) (tuple_gt_ints l b items items2 n n2 dd dd2 sl sl2 ns ms hi hj)
    ⟨ho, ho2, show Value.bool (lexGt ns ms) ≠ Value.notImplemented ∧ Q (.bool (lexGt ns ms)) s from ⟨(fun x => nomatch x), h⟩⟩ hu
theorem gt_irr : ∀ a : List Int, lexGt a a = false
  | [] => rfl
  | x :: r => by rw [lexGt_cons, if_pos rfl]; exact gt_irr r
theorem gt_key : ∀ a b c : List Int, lexGt a b = true → lexGt c b = false → lexGt c a = false
  | [], [], _, h, _ => by cases h
  | [], _ :: _, _, h, _ => by cases h
  | _ :: _, _, [], _, _ => rfl
  | _ :: _, [], _ :: _, _, h => by cases h
  | x :: xs, y :: ys, z :: zs, h1, h2 => by
    rw [lexGt_cons] at h1 h2 ⊢
    by_cases e : x = y
    · rw [if_pos e] at h1
      by_cases e2 : z = y
      · rw [if_pos e2] at h2
        rw [if_pos (by omega)]
        exact gt_key xs ys zs h1 h2
      · rw [if_neg e2] at h2
        have := of_decide_eq_false h2
        rw [if_neg (by omega)]
        exact decide_eq_false (by omega)
    · rw [if_neg e] at h1
      have q1 := of_decide_eq_true h1
      by_cases e2 : z = y
      · rw [if_neg (by omega)]
        exact decide_eq_false (by omega)
      · rw [if_neg e2] at h2
        have := of_decide_eq_false h2
        rw [if_neg (by omega)]
        exact decide_eq_false (by omega)
abbrev maxRL (xs : List T) (μ : Mem) : RE T := fun K _ => ∃ rows, rowsOf xs = some rows ∧ (xs = [] → K .non μ) ∧ ∀ ns ∈ rows, (∀ ms ∈ rows, lexGt ms ns = false) → K (.tup (ns.map T.int)) μ
abbrev maxRT (t : T) (μ : Mem) : RE T := match t with
  | .lst xs => maxRL xs μ
  | .mut i => fun K Z => ∃ xs, μ[i]? = some (.lst xs) ∧ maxRL xs μ K Z
  | _ => .st
section
variable {X : Cx} {D : DP} {W : XW} {Γ : Cn} {k : Nat} {pins : List (Addr × Obj)} {s : Shared} {σ : St} {H : Hp} {φ α : List Addr} {τ : Sl} {μ : Mem} {f : De}
theorem maxR_go {ad : Addr} {xs : List T} {ws : List V} {Q : VK} {K0 : T → Mem → Prop} (hc : X.calm = true) (hu : X.A.units + 64 < cLine) (I : Inv X pins σ H s) (mr : MRel D φ α H μ) (q : Rd H ad (.lst ws)) (l : DenL D φ α H xs ws) {rows : List (List Int)} (hrows : rowsOf xs = some rows)
    (hE : xs = [] → K0 .non μ) (hK : ∀ ns ∈ rows, (∀ ms ∈ rows, lexGt ms ns = false) → K0 (.tup (ns.map T.int)) μ) (k1 : ∀ t μ', K0 t μ' → ∀ α' H', Stp α H α' H' → MRel D φ α' H' μ' → RV D φ Q t μ' α' H') :
    wpAny (model X.prog X.w) X.A (call (.builtin "max") [.ref ad] [(Str.ofString "default", .none)]) (EP X pins σ Q) X.xe s := by
  obtain ⟨its, rv, pl, hz⟩ := I.list (.inl q)
  have e1 := l.length
  have e2 := rv.length
  have e3 := rowsOf_len hrows
  have at_ : ∀ (i : Nat) v ns, its[i]? = some v → rows[i]? = some ns → ∃ a : Addr, v = .ref a ∧ Den D φ α H (.tup (ns.map T.int)) (.ref a) ∧ RowAt s.heap v ns := fun i v ns hv hn => by
    obtain ⟨w, hw, dw⟩ := l.get (rowsOf_at hrows hn)
    obtain ⟨u, hu', ru⟩ := rv.get hw
    rw [hv] at hu'; cases hu'
    obtain ⟨a, ys, rfl, n1, n2, r, dl⟩ := id dw
    cases ru
    have ey := intsOf_den (ns := ns) (by
      clear dl hw dw r hn hv
      induction ns with
      | nil => rfl
      | cons n r ih => show (intsOf (r.map T.int)).map (n :: ·) = _; rw [ih]; rfl) dl
    subst ey
    obtain ⟨its2, rv2, pt, _⟩ := I.tuple (.inl r)
    exact ⟨a, rfl, dw, a, _, rfl, pt, by simpa using intsAre_of rv2⟩
  have nil : its = [] → xs = [] := fun z => by
    rw [z] at e2
    exact List.length_eq_zero_iff.mp (by rw [e1, e2]; rfl)
  refine max_rows (ks := rows) (gt := lexGt) gt_irr gt_key ?_ (.inr rfl) (I.ok.hd hc) pl.isList (by omega) (fun _ => rfl) (fun z h' tk' kp => ?_) fun i v ns h' tk' hv hn hb kp => ?_
  · intro E i j vi vj ki kj h' tk' Q' h1 h2 h3 h4 kp q
    obtain ⟨a, _, _, ra⟩ := at_ i vi ki h1 h2
    obtain ⟨b, _, _, rb⟩ := at_ j vj kj h3 h4
    obtain ⟨a', ia, rfl, ta, na⟩ := ra.keep kp
    obtain ⟨b', ib, rfl, tb, nb⟩ := rb.keep kp
    exact gt_tupInts (s := { s with heap := h', toks := tk' }) ta tb na nb (by rw [in1_units]; omega) q
  · exact ⟨.non, H, I.kept kp, rfl, k1 _ _ (hE (nil z)) α H (Stp.refl _ _) mr _ rfl⟩
  · obtain ⟨a, rfl, d, _⟩ := at_ i v ns hv hn
    exact ⟨.ref a, H, I.kept kp, rfl, k1 _ _ (hK ns (List.mem_of_getElem? hn) hb) α H (Stp.refl _ _) mr _ d⟩
theorem se_maxR (C : Ck D W Γ X k) (hc : Γ.calm = true) {p0 pk pb pos : Pos} {a : Expr} {jj : Nat}
    (hx : ("max" : Str) ∈ Γ.G) (hg0 : Γ.gl "max" = .none) (hs0 : noStar a = true) (ha : PE X a (rdE D W f)) :
    PE X (.Call (.Name "max" p0) [a] [⟨some "default", .Constant .none jj pb, pk⟩] pos) (rdE D W (eB1 maxRT f)) := by
  have hm := C.glo _ hx
  rw [hg0] at hm
  rintro pins s σ H Q I ⟨φ, α, τ, μ, sr, mr, p⟩
  refine wpAny_Call_Name_kw (ld_blt I (C.glb _ hx) hm (show bootBuiltins "max" = some (.builtin "max") by decide +kernel) ?_ (by decide) (C.dbG _ hx))
  refine callWith_kw (thn (pa_cons ha pa_nil (noStar_of hs0) pos pins s σ H (fun vs H1 => ∃ v t μ1 α1, vs = [v] ∧ Stp α H α1 H1 ∧ MRel D φ α1 H1 μ1 ∧ Den D φ α1 H1 t v ∧ Post D W φ α1 H1 σ (RV D φ Q) (maxRT t μ1)) I ⟨φ, α, τ, μ, sr, mr, p.bind.mono fun t μ' α' H' st m q v d => ⟨v, t, μ', α', rfl, st, m, d, q⟩⟩) ?_) (by rw [noStar_of hs0]; rfl) (by rw [noStar_of hs0]; rfl) rfl rfl
  rintro us s1 ⟨vs, H1, I1, rv, v, t, μ1, α1, rfl, st, m, d, p⟩
  obtain ⟨u, rfl, r1⟩ := vals1 rv
  refine kws_cons (Constant_none (kws_nil ?_))
  show wpAny _ _ (call (.builtin "max") [u] [(Str.ofString "default", .none)]) _ _ _
  unfold maxRT at p
  split at p
  · obtain ⟨K0, Z0, ⟨rows, hn, hE, hk⟩, k1, k2⟩ := p
    obtain ⟨ad, xs, rfl, _, _, q, l⟩ := d
    cases r1
    exact maxR_go (C.clm hc) C.unt I1 m q l hn hE hk k1
  · obtain ⟨K0, Z0, ⟨xs, hj, rows, hn, hE, hk⟩, k1, k2⟩ := p
    obtain ⟨ad, hi, rfl⟩ := d
    cases r1
    obtain ⟨ws, q, l⟩ := m.ob _ ad _ hi hj
    exact maxR_go (C.clm hc) C.unt I1 m (.inl q) l hn hE hk k1
  · exact p.elim
end
def rMaxR : ER := fun r Γ e => match e with
  | .Call (.Name x _) [a] [⟨some ky, .Constant .none _ _, _⟩] _ =>
    gd (x == ("max" : Str) && ky == ("default" : Str) && (idx Γ.N x).isNone && noStar a && Γ.calm) ((r.e Γ a).bind fun f => (match Γ.look x with
      | .none => some (eB1 maxRT f)
      | _ => none))
  | _ => none
theorem rMaxR_ok {D : DP} : EOk D rMaxR := by
  intro r H X W Γ k e d C h
  unfold rMaxR at h
  split at h
  · rename_i x p0 a ky jj pb pk pos
    have hh := gd_of h
    clear h
    obtain ⟨hb, h⟩ := hh
    simp only [Bool.and_eq_true, beq_iff_eq] at hb
    obtain ⟨⟨⟨⟨rfl, rfl⟩, h2⟩, h3⟩, h4⟩ := hb
    obtain ⟨f, h7, h⟩ := bnd h
    cases hl : Γ.look "max" with
    | none =>
      simp only [hl] at h
      cases h
      obtain ⟨hx, hg⟩ := look_eq hl (by intro z; cases z)
      exact se_maxR C h4 hx hg h3 (H.e C h7)
    | _ => simp [hl] at h
  · cases h
end NH
end
section
set_option linter.all false
set_option maxRecDepth 100000
set_option maxHeartbeats 1000000
namespace NH
open PySem PySem.Spec PyProof.Rows L2 PySem.W
def kEv {α : Type} (lt : Nat → Nat → Bool) : KasT α → α
  | .ret a => a
  | .ask i j k => kEv lt (k (lt i j))
def kIn {α : Type} (n : Nat) : KasT α → Bool
  | .ret _ => true
  | .ask i j k => decide (i < n) && decide (j < n) && decide (i ≠ j) && kIn n (k true) && kIn n (k false)
theorem kEv_ok {α : Type} {n : Nat} {lt : Nat → Nat → Bool} {cmp : Nat → Nat → (Bool → Shared → Prop) → Shared → Prop} {G : α → Shared → Prop} {s : Shared} (hc : ∀ i j C, i < n → j < n → i ≠ j → C (lt i j) s → cmp i j C s) : ∀ t : KasT α, kIn n t = true → G (kEv lt t) s → t.kasWp cmp G s
  | .ret _, _, h => h
  | .ask i j k, hi, h => by
    simp only [kIn, Bool.and_eq_true, decide_eq_true_eq] at hi
    obtain ⟨⟨⟨⟨h1, h2⟩, h3⟩, h4⟩, h5⟩ := hi
    refine hc i j _ h1 h2 h3 ?_
    have : kIn n (k (lt i j)) = true := by
      cases lt i j
      · exact h5
      · exact h4
    exact kEv_ok hc (k (lt i j)) this h
def lt2 (b : Bool) : Nat → Nat → Bool
  | 1, 0 => b
  | 0, 1 => !b
  | _, _ => false
def lt3 (b10 b21 b20 : Bool) : Nat → Nat → Bool
  | 1, 0 => b10
  | 0, 1 => !b10
  | 2, 1 => b21
  | 1, 2 => !b21
  | 2, 0 => b20
  | 0, 2 => !b20
  | _, _ => false
theorem in2 : kIn 2 (kas_sort 2) = true := by decide +kernel
theorem in3 : kIn 3 (kas_sort 3) = true := by decide +kernel
abbrev R3 := Int × Int × Str
def kLt (a b : R3) : Bool := if a.1 = b.1 then decide (a.2.1 < b.2.1) else decide (a.1 < b.1)
def kNe (a b : R3) : Prop := ¬ (a.1 = b.1 ∧ a.2.1 = b.2.1)
theorem kLt_flip {a b : R3} (h : kNe a b) : kLt b a = !kLt a b := by
  unfold kLt
  unfold kNe at h
  by_cases e : a.1 = b.1
  · rw [if_pos e, if_pos e.symm]
    by_cases e2 : a.2.1 < b.2.1
    · rw [decide_eq_true e2, decide_eq_false (by omega)]; rfl
    · rw [decide_eq_false e2, decide_eq_true (by omega)]; rfl
  · rw [if_neg e, if_neg (Ne.symm e)]
    by_cases e2 : a.1 < b.1
    · rw [decide_eq_true e2, decide_eq_false (by omega)]; rfl
    · rw [decide_eq_false e2, decide_eq_true (by omega)]; rfl
theorem kLt_trans {a b c : R3} (h1 : kLt a b = true) (h2 : kLt b c = true) : kLt a c = true := by
  unfold kLt at *
  by_cases e : a.1 = b.1
  · rw [if_pos e] at h1
    have q1 := of_decide_eq_true h1
    by_cases e2 : b.1 = c.1
    · rw [if_pos e2] at h2
      have q2 := of_decide_eq_true h2
      rw [if_pos (by omega)]; exact decide_eq_true (by omega)
    · rw [if_neg e2] at h2
      have q2 := of_decide_eq_true h2
      rw [if_neg (by omega)]; exact decide_eq_true (by omega)
  · rw [if_neg e] at h1
    have q1 := of_decide_eq_true h1
    by_cases e2 : b.1 = c.1
    · rw [if_pos e2] at h2
      rw [if_neg (by omega)]; exact decide_eq_true (by omega)
    · rw [if_neg e2] at h2
      have q2 := of_decide_eq_true h2
      rw [if_neg (by omega)]; exact decide_eq_true (by omega)
def insR (x : R3) : List R3 → List R3
  | [] => [x]
  | y :: r => if kLt y x then x :: y :: r else y :: insR x r
def srtR : List R3 → List R3
  | [] => []
  | x :: r => insR x (srtR r)
theorem insR_len {x : R3} : ∀ {l : List R3}, (insR x l).length = l.length + 1
  | [] => rfl
  | y :: r => by
    unfold insR
    split
    · rfl
    · simp [insR_len]
theorem srtR_len : ∀ {l : List R3}, (srtR l).length = l.length
  | [] => rfl
  | x :: r => by unfold srtR; rw [insR_len, srtR_len]; rfl
abbrev outP {α : Type} (p : Array Nat) (xs : List α) (d : α) : List α := (p.toList.map fun i => xs.reverse.getD i d).reverse
theorem out2 {x y : Value × R3} (h : kNe x.2 y.2) : ∃ zs' : List (Value × R3), outP (kEv (lt2 (kLt x.2 y.2)) (kas_sort 2)) [x.1, y.1] Value.none = zs'.map (·.1) ∧ (∀ q ∈ zs', q ∈ [x, y]) ∧ zs'.map (·.2) = srtR [x.2, y.2] := by
  have f := kLt_flip h
  cases h1 : kLt x.2 y.2
  · exact ⟨[x, y], rfl, by simp, by rw [h1] at f; simp [srtR, insR, f]⟩
  · exact ⟨[y, x], rfl, by simp, by rw [h1] at f; simp [srtR, insR, f]⟩
theorem out3 {x y z : Value × R3} (hxy : kNe x.2 y.2) (hxz : kNe x.2 z.2) (hyz : kNe y.2 z.2) : ∃ zs' : List (Value × R3), outP (kEv (lt3 (kLt y.2 z.2) (kLt x.2 y.2) (kLt x.2 z.2)) (kas_sort 3)) [x.1, y.1, z.1] Value.none = zs'.map (·.1) ∧ (∀ q ∈ zs', q ∈ [x, y, z]) ∧ zs'.map (·.2) = srtR [x.2, y.2, z.2] := by
  have f1 := kLt_flip hxy
  have f2 := kLt_flip hxz
  have f3 := kLt_flip hyz
  cases h1 : kLt y.2 z.2 <;> cases h2 : kLt x.2 y.2 <;> cases h3 : kLt x.2 z.2 <;> rw [h1] at f3 <;> rw [h2] at f1 <;> rw [h3] at f2
  · exact ⟨[x, y, z], rfl, by simp, by simp [srtR, insR, f1, f2, f3]⟩
  · exact absurd (kLt_trans f3 f1) (by rw [f2]; decide)
  · exact ⟨[y, x, z], rfl, by simp, by simp [srtR, insR, f1, f2, f3]⟩
  · exact ⟨[y, z, x], rfl, by simp, by simp [srtR, insR, f1, f2, f3]⟩
  · exact ⟨[x, z, y], rfl, by simp, by simp [srtR, insR, f1, f2, f3]⟩
  · exact ⟨[z, x, y], rfl, by simp, by simp [srtR, insR, f1, f2, f3]⟩
  · exact absurd (kLt_trans h2 h1) (by rw [h3]; decide)
  · exact ⟨[z, y, x], rfl, by simp, by simp [srtR, insR, f1, f2, f3]⟩
def TupR (h : Heap) (v : Value) (r : R3) : Prop := ∃ a o n t1 t2 t3, v = .ref a ∧ h.get? a = some o ∧ o.cls = .type "tuple" ∧ o.data = .seq #[.int r.1 t1, .int r.2.1 t2, .str r.2.2 t3] n
theorem TupR.keep {h h' : Heap} {v : Value} {r : R3} (t : TupR h v r) (k : ∀ b o, h.get? b = some o → h'.get? b = some o) : TupR h' v r := by
  obtain ⟨a, o, n, t1, t2, t3, e, ho, hc, hd⟩ := t
  exact ⟨a, o, n, t1, t2, t3, e, k _ _ ho, hc, hd⟩
section
variable {prog : Program} {w : World} {A : Around} {E : Value → Shared → Prop} {s : Shared}
theorem lt_row {v v' : Value} {r r' : R3} {Q : Bool → Shared → Prop} (h1 : TupR s.heap v r) (h2 : TupR s.heap v' r') (ne : kNe r r') (h : Q (kLt r r') s) : wpAny (model prog w) A (keyLt' (tuples' true) v v') Q E s := by
  obtain ⟨a, o, n, t1, t2, t3, rfl, ho, hc, hd⟩ := h1
  obtain ⟨a', o', n', u1, u2, u3, rfl, ho', hc', hd'⟩ := h2
  unfold kLt at h
  unfold kNe at ne
  refine kat_lt ho hd ho' hd' ?_
  refine kat_cons (wpAny_eqBool_int ?_)
  refine kat_go (fun e => ?_) (fun e => ?_)
  · have e : r.1 = r'.1 := by simpa using e
    rw [if_pos e] at h
    refine kat_yes (kat_cons (wpAny_eqBool_int ?_))
    refine kat_go (fun e2 => ?_) (fun e2 => ?_)
    · exact absurd ⟨e, by simpa using e2⟩ ne
    · exact kat_no (kat_one _ _ (lt_int h))
  · have e : ¬ r.1 = r'.1 := by simpa using e
    rw [if_neg e] at h
    exact kat_no (oneLt_int h)
theorem tups_of : ∀ {zs : List (Value × R3)} {h : Heap}, (∀ q ∈ zs, TupR h q.1 q.2) → ∃ fs : List Value, KatTups h (zs.map (·.1)) fs ∧ fs.length = zs.length ∧ ∀ v ∈ fs, ∃ i t, v = Value.int i t
  | [], _, _ => ⟨[], KatTups.nil, rfl, by simp⟩
  | q :: r, h, k => by
    obtain ⟨fs, h1, h2, h3⟩ := tups_of (zs := r) fun p hp => k p (List.mem_cons_of_mem _ hp)
    obtain ⟨a, o, n, t1, t2, t3, e, ho, hc, hd⟩ := k q List.mem_cons_self
    refine ⟨.int q.2.1 t1 :: fs, ?_, by simp [h2], fun v hv => ?_⟩
    · rw [List.map_cons, e]
      exact KatTups.cons ho hc hd rfl h1
    · rcases List.mem_cons.mp hv with rfl | hv
      · exact ⟨_, _, rfl⟩
      · exact h3 v hv
theorem kind_rows {zs : List (Value × R3)} {Q : SortKind → Shared → Prop} (k : ∀ q ∈ zs, TupR s.heap q.1 q.2) (hl : 0 < zs.length) (h : Q (tuples' true) s) : wpAny (model prog w) A (keyKind' (zs.map (·.1)).toArray) Q E s := by
  obtain ⟨fs, h1, h2, h3⟩ := tups_of k
  refine kat_kind (T := .type "int") h1 (by omega) (fun v hv => ?_) (by decide) h
  obtain ⟨i, t, rfl⟩ := h3 v hv
  exact Looks.of_pure rfl
theorem tree_rows {zs : List (Value × R3)} {G : Array Nat → Shared → Prop} (k : ∀ q ∈ zs, TupR s.heap q.1 q.2) (pw : zs.Pairwise fun p q => kNe p.2 q.2) (l2 : 2 ≤ zs.length) (l3 : zs.length ≤ 3)
    (h : ∀ (p : Array Nat) (zs' : List (Value × R3)), outP p (zs.map (·.1)) Value.none = zs'.map (·.1) → (∀ q ∈ zs', q ∈ zs) → zs'.map (·.2) = srtR (zs.map (·.2)) → G p s) :
    (kas_sort zs.length).kasWp (kas_ask prog w A (tuples' true) (katRev true (zs.map (·.1)))) G s := by
  match zs, l2, l3, k, pw, h with
  | [x, y], _, _, k, pw, h =>
    have hx := k x (by simp)
    have hy := k y (by simp)
    have n1 : kNe x.2 y.2 := by simpa using pw
    obtain ⟨zs', o1, o2, o3⟩ := out2 (x := x) (y := y) n1
    refine kEv_ok (lt := lt2 (kLt x.2 y.2)) (fun i j C hi hj ij hC => ?_) _ in2 (h _ zs' o1 o2 o3)
    match i, j, hi, hj, ij, hC with
    | 1, 0, _, _, _, hC => exact lt_row hx hy n1 hC
    | 0, 1, _, _, _, hC => exact lt_row hy hx (fun e => n1 ⟨e.1.symm, e.2.symm⟩) (by rw [kLt_flip n1]; exact hC)
    | 0, 0, _, _, ij, _ => exact absurd rfl ij
    | 1, 1, _, _, ij, _ => exact absurd rfl ij
  | [x, y, z], _, _, k, pw, h =>
    have hx := k x (by simp)
    have hy := k y (by simp)
    have hz := k z (by simp)
    have n : (kNe x.2 y.2 ∧ kNe x.2 z.2) ∧ kNe y.2 z.2 := by simpa using pw
    obtain ⟨⟨n1, n2⟩, n3⟩ := n
    obtain ⟨zs', o1, o2, o3⟩ := out3 (x := x) (y := y) (z := z) n1 n2 n3
    refine kEv_ok (lt := lt3 (kLt y.2 z.2) (kLt x.2 y.2) (kLt x.2 z.2)) (fun i j C hi hj ij hC => ?_) _ in3 (h _ zs' o1 o2 o3)
    match i, j, hi, hj, ij, hC with
    | 1, 0, _, _, _, hC => exact lt_row hy hz n3 hC
    | 0, 1, _, _, _, hC => exact lt_row hz hy (fun e => n3 ⟨e.1.symm, e.2.symm⟩) (by rw [kLt_flip n3]; exact hC)
    | 2, 1, _, _, _, hC => exact lt_row hx hy n1 hC
    | 1, 2, _, _, _, hC => exact lt_row hy hx (fun e => n1 ⟨e.1.symm, e.2.symm⟩) (by rw [kLt_flip n1]; exact hC)
    | 2, 0, _, _, _, hC => exact lt_row hx hz n2 hC
    | 0, 2, _, _, _, hC => exact lt_row hz hx (fun e => n2 ⟨e.1.symm, e.2.symm⟩) (by rw [kLt_flip n2]; exact hC)
    | 0, 0, _, _, ij, _ => exact absurd rfl ij
    | 1, 1, _, _, ij, _ => exact absurd rfl ij
    | 2, 2, _, _, ij, _ => exact absurd rfl ij
theorem rsort_tree {a : Addr} {zs : List (Value × R3)} {n : Nat} {P : PySem.Fin → Shared → Prop} (ho : s.heap.get? a = some (seqObj "list" (zs.map (·.1)).toArray n)) (k : ∀ q ∈ zs, TupR s.heap q.1 q.2) (pw : zs.Pairwise fun p q => kNe p.2 q.2) (l3 : zs.length ≤ 3)
    (h : ∀ zs' : List (Value × R3), (∀ q ∈ zs', q ∈ zs) → zs'.map (·.2) = srtR (zs.map (·.2)) → P (.done (.ret .none)) { s with heap := sortedHeap s.heap a (zs.map (·.1)) (zs'.map (·.1)).toArray }) :
    wpAny (model prog w) A (Builtin.«list.sort» ⟨[.ref a], [(Str.ofString "reverse", .bool true)]⟩) P E s := by
  have ha : a < s.heap.objs.size := Heap.lt_size ho
  have lz : (zs.map (·.1)).toArray.size = zs.length := by simp
  have sl : ∀ {m : Nat}, m ≤ 3 → m ≤ sizeLine := fun h => Nat.le_trans h (by rw [sizeLine_eq]; omega)
  obtain ⟨c1, hc1⟩ : ∃ c, (s.heap.update a (Obj.mapSeq fun _ => #[])).get? a = some (seqObj "list" #[] c) := ⟨_, get?_update_seq ho (fun _ => #[])⟩
  rw [list_sort_rev]
  refine wpAny_bind (listItems_at ho rfl (wpAny_bind (listUpdate_at ho rfl ?_ (by rw [lz]; exact sl l3) (Nat.zero_le _))))
  refine wpAny_bind (seqEpoch_at hc1 rfl (wpAny_bind (wpAny_newTuple ?_ (by show (zs.map (·.1)).length ≤ _; rw [List.length_map]; exact sl l3))))
  refine wpAny_bind (wpAny_newList (wpAny_holding ?_) (Nat.zero_le _))
  generalize hH : ((s.heap.update a (Obj.mapSeq fun _ => #[])).push (seqObj "tuple" (zs.map (·.1)).toArray 0)).push (seqObj "list" #[] 0) = H1
  have up : ∀ b o, s.heap.get? b = some o → b ≠ a → H1.get? b = some o := fun b o e hb => by
    rw [← hH]
    exact Heap.get?_push_of_some _ (Heap.get?_push_of_some _ (by rw [Heap.get?_update_ne _ _ _ _ hb]; exact e))
  have hc2 : H1.get? a = some (seqObj "list" #[] c1) := by
    rw [← hH]; exact Heap.get?_push_of_some _ (Heap.get?_push_of_some _ hc1)
  have k1 : ∀ q ∈ zs, TupR H1 q.1 q.2 := fun q hq => by
    obtain ⟨b, o, m, t1, t2, t3, e, hb, hc, hd⟩ := k q hq
    refine ⟨b, o, m, t1, t2, t3, e, up b o hb (fun z => ?_), hc, hd⟩
    rw [z, ho] at hb; cases hb
    injection (show Value.type "list" = Value.type "tuple" from hc) with e
    exact absurd e (by decide)
  have put : ∀ {f : Array Value → Array Value} {out : Array Value}, f #[] = out → out.size ≤ 3 → P (.done (.ret .none)) { s with heap := H1.update a (Obj.mapSeq f) } →
      wpAny (model prog w) A (do
        let e ← seqEpoch a
        Builtin.List.listUpdate (.ref a) f
        if (e != c1) = true then do
          rule "list.sort.modified"
          raiseErrorWords "ValueError" "list modified during sort"
          ret Value.none
        else ret Value.none) P E { s with heap := H1 } := fun {f out} he ho' hp => by
    refine wpAny_bind (seqEpoch_at hc2 rfl (wpAny_bind (listUpdate_at hc2 rfl ?_ (Nat.zero_le _) (by rw [he]; exact Nat.le_trans (sl ho') (Nat.le_succ _)))))
    rw [show (c1 != c1) = false from bne_self_eq_false _, if_neg (by decide)]
    exact wpAny_pure hp
  dsimp only
  rw [if_pos rfl]
  refine wpAny_bind (wpAny_rule ?_)
  have fin : ∀ zs' : List (Value × R3), (∀ q ∈ zs', q ∈ zs) → zs'.map (·.2) = srtR (zs.map (·.2)) → P (.done (.ret .none)) { s with heap := H1.update a (Obj.mapSeq fun _ => (zs'.map (·.1)).toArray) } := fun zs' m e => by
    rw [← hH]; exact h zs' m e
  by_cases l2 : zs.length < 2
  · have lt : (zs.map (·.1)).toArray.size < 2 := by rw [lz]; exact l2
    rw [if_pos lt]
    refine wpAny_bind (wpAny_pure ?_)
    rw [if_pos lt, StateT.run_pure]
    refine wpAny_bind (wpAny_pure ?_)
    dsimp only
    have e9 : (Array.map (fun x : Value × Value => x.2) (((zs.map (·.1)).toArray.zip (zs.map (·.1)).toArray).reverse)).reverse = (zs.map (·.1)).toArray := by
      apply Array.toList_inj.mp
      simp [List.map_reverse, List.map_snd_zip]
    have sr : zs.map (·.2) = srtR (zs.map (·.2)) := by
      match zs, l2 with
      | [], _ => rfl
      | [x], _ => rfl
    have f9 := fin zs (fun q h => h) sr
    rw [← e9] at f9
    exact put (out := _) rfl (by rw [if_pos rfl, if_pos rfl]; exact Nat.le_trans (Nat.le_of_eq (congrArg Array.size e9)) (by rw [lz]; omega)) f9
  · have nl : ¬ (zs.map (·.1)).toArray.size < 2 := by rw [lz]; exact l2
    rw [if_neg nl]
    refine wpAny_bind (kind_rows (s := { s with heap := H1 }) k1 (by omega) ?_)
    rw [if_neg nl, kat_pairs true rfl]
    have el : (katRev true (zs.map (·.1))).length = zs.length := by rw [kat_len, List.length_map]
    refine wpAny_bind (wpAny_mono (kat_run (s := { s with heap := H1 }) (Q := fun st' s' => s' = { s with heap := H1 } ∧ failedOf st' = none ∧ ∃ zs' : List (Value × R3), ((arrOf st').map (·.2)).reverse = (zs'.map (·.1)).toArray ∧ (∀ q ∈ zs', q ∈ zs) ∧ zs'.map (·.2) = srtR (zs.map (·.2)))
      (G := fun p s' => s' = { s with heap := H1 } ∧ ∃ zs' : List (Value × R3), outP p (zs.map (·.1)) Value.none = zs'.map (·.1) ∧ (∀ q ∈ zs', q ∈ zs) ∧ zs'.map (·.2) = srtR (zs.map (·.2))) rfl (by omega) (by omega) (fun p st' s' a1 a2 a3 a4 => ?_) ?_) (fun r s' hq => ?_) fun _ _ z => z)
    · obtain ⟨e1, zs', o1, o2, o3⟩ := a4
      refine ⟨e1, a3, zs', ?_, o2, o3⟩
      rw [kat_snds rfl a2, ← o1]
      simp [katRev]
    · rw [el]
      exact tree_rows (s := { s with heap := H1 }) k1 pw (by omega) l3 fun p zs' o1 o2 o3 => ⟨rfl, zs', o1, o2, o3⟩
    · obtain ⟨⟨⟩, st'⟩ := r
      obtain ⟨rfl, hf, zs', o1, o2, o3⟩ := hq
      dsimp only
      rw [if_pos rfl, o1, hf]
      have ez : zs'.length = zs.length := by
        have e1 := congrArg List.length o3
        rw [List.length_map, srtR_len, List.length_map] at e1
        exact e1
      exact put rfl (by simp; omega) (fin zs' o2 o3)
theorem sorted_rows {l : Addr} {zs : List (Value × R3)} {Q : Value → Shared → Prop} (hl : s.heap.IsList l (zs.map (·.1)).toArray) (k : ∀ q ∈ zs, TupR s.heap q.1 q.2) (pw : zs.Pairwise fun p q => kNe p.2 q.2) (l3 : zs.length ≤ 3)
    (h : ∀ zs' : List (Value × R3), (∀ q ∈ zs', q ∈ zs) → zs'.map (·.2) = srtR (zs.map (·.2)) → Q (.ref (s.heap.objs.size + 1)) { s with heap := sortedAll s.heap (zs.map (·.1)) (zs'.map (·.1)).toArray }) :
    wpAny (model prog w) A (call (.builtin "sorted") [.ref l] [(Str.ofString "reverse", .bool true)]) Q E s := by
  have sl : (zs.map (·.1)).length ≤ sizeLine := Nat.le_trans (by rw [List.length_map]; exact l3) (by rw [sizeLine_eq]; omega : 3 ≤ sizeLine)
  refine call_function_entry_kw kind_sorted plain_sorted entry_sorted (args_sorted_rev _ _) ?_
  unfold Builtin.«sorted»
  refine wpAny_bind (m := checkCount "sorted" 1 1 _) (wpAny_pure (wpAny_bind (collect_list hl (wpAny_bind (wpAny_newList ?_ sl)) (by simpa using sl))))
  have z1 : ((s.heap.push (seqObj "list" #[] 0)).update s.heap.objs.size (Obj.mapSeq (· ++ (zs.map (·.1)).toArray))).objs.size = s.heap.objs.size + 1 := by rw [Heap.size_update, size_push']
  generalize hB : (s.heap.push (seqObj "list" #[] 0)).update s.heap.objs.size (Obj.mapSeq (· ++ (zs.map (·.1)).toArray)) = B at z1
  have g1 : (B.push (seqObj "list" (zs.map (·.1)).toArray 0)).get? (s.heap.objs.size + 1) = some (seqObj "list" (zs.map (·.1)).toArray 0) := by rw [← z1]; exact Heap.get?_push_size _ rfl
  have up : ∀ b o, s.heap.get? b = some o → (B.push (seqObj "list" (zs.map (·.1)).toArray 0)).get? b = some o := fun b o e => by
    have lb := Heap.lt_size e
    refine Heap.get?_push_of_some _ ?_
    rw [← hB, Heap.get?_update_ne _ _ _ _ (Nat.ne_of_lt lb)]
    exact Heap.get?_push_of_some _ e
  show wpAny _ _ _ _ _ { s with heap := B.push (seqObj "list" (zs.map (·.1)).toArray 0) }
  rw [z1]
  refine wpAny_bind (wpAny_holding (wpAny_call_entry_kw slot_list_sort ⟨_, g1, rfl⟩ entry_list_sort (rsort_tree (s := { s with heap := B.push (seqObj "list" (zs.map (·.1)).toArray 0) }) g1 (fun q hq => (k q hq).keep up) pw l3 fun zs' m e => ⟨_, rfl, ?_⟩) (args_list_sort_rev _ _)))
  have := h zs' m e
  unfold sortedAll at this
  rw [hB] at this
  exact wpAny_pure ⟨_, rfl, this⟩
end
abbrev r3T (r : R3) : T := .tup [.int r.1, .int r.2.1, .str r.2.2]
abbrev sortRL (xs : List T) (μ : Mem) : RE T := fun K _ => ∃ rows : List R3, xs = rows.map r3T ∧ rows.length ≤ 3 ∧ rows.Pairwise kNe ∧ K (.lst ((srtR rows).map r3T)) μ
abbrev sortRT (t : T) (μ : Mem) : RE T := match t with
  | .lst xs => sortRL xs μ
  | .mut i => fun K Z => ∃ xs, μ[i]? = some (.lst xs) ∧ sortRL xs μ K Z
  | _ => .st
section
variable {X : Cx} {D : DP} {W : XW} {Γ : Cn} {k : Nat} {pins : List (Addr × Obj)} {s : Shared} {σ : St} {H : Hp} {φ α : List Addr} {τ : Sl} {μ : Mem} {f : De}
theorem sortR_go {ad : Addr} {rows : List R3} {ws : List V} {Q : VK} {K0 : T → Mem → Prop} (I : Inv X pins σ H s) (mr : MRel D φ α H μ) (q : Rd H ad (.lst ws)) (l : DenL D φ α H (rows.map r3T) ws) (l3 : rows.length ≤ 3) (pw : rows.Pairwise kNe)
    (hK : K0 (.lst ((srtR rows).map r3T)) μ) (k1 : ∀ t μ', K0 t μ' → ∀ α' H', Stp α H α' H' → MRel D φ α' H' μ' → RV D φ Q t μ' α' H') :
    wpAny (model X.prog X.w) X.A (call (.builtin "sorted") [.ref ad] [(Str.ofString "reverse", .bool true)]) (EP X pins σ Q) X.xe s := by
  obtain ⟨its, rv, pl, hz⟩ := I.list (.inl q)
  have e1 := l.length
  have e2 := rv.length
  rw [List.length_map] at e1
  have ez : (its.zip rows).map (·.1) = its := List.map_fst_zip (by omega)
  have er : (its.zip rows).map (·.2) = rows := List.map_snd_zip (by omega)
  have at_ : ∀ p ∈ its.zip rows, ∃ wv : V, RelV wv p.1 ∧ Den D φ α H (r3T p.2) wv ∧ TupR s.heap p.1 p.2 := fun p hp => by
    obtain ⟨i, hi, e⟩ := List.mem_iff_getElem.mp hp
    have hi' : i < its.length ∧ i < rows.length := by rw [List.length_zip] at hi; omega
    rw [List.getElem_zip] at e
    subst e
    obtain ⟨wv, hw, dw⟩ := l.get (i := i) (t := r3T rows[i]) (by rw [List.getElem?_map, List.getElem?_eq_getElem hi'.2]; rfl)
    obtain ⟨u, hu, ru⟩ := rv.get hw
    rw [List.getElem?_eq_getElem hi'.1] at hu
    cases hu
    refine ⟨wv, ru, dw, ?_⟩
    obtain ⟨a, ys, rfl, n1, n2, r, dl⟩ := dw
    obtain ⟨v1, y1, rfl, d1, v2, y2, rfl, d2, v3, y3, rfl, d3, d4⟩ := dl
    cases d1; cases d2; cases d3; cases d4
    obtain ⟨its2, rv2, pt, _⟩ := I.tuple (.inl r)
    have ru' : its[i]'hi'.1 = Value.ref a := ru
    cases rv2 with
    | cons r1 rv2 => cases rv2 with
      | cons r2 rv2 => cases rv2 with
        | cons r3 rv2 =>
          cases rv2
          obtain ⟨t1, rfl⟩ := r1
          obtain ⟨t2, rfl⟩ := r2
          obtain ⟨t3, rfl⟩ := r3
          obtain ⟨o, ho, hc, n, hd⟩ := pt
          exact ⟨a, o, n, t1, t2, t3, ru', ho, hc, hd⟩
  have mk : ∀ zs' : List (Value × R3), (∀ p ∈ zs', p ∈ its.zip rows) → ∃ ws' : List V, Vals ws' (zs'.map (·.1)) ∧ DenL D φ α H (zs'.map fun p => r3T p.2) ws' := fun zs' => by
    induction zs' with
    | nil => exact fun _ => ⟨[], .nil, rfl⟩
    | cons p r ih =>
      intro hm
      obtain ⟨ws', a1, a2⟩ := ih fun p hp => hm p (List.mem_cons_of_mem _ hp)
      obtain ⟨wv, b1, b2, _⟩ := at_ p (hm p List.mem_cons_self)
      exact ⟨wv :: ws', .cons b1 a1, wv, ws', rfl, b2, a2⟩
  refine sorted_rows (zs := its.zip rows) (by rw [ez]; exact pl.isList) (fun p hp => (at_ p hp).choose_spec.2.2) (List.pairwise_map.mp (by rw [er]; exact pw)) (by rw [List.length_zip]; omega) fun zs' hm hs => ?_
  obtain ⟨ws', a1, a2⟩ := mk zs' hm
  obtain ⟨e, he⟩ := sortedAll_at s.heap ((its.zip rows).map (·.1)) (zs'.map (·.1)).toArray
  have hp : H (s.heap.objs.size + 1) = none := I.hok.fresh (Nat.le_succ _)
  have hl : ws'.length ≤ sizeLine := by
    have b1 := a1.length
    have b2 := congrArg List.length hs
    rw [List.length_map, srtR_len, er] at b2
    rw [List.length_map] at b1
    rw [sizeLine_eq]; omega
  refine ⟨.ref (s.heap.objs.size + 1), upd H (s.heap.objs.size + 1) (.lst ws'), I.laid (t' := s.toks) (fun b o e => sortedAll_old e) (Nat.le_succ _) (show ObjOk X.prog X.w _ _ _ (.lst ws') from ⟨hl, zs'.map (·.1), e, a1, he⟩), rfl, ?_⟩
  refine k1 _ μ hK α _ (Stp.new (same_upd hp)) (mr.new (same_upd hp)) _ ⟨_, ws', rfl, fresh_phi mr hp, fresh_out mr hp, .inl upd_same, ?_⟩
  rw [← er, ← hs, List.map_map]
  exact a2.step (Stp.new (same_upd hp))
theorem se_sortR (C : Ck D W Γ X k) {p0 pk pb pos : Pos} {a : Expr} {jj : Nat}
    (hx : ("sorted" : Str) ∈ Γ.G) (hg0 : Γ.gl "sorted" = .none) (hs0 : noStar a = true) (ha : PE X a (rdE D W f)) :
    PE X (.Call (.Name "sorted" p0) [a] [⟨some "reverse", .Constant (.bool true) jj pb, pk⟩] pos) (rdE D W (eB1 sortRT f)) := by
  have hm := C.glo _ hx
  rw [hg0] at hm
  rintro pins s σ H Q I ⟨φ, α, τ, μ, sr, mr, p⟩
  refine wpAny_Call_Name_kw (ld_blt I (C.glb _ hx) hm (show bootBuiltins "sorted" = some (.builtin "sorted") by decide +kernel) ?_ (by decide) (C.dbG _ hx))
  refine callWith_kw (thn (pa_cons ha pa_nil (noStar_of hs0) pos pins s σ H (fun vs H1 => ∃ v t μ1 α1, vs = [v] ∧ Stp α H α1 H1 ∧ MRel D φ α1 H1 μ1 ∧ Den D φ α1 H1 t v ∧ Post D W φ α1 H1 σ (RV D φ Q) (sortRT t μ1)) I ⟨φ, α, τ, μ, sr, mr, p.bind.mono fun t μ' α' H' st m q v d => ⟨v, t, μ', α', rfl, st, m, d, q⟩⟩) ?_) (by rw [noStar_of hs0]; rfl) (by rw [noStar_of hs0]; rfl) rfl rfl
  rintro us s1 ⟨vs, H1, I1, rv, v, t, μ1, α1, rfl, st, m, d, p⟩
  obtain ⟨u, rfl, r1⟩ := vals1 rv
  refine kws_cons (Constant_bool (kws_nil ?_))
  show wpAny _ _ (call (.builtin "sorted") [u] [(Str.ofString "reverse", .bool true)]) _ _ _
  unfold sortRT at p
  split at p
  · obtain ⟨K0, Z0, ⟨rows, rfl, h3, pw, hk⟩, k1, k2⟩ := p
    obtain ⟨ad, xs, rfl, _, _, q, l⟩ := d
    cases r1
    exact sortR_go I1 m q l h3 pw hk k1
  · obtain ⟨K0, Z0, ⟨xs, hj, rows, rfl, h3, pw, hk⟩, k1, k2⟩ := p
    obtain ⟨ad, hi, rfl⟩ := d
    cases r1
    obtain ⟨ws, q, l⟩ := m.ob _ ad _ hi hj
    exact sortR_go I1 m (.inl q) l h3 pw hk k1
  · exact p.elim
end
def rSortR : ER := fun r Γ e => match e with
  | .Call (.Name x _) [a] [⟨some ky, .Constant (.bool true) _ _, _⟩] _ =>
    gd (x == ("sorted" : Str) && ky == ("reverse" : Str) && (idx Γ.N x).isNone && noStar a) ((r.e Γ a).bind fun f => (match Γ.look x with
      | .none => some (eB1 sortRT f)
      | _ => none))
  | _ => none
theorem rSortR_ok {D : DP} : EOk D rSortR := by
  intro r H X W Γ k e d C h
  unfold rSortR at h
  split at h
  · rename_i x p0 a ky jj pb pk pos
    have hh := gd_of h
    clear h
    obtain ⟨hb, h⟩ := hh
    simp only [Bool.and_eq_true, beq_iff_eq] at hb
    obtain ⟨⟨⟨rfl, rfl⟩, h2⟩, h3⟩ := hb
    obtain ⟨f, h7, h⟩ := bnd h
    cases hl : Γ.look "sorted" with
    | none =>
      simp only [hl] at h
      cases h
      obtain ⟨hx, hg⟩ := look_eq hl (by intro z; cases z)
      exact se_sortR C hx hg h3 (H.e C h7)
    | _ => simp [hl] at h
  · cases h
def isTold : Expr → Bool
  | .Name x _ => x == ("_law_told" : Str)
  | _ => false
def rtMemN : TR := fun r Γ e => match e with
  | .Compare a [.NotIn] [b] _ => gd (isTold a && okCmp .NotIn b) ((r.e Γ a).bind fun f => (r.e Γ b).bind fun g => some (tE (eMem true f g)))
  | _ => none
theorem rtMemN_ok {D : DP} : TOk D rtMemN := by
  intro r H X W Γ k e d C h
  unfold rtMemN at h
  split at h
  · obtain ⟨hb, h1⟩ := gd_of h
    obtain ⟨f, e1, h1⟩ := bnd h1
    obtain ⟨g, e2, h1⟩ := bnd h1
    cases h1
    simp only [Bool.and_eq_true] at hb
    exact stest_mem (neg := true) C hb.2 (H.e C e1) (H.e C e2)
  · cases h
end NH
end
section
set_option linter.all false
set_option maxRecDepth 100000
namespace NH.P
open PySem L2 NH
@[reducible] def b_highest_two : List Ds := [(sSet 2 (eLay [])), (sFor (.one 3) (iE (eB1 sortRT (eBin .Add (eV 0) (eLst [(eV 1)])))) [(sIf (tE (eB1 allT (eComp 1 [3] (.one 0) (iE (eV 2)) [] (eCmp .NotEq (eIx (eV 1) (eC (.int 2))) (eIx (eV 0) (eC (.int 2))))))) [(sExpr (eApp (eV 2) (eV 3)))] [])]), (sRet (eSl (eV 2) pN (pS (eC (.int 2)))))]
def highest_two : Fn := fnW 2 2 b_highest_two
@[reducible] def b_back_by : List Ds := [(sSet 2 (eLay [])), (sSet 3 (eLst [])), (sFor (.one 4) (iRng (eB1 lenT (eV 1))) [(sSet 5 (eIx (eIx (eV 1) (eV 4)) (eC (.int 1)))), (sSet 6 (eIx (eCall parts_of [(eV 0), (eIx (eIx (eV 1) (eV 4)) (eC (.int 2)))]) (eC (.int 0)))), (sSet 7 (eComp 1 [5] (.one 0) (iE (eV 3)) [(tE (eCmp .NotEq (eIx (eV 0) (eC (.int 2))) (eV 1)))] (eV 0))), (sIf (tE (eCmp .Gt (eB1 lenT (eV 7)) (eC (.int 0)))) [(sExpr (eApp (eV 2) (eTup [(eBin .Sub (eIx (eIx (eV 7) (eC (.int 0))) (eC (.int 0))) (eV 6)), (eIx (eIx (eV 7) (eC (.int 0))) (eC (.int 1))), (eV 4)])))] []), (sSet 3 (eCall highest_two [(eV 3), (eTup [(eV 6), (eV 4), (eV 5)])]))]), (sRet (eB1 maxRT (eV 2)))]
def back_by : Fn := fnW 2 6 b_back_by
@[reducible] def b_law_k53 : List Ds := [(sSet 1 (eCall l_digits [(eCall l_cell_at [(eV 0), (eC (.int 0))])])), (sSet 2 (eCall l_shape_2 [(eV 1)])), (sSet 3 (eMk 40 Shape_init [(eIx (eV 2) (eC (.int 0))), (eIx (eV 2) (eC (.int 1))), (eIx (eV 2) (eC (.int 2)))])), (sSet 4 (eBin .Mult (eBin .Mult (eIx (eV 2) (eC (.int 0))) (eIx (eV 2) (eC (.int 1)))) (eIx (eV 2) (eC (.int 2))))), (sSet 5 (eCall l_next_2 [(eV 1), (eV 4)])), (sSet 6 (eLay [])), (sFor (.tup [7, 8]) (iEnum (eSl (eV 0) (pS (eC (.int 1))) (pS (eC (.int 21))))) [(sSet 1 (eCall l_digits [(eV 8)])), (sSet 9 (eIx (eLst [(eCall l_next_2 [(eV 1), (eV 4)]), (eB2 min2T (eBin .Sub (eV 4) (eC (.int 1))) (eBin .Add (eV 5) (eCall l_next_2 [(eV 1), (eBin .Mult (eC (.int 40)) (eIx (eV 2) (eC (.int 2))))])))]) (eCall l_next_2 [(eV 1), (eC (.int 2))]))), (sExpr (eApp (eV 6) (eTup [(eV 7), (eIx (eLst [(eC (.str "one")), (eC (.str "ones")), (eC (.str "a"))]) (eCall l_next_2 [(eV 1), (eC (.int 3))])), (eV 9)])))]), (sSet 10 (eLay [])), (sFor (.tup [7, 11]) (iEnum (eV 6)) [(sFor (.one 12) (iRng (eV 7)) [(sIf (tE (eCmp .NotEq (eIx (eIx (eV 6) (eV 12)) (eC (.int 1))) (eIx (eV 11) (eC (.int 1))))) [(sSet 13 (eComp 1 [2] (.one 0) (iE (eLst [(eIx (eIx (eV 6) (eV 12)) (eC (.int 2))), (eIx (eV 11) (eC (.int 2)))])) [] (eBin .FloorDiv (eBin .FloorDiv (eV 0) (eIx (eV 1) (eC (.int 2)))) (eIx (eV 1) (eC (.int 1)))))), (sExpr (eApp (eV 10) (eTup [(eBin .Sub (eIx (eV 13) (eC (.int 0))) (eIx (eV 13) (eC (.int 1)))), (eV 12), (eV 7)])))] [])])]), (sSet 14 (eB1 listT (eV 6))), (sSet 15 (eCall back_by [(eV 3), (eV 14)])), (sIf (tOr (tE (eCmp .NotEq (eV 14) (eV 6))) (tAnd (tE (eCmp .Eq (eV 10) (eLst []))) (tE (eCmp .IsNot (eV 15) (eC .non))))) [(sRet (eC (.bl false)))] []), (sIf (tE (eCmp .Eq (eV 10) (eLst []))) [(sRet (eC (.bl true)))] []), (sIf (tOr (tNot (tE (eIsi [4] (eV 15)))) (tOr (tE (eMem true (eV 15) (eV 10))) (tE (eMemB false (eC (.bl true)) (eComp 1 [] (.one 0) (iE (eV 15)) [] (eIsi [1] (eV 0))))))) [(sRet (eC (.bl false)))] []), (sRet (eCmp .Eq (eIx (eV 15) (eC (.int 0))) (eB1 maxT (eComp 1 [] (.one 0) (iE (eV 10)) [] (eIx (eV 0) (eC (.int 0)))))))]
def law_k53 : Fn := fnW 1 15 b_law_k53
end NH.P
end
section
set_option linter.all false
set_option maxRecDepth 100000
set_option maxHeartbeats 4000000
namespace NH.K53
open PySem PySem.Spec PyProof.Rows L2 NH NH.P
def st (i : Nat) : Stmt := PySem.Challenge.pw_namehouses_k53_how_far_a_book_is_back.main.body.getD i (.Pass ⟨0, 0, 0, 0⟩)
def cls : List (Str × Nat) := [("bool", 1), ("int", 2), ("tuple", 4)]
def fld : List (Str × Nat) := [("moments", 0), ("houses", 1), ("counts", 2)]
def RU : Rules := ⟨[rCon, rNam, rBin, rUn, rBool, rMemB, rCmp, rFld, rSub, rLst, rCal, rLen, rList, rAll, rIsi, rApp, rComp, rMin2, rMaxL, rMaxR, rSortR], [rtMemB, rtMemN, rtVal], [rwBool], [riRng, riEnum, riE], [roLst], [rsRet, rsExp, rsIf, rsAsg, rsFor, rsRai]⟩
theorem RU_ok {D : DP} : RulesOk D RU := ⟨⟨rCon_ok, rNam_ok, rBin_ok, rUn_ok, rBool_ok, rMemB_ok, rCmp_ok, rFld_ok, rSub_ok, rLst_ok, rCal_ok, rLen_ok, rList_ok, rAll_ok, rIsi_ok, rApp_ok, rComp_ok, rMin2_ok, rMaxL_ok, rMaxR_ok, rSortR_ok, trivial⟩, ⟨rtMemB_ok, rtMemN_ok, rtVal_ok, trivial⟩, ⟨rwBool_ok, trivial⟩, ⟨riRng_ok, riEnum_ok, riE_ok, trivial⟩, ⟨roLst_ok, trivial⟩, ⟨rsRet_ok, rsExp_ok, rsIf_ok, rsAsg_ok, rsFor_ok, rsRai_ok, trivial⟩⟩
def gs0 : List (Str × GM) := plainGs ["ValueError", "all", "bool", "enumerate", "int", "isinstance", "len", "list", "max", "min", "range", "sorted", "tuple"] [("HouseError", 10), ("NoShape", 12), ("NoName", 13)] []
def s_is_whole := st 5
def g_is_whole : Cn := cn cls fld gs0 ["thing"] ["isinstance", "int", "bool"] [] []
theorem k_is_whole : mapE ((comp RU 60).s g_is_whole) (defBody s_is_whole) = some b_is_whole := by kernel_rfl
def gs1 : List (Str × GM) := ("is_whole", GM.fn is_whole) :: gs0
def s_is_size := st 6
def g_is_size : Cn := cn cls fld gs1 ["thing"] ["is_whole"] [] []
theorem k_is_size : mapE ((comp RU 60).s g_is_size) (defBody s_is_size) = some b_is_size := by kernel_rfl
def gs2 : List (Str × GM) := ("is_size", GM.fn is_size) :: gs1
def s_is_below := st 7
def g_is_below : Cn := cn cls fld gs2 ["thing", "bound"] ["is_whole"] [] []
theorem k_is_below : mapE ((comp RU 60).s g_is_below) (defBody s_is_below) = some b_is_below := by kernel_rfl
def gs3 : List (Str × GM) := ("is_below", GM.fn is_below) :: gs2
def s_Shape_init := inClass (st 8) 0
def g_Shape_init : Cn := cn cls fld gs3 ["self", "moments", "houses", "counts"] ["is_size", "NoShape"] [] []
theorem k_Shape_init : mapE ((comp RU 60).s g_Shape_init) (defBody s_Shape_init) = some b_Shape_init := by kernel_rfl
def gs4 : List (Str × GM) := ("Shape", GM.mk 40 true Shape_init) :: gs3
def s_names_in := st 9
def g_names_in : Cn := cn cls fld gs4 ["shape"] [] [] []
theorem k_names_in : mapE ((comp RU 60).s g_names_in) (defBody s_names_in) = some b_names_in := by kernel_rfl
def gs5 : List (Str × GM) := ("names_in", GM.fn names_in) :: gs4
def s_is_name := st 10
def g_is_name : Cn := cn cls fld gs5 ["shape", "thing"] ["is_below", "names_in"] [] []
theorem k_is_name : mapE ((comp RU 60).s g_is_name) (defBody s_is_name) = some b_is_name := by kernel_rfl
def gs6 : List (Str × GM) := ("is_name", GM.fn is_name) :: gs5
def s_check_name := st 11
def g_check_name : Cn := cn cls fld gs6 ["shape", "thing"] ["is_name", "NoName"] [] []
theorem k_check_name : mapE ((comp RU 60).s g_check_name) (defBody s_check_name) = some b_check_name := by kernel_rfl
def gs7 : List (Str × GM) := ("check_name", GM.fn check_name) :: gs6
def s_parts_of := st 12
def g_parts_of : Cn := cn cls fld gs7 ["shape", "name", "count", "above"] ["check_name"] [] []
theorem k_parts_of : mapE ((comp RU 60).s g_parts_of) (defBody s_parts_of) = some b_parts_of := by kernel_rfl
def gs8 : List (Str × GM) := ("parts_of", GM.fn parts_of) :: gs7
def s_highest_two := st 14
def g_highest_two : Cn := cn cls fld gs8 ["highs", "high", "found", "one"] ["sorted", "all"] ["one"] ["found"]
theorem k_highest_two : mapE ((comp RU 60).s g_highest_two) (defBody s_highest_two) = some b_highest_two := by kernel_rfl
def gs9 : List (Str × GM) := ("highest_two", GM.fn highest_two) :: gs8
def s_back_by := st 15
def g_back_by : Cn := cn cls fld gs9 ["shape", "book", "found", "highs", "place", "holder", "moment", "others"] ["range", "len", "parts_of", "highest_two", "max"] ["holder"] ["found"]
theorem k_back_by : mapE ((comp RU 60).s g_back_by) (defBody s_back_by) = some b_back_by := by kernel_rfl
def gs10 : List (Str × GM) := ("back_by", GM.fn back_by) :: gs9
def s_l_cell_at := st 17
def g_l_cell_at : Cn := cn cls fld gs10 ["_law_script", "_law_k"] ["len"] [] []
theorem k_l_cell_at : mapE ((comp RU 60).s g_l_cell_at) (defBody s_l_cell_at) = some b_l_cell_at := by kernel_rfl
def gs11 : List (Str × GM) := ("_law_cell_at", GM.fn l_cell_at) :: gs10
def s_l_mixed := st 18
def g_l_mixed : Cn := cn cls fld gs11 ["_law_cell", "_law_k", "_law_number"] [] [] []
theorem k_l_mixed : mapE ((comp RU 60).s g_l_mixed) (defBody s_l_mixed) = some b_l_mixed := by kernel_rfl
def gs12 : List (Str × GM) := ("_law_mixed", GM.fn l_mixed) :: gs11
def s_l_digits := st 19
def g_l_digits : Cn := cn cls fld gs12 ["_law_cell"] [] [] ["return"]
theorem k_l_digits : mapE ((comp RU 60).s g_l_digits) (defBody s_l_digits) = some b_l_digits := by kernel_rfl
def gs13 : List (Str × GM) := ("_law_digits", GM.fn l_digits) :: gs12
def s_l_next_2 := st 20
def g_l_next_2 : Cn := cn cls fld gs13 ["_law_source", "_law_many", "_law_found"] ["_law_mixed"] [] []
theorem k_l_next_2 : mapE ((comp RU 60).s g_l_next_2) (defBody s_l_next_2) = some b_l_next_2 := by kernel_rfl
def gs14 : List (Str × GM) := ("_law_next", GM.fn l_next_2) :: gs13
def s_l_shape_2 := st 21
def g_l_shape_2 : Cn := cn cls fld gs14 ["_law_source", "_law_moments"] ["_law_next"] [] []
theorem k_l_shape_2 : mapE ((comp RU 60).s g_l_shape_2) (defBody s_l_shape_2) = some b_l_shape_2 := by kernel_rfl
def gs15 : List (Str × GM) := ("_law_shape", GM.fn l_shape_2) :: gs14
def s_law_k53 := st 22
def g_law_k53 : Cn := cn cls fld gs15 ["_law_script", "_law_source", "_law_shape_here", "_law_made", "_law_size", "_law_near", "_law_book", "_law_k", "_law_cell", "_law_name", "_law_found", "_law_row", "_law_j", "_law_moments", "_law_handed", "_law_told"] ["_law_digits", "_law_cell_at", "_law_shape", "Shape", "_law_next", "enumerate", "min", "range", "list", "back_by", "isinstance", "tuple", "max"] ["_law_shape_here"] ["_law_book", "_law_found"]
theorem k_law_k53 : mapE ((comp RU 60).s g_law_k53) (defBody s_law_k53) = some b_law_k53 := by kernel_rfl
end NH.K53
end
section
set_option linter.all false
set_option maxRecDepth 100000
set_option maxHeartbeats 4000000
namespace NH
open PySem PySem.Spec PyProof.Rows L2 PySem.W
def DefP (K : Frag) (x : Str) (st : Stmt) : Prop := ∃ f fd, nsIn K mainGlobals x = some (some (.ref f)) ∧ Fun K x x st f fd
def ClsP (K : Frag) (C : Addr) (x q : Str) (st : Stmt) : Prop := ∃ f fd, nsIn K mainGlobals x = some (some (.ref C)) ∧ findIn K (.ref C) "__init__" = some (some (.ref f)) ∧ isFn K (.ref f) = true ∧ Fun K "__init__" q st f fd ∧ makesIn K C = true ∧ keepIn K (.ref C) = true
theorem dfp {K : Frag} {x : Str} {st : Stmt} {f : Addr} {oc : Value} {od an : Option Addr} {osl : Array (Option Value)} {kV doc pm cdv ct : Value} (a : nsIn K mainGlobals x = some (some (.ref f))) (l : K.lookup f = some ⟨oc, od, .func (fnOf x x (defArgs st) (defBody st) (defScope st) .none kV doc pm an cdv ct), osl⟩) (c : codeIn K cdv x = true) (k : keepIn K (.ref f) = true) : DefP K x st := ⟨f, _, a, fun_mk l c k⟩
theorem clp {K : Frag} {x q : Str} {st : Stmt} {f C : Addr} {oc : Value} {od an : Option Addr} {osl : Array (Option Value)} {kV doc pm cdv ct : Value} (a : nsIn K mainGlobals x = some (some (.ref C))) (i : findIn K (.ref C) "__init__" = some (some (.ref f))) (j : isFn K (.ref f) = true) (l : K.lookup f = some ⟨oc, od, .func (fnOf "__init__" q (defArgs st) (defBody st) (defScope st) .none kV doc pm an cdv ct), osl⟩) (c : codeIn K cdv q = true) (k : keepIn K (.ref f) = true) (m : makesIn K C = true) (kk : keepIn K (.ref C) = true) : ClsP K C x q st := ⟨f, _, a, i, j, fun_mk l c k, m, kk⟩
def PL : Nat → (List Value → Prop) → Prop
  | 0, P => P []
  | n + 1, P => ∀ a, PL n fun l => P (a :: l)
theorem PL.all : ∀ {n : Nat} {P : List Value → Prop}, PL n P → ∀ us : List Value, us.length = n → P us
  | 0, _, h, [], _ => h
  | _ + 1, _, h, a :: l, e => PL.all (h a) l (Nat.succ.inj e)
abbrev BdP (x q : Str) (st : Stmt) (ps : List Str) : Prop := ∀ (kV doc pm : Value) (an : Option Addr) (cdv ct : Value), PL ps.length fun us => bindArgs (fnOf x q (defArgs st) (defBody st) (defScope st) .none kV doc pm an cdv ct) ⟨us, []⟩ = pure (ps.zip us)
structure Pk (R : Rules) (K : Frag) (mg : Str → Option Value) (base : Heap) (A : Ads) (cls fld : List (Str × Nat)) : Prop where
  r : ∀ {D}, RulesOk D R
  i : K.In base
  n : base.Ns mainGlobals mg
  c : chk K A cls fld = true
section
variable {R : Rules} {P : Program} {w : World} {K : Frag} {mg : Str → Option Value} {base : Heap} {A : Ads} {cls fld : List (Str × Nat)} {clo : Nat → Addr → Option HO → List V → Prop} {gs : List (Str × GM)} {tabs : Nat → Option (Addr × List Pos × Str)} {k : Nat} {x qu : Str} {st : Stmt} {f C : Addr} {fd : FuncData} {ps N G cel own : List Str} {m n : Nat} {ds : List Ds}
theorem Pk.ok (Z : Pk R K mg base A cls fld) (F : Fun K x qu st f fd) (q : GsOk P w K mg base A clo k gs tabs) (hds : mapE ((comp R n).s (cn cls fld gs N G cel own none)) (defBody st) = some ds) (hs : scOk (cn cls fld gs N G cel own none) ps (defScope st) = true) (hm : N.length = ps.length + m) :
    FnOk P w K mg base (CX1 P w) (k + 1) f fd ps (spN (mkD K A clo tabs) ps.length (fnW ps.length m ds)) := by
  obtain ⟨oc, od, kV, doc, pm, an, cdv, ct, osl, rfl, lk, hcd⟩ := F.ex
  exact fn_rule Z.r (md_of Z.i Z.n Z.c q) lk hcd hs hm hds
theorem Pk.fn (Z : Pk R K mg base A cls fld) (p : DefP K x st) (q : GsOk P w K mg base A clo k gs tabs) (hds : mapE ((comp R n).s (cn cls fld gs N G cel own none)) (defBody st) = some ds) (hs : scOk (cn cls fld gs N G cel own none) ps (defScope st) = true) (hm : N.length = ps.length + m) (hb : BdP x x st ps) (hx : (x == ("__debug__" : Str)) = false) :
    GsOk P w K mg base A clo (k + 1) ((x, GM.fn (fnW ps.length m ds)) :: gs) tabs := by
  obtain ⟨f, fd, a, F⟩ := p
  exact GsOk.add (q.mono (Nat.le_succ k)) ⟨f, mg_of Z.i Z.n a, fd, ps, k + 1, F.kp, F.binds fun kV dc pm an cd ct => (hb kV dc pm an cd ct).all, Nat.le_refl _, Z.ok F q hds hs hm, fnW_len⟩ hx
theorem Pk.cl {c : Nat} {b : Bool} (Z : Pk R K mg base A cls fld) (p : ClsP K C x qu st) (q : GsOk P w K mg base A clo k gs tabs) (hds : mapE ((comp R n).s (cn cls fld gs N G cel own none)) (defBody st) = some ds) (hc : A.cs.lookup c = some C) (hs : scOk (cn cls fld gs N G cel own none) ps (defScope st) = true) (hm : N.length = ps.length + m) (hb : BdP "__init__" qu st ps) (hx : (x == ("__debug__" : Str)) = false) :
    GsOk P w K mg base A clo (k + 2) ((x, GM.mk c b (fnW ps.length m ds)) :: gs) tabs := by
  obtain ⟨f, fd, a, i, j, F, mk, kk⟩ := p
  exact GsOk.add (q.mono (Nat.le_add_right k 2)) ⟨C, f, fd, ps, k + 1, hc, mg_of Z.i Z.n a, ⟨mk, i, j, kk⟩, F.binds fun kV dc pm an cd ct => (hb kV dc pm an cd ct).all, Nat.le_refl _, Z.ok F q hds hs hm, fnW_len⟩ hx
end
end NH
end
section
set_option linter.all false
set_option maxRecDepth 100000
set_option maxHeartbeats 4000000
namespace NH
open PySem PySem.Spec PyProof.Rows L2
theorem br_dec {p : Prop} {i : Decidable p} {A B : Prop} (h1 : p → A) (h2 : ¬ p → B) : brW (decide p) A B := by
  cases i with
  | isTrue h => exact h1 h
  | isFalse h => exact h2 h
theorem br_pos {p : Prop} {i : Decidable p} {A B : Prop} (h : p) (a : A) : brW (decide p) A B := br_dec (fun _ => a) fun n => absurd h n
theorem brn_dec {p : Prop} {i : Decidable p} {A B : Prop} (h1 : p → B) (h2 : ¬ p → A) : brW (!decide p) A B := by
  cases i with
  | isTrue h => exact h1 h
  | isFalse h => exact h2 h
theorem brn_pos {p : Prop} {i : Decidable p} {A B : Prop} (h : p) (b : B) : brW (!decide p) A B := brn_dec (fun _ => b) fun n => absurd h n
theorem br_cases {b : Bool} {A B : Prop} (h1 : b = true → A) (h2 : b = false → B) : brW b A B := by
  cases b with
  | true => exact h1 rfl
  | false => exact h2 rfl
theorem br_f {b : Bool} {A B : Prop} (h : b = false) (a : B) : brW b A B := by rw [h]; exact a
theorem forM_inv {tg : Tg} {body : Ds} {lv : Mem → Prop} {xs : List T} {τ : Sl} {μ : Mem} {E : En} (I : Nat → Sl → Mem → Prop) (h0 : I 0 τ μ)
    (h : ∀ i x τ μ, xs[i]? = some x → I i τ μ → ∀ N : Sl → Mem → Prop, (∀ τ μ, I (i + 1) τ μ → N τ μ) → ∃ τ', asg tg x τ = some τ' ∧ body τ' μ (E.turn N))
    (k : ∀ τ μ, I xs.length τ μ → E.nx τ μ) (hl : ∀ i τ μ, I i τ μ → lv μ := by intros; trivial) : forM tg body lv xs τ μ E := by
  have go : ∀ (rest : List T) (i : Nat) (τ : Sl) (μ : Mem), xs.drop i = rest → i ≤ xs.length → I i τ μ → forM tg body lv rest τ μ E := by
    intro rest
    induction rest with
    | nil =>
      intro i τ μ hd hi hI
      have : i = xs.length := by
        have := congrArg List.length hd
        simp at this; omega
      subst this
      exact k τ μ hI
    | cons x r ih =>
      intro i τ μ hd hi hI
      have hx : xs[i]? = some x := by
        have : (xs.drop i)[0]? = some x := by rw [hd]; rfl
        simpa using this
      have hlt : i < xs.length := (List.getElem?_eq_some_iff.mp hx).1
      have hd' : xs.drop (i + 1) = r := by
        have : (xs.drop i).tail = r := by rw [hd]; rfl
        simpa using this
      exact h i x τ μ hx hI _ fun τ2 μ2 z => ⟨hl _ _ _ z, ih (i + 1) τ2 μ2 hd' hlt z⟩
  exact go xs 0 τ μ rfl (Nat.zero_le _) h0
end NH
end
section
set_option linter.all false
set_option maxRecDepth 100000
set_option maxHeartbeats 400000
namespace NH.P
open PySem L2 NH
variable {μ : Mem} {K : T → Mem → Prop} {Z : Xp}
theorem is_whole_int {i : Int} (k : K (.bl true) μ) : is_whole [.int i] μ K Z := ⟨rfl, k⟩
theorem rangeT_get {n : Int} {i : Nat} {x : T} (h : (rangeT n)[i]? = some x) : x = .int i ∧ (i : Int) < n := by
  unfold rangeT at h
  rw [List.getElem?_map] at h
  cases q : (List.range n.toNat)[i]? with
  | none => rw [q] at h; cases h
  | some j =>
    rw [q] at h
    obtain ⟨hl, e⟩ := List.getElem?_eq_some_iff.mp q
    have e : i = j := by simpa using e
    subst e
    cases h
    simp at hl
    exact ⟨rfl, by omega⟩
theorem rangeT_len {n : Int} : (rangeT n).length = n.toNat := by simp [rangeT]
theorem bools_map {α : Type} (f : α → Bool) : ∀ xs : List α, bools (xs.map fun x => T.bl (f x)) = some (xs.map f)
  | [] => rfl
  | x :: r => by simp [bools, bools_map f r]
theorem ixAt_pos {α : Type} {xs : List α} {k : Int} (h0 : 0 ≤ k) (h1 : k < xs.length) : ixAt xs k = xs[k.toNat]? := by
  unfold ixAt ixNo
  rw [if_pos h0, if_pos h1]
  rfl
end NH.P
namespace NH.K06
open PySem L2 NH NH.P
end NH.K06
end
section
set_option linter.all false
set_option maxRecDepth 100000
set_option maxHeartbeats 400000
namespace NH.P
open PySem L2 NH
variable {μ μ1 μ2 : Mem} {K : T → Mem → Prop} {Z : Xp}
def St (μ : Mem) (i : Nat) : Prop := ∃ a b c : Int, μ[i]? = some (.lst [.int a, .int b, .int c])
structure Up (μ : Mem) (i : Nat) (μ' : Mem) : Prop where
  len : μ'.length = μ.length
  ot : ∀ j, j ≠ i → μ'[j]? = μ[j]?
  st : St μ' i
theorem Up.trans {i : Nat} (a : Up μ i μ1) (b : Up μ1 i μ2) : Up μ i μ2 := ⟨b.len.trans a.len, fun j h => (b.ot j h).trans (a.ot j h), b.st⟩
theorem get_set {i : Nat} {x y : MO} (h : μ[i]? = some x) : (μ.set i y)[i]? = some y := by
  have := (List.getElem?_eq_some_iff.mp h).1
  simp [this]
theorem Up.set {i : Nat} {x : MO} {a b c : Int} (h : μ[i]? = some x) : Up μ i (μ.set i (.lst [.int a, .int b, .int c])) := ⟨by simp, fun j hj => by rw [List.getElem?_set_ne (Ne.symm hj)], a, b, c, get_set h⟩
theorem get_last {x : MO} : (μ ++ [x])[μ.length]? = some x := by rw [List.getElem?_append_right (Nat.le_refl _)]; simp
theorem get_app {i : Nat} {x o : MO} (h : μ[i]? = some o) : (μ ++ [x])[i]? = some o := by
  rw [List.getElem?_append_left (List.getElem?_eq_some_iff.mp h).1]; exact h
abbrev shp (x y z : Int) : T := .obj 40 [(0, .int x), (1, .int y), (2, .int z)]
theorem is_size_int {n : Int} (k : K (.bl (decide (1 ≤ n))) μ) : is_size [.int n] μ K Z := by
  unfold is_size
  refine ⟨rfl, ?_⟩
  refine is_whole_int ?_
  exact k
theorem Shape_init_sp {x y z : Int} (hx : 1 ≤ x) (hy : 1 ≤ y) (hz : 1 ≤ z) (q : K .non [.obj 40 [(0, .int x), (1, .int y), (2, .int z)]]) : Shape_init [.mut 0, .int x, .int y, .int z] [.obj 40 []] K Z := by
  unfold Shape_init
  refine ⟨rfl, ?_⟩
  refine is_size_int ?_
  refine br_pos hx ?_
  refine is_size_int ?_
  refine br_pos hy ?_
  refine is_size_int ?_
  refine brn_pos hz ?_
  refine ⟨_, _, rfl, by decide, ?_⟩
  refine ⟨_, _, rfl, (by (show (1 : Nat) < 900); decide), ?_⟩
  refine ⟨_, _, rfl, (by (show (2 : Nat) < 900); decide), ?_⟩
  exact q
end NH.P
end
section
set_option linter.all false
set_option maxRecDepth 100000
set_option maxHeartbeats 400000
namespace NH.P
open PySem L2 NH
variable {μ μ1 μ2 : Mem} {K : T → Mem → Prop} {Z : Xp}
theorem l_cell_at_sp {ns : List Int} {k : Int} (hk : 0 ≤ k) (q : ∀ c, K (.int c) μ) : l_cell_at [.lst (ns.map T.int), .int k] μ K Z := by
  unfold l_cell_at
  refine ⟨rfl, ?_⟩
  refine br_dec (fun h => ?_) (fun h => ?_)
  · have hl : k.toNat < ns.length := by
      rw [List.length_map] at h; omega
    refine ⟨.int ns[k.toNat], ?_, q _⟩
    rw [ixAt_pos hk h, List.getElem?_map, List.getElem?_eq_getElem hl]
    rfl
  · exact q _
end NH.P
namespace NH.K12
open PySem L2 NH NH.P
end NH.K12
end
section
set_option linter.all false
set_option maxRecDepth 100000
set_option maxHeartbeats 400000
namespace NH.P
open PySem L2 NH
variable {μ μ1 μ2 : Mem} {K : T → Mem → Prop} {Z : Xp}
theorem compO_cons {tg : Tg} {g : Sl → Mem → RE (Option T)} {lv : Mem → Prop} {τ : Sl} {x : T} {r : List T} {K : List T → Mem → Prop} (h : ∃ τ', asg tg x τ = some τ' ∧ g τ' μ (fun o μ1 => lv μ1 ∧ (match o with
    | some y => compO tg g lv τ r μ1 (fun ys μ2 => K (y :: ys) μ2) Z
    | none => compO tg g lv τ r μ1 K Z)) Z) : compO tg g lv τ (x :: r) μ K Z := by
  obtain ⟨τ', e, h⟩ := h
  unfold compO
  refine ⟨τ', e, ?_⟩
  have : (fun (o : Option T) μ1 => lv μ1 ∧ (match o with
    | some y => compO tg g lv τ r μ1 (fun ys μ2 => K (y :: ys) μ2) Z
    | none => compO tg g lv τ r μ1 K Z)) = fun o μ1 => lv μ1 ∧ (match o with
      | some y => (compO tg g lv τ r μ1).bind fun ys μ2 => RE.ok (y :: ys) μ2
      | none => compO tg g lv τ r μ1) K Z := by
    funext o μ1
    cases o <;> rfl
  rw [this] at h
  exact h
theorem compO_nil {tg : Tg} {g : Sl → Mem → RE (Option T)} {lv : Mem → Prop} {τ : Sl} {K : List T → Mem → Prop} (h : K [] μ) : compO tg g lv τ [] μ K Z := by
  unfold compO
  exact h
structure Sy (y z : Int) : Prop where
  y1 : 1 ≤ y
  y2 : y ≤ 10000000000
  z1 : 1 ≤ z
  z2 : z ≤ 10000000000
theorem names_in_sy {x y z : Int} (s : Sy y z) (q : K (.int (x * y * z)) μ) : names_in [shp x y z] μ K Z := by
  obtain ⟨y1, y2, z1, z2⟩ := s
  unfold names_in
  refine ⟨rfl, ?_⟩
  exact ⟨.inr ⟨by unfold big; omega, by unfold big; omega⟩, .inr ⟨by unfold big; omega, by unfold big; omega⟩, q⟩
theorem is_name_int {x y z n : Int} {b : Bool} (s : Sy y z) (hb : (decide (0 ≤ n) && decide (n < x * y * z)) = b) (q : K (.bl b) μ) : is_name [shp x y z, .int n] μ K Z := by
  subst hb
  unfold is_name
  refine ⟨rfl, ?_⟩
  refine names_in_sy s ?_
  unfold is_below
  refine ⟨rfl, ?_⟩
  refine is_whole_int ?_
  refine br_dec (fun h => ?_) (fun h => ?_)
  · have q : K (.bl (decide (n < x * y * z))) μ := by simpa [h] using q
    exact q
  · have q : K (.bl false) μ := by simpa [h] using q
    exact q
theorem check_name_ok {x y z n : Int} (s : Sy y z) (h : (decide (0 ≤ n) && decide (n < x * y * z)) = true) (q : K .non μ) : check_name [shp x y z, .int n] μ K Z := by
  unfold check_name
  refine ⟨rfl, ?_⟩
  refine is_name_int s h ?_
  exact q
end NH.P
namespace NH.K76
open PySem L2 NH NH.P
end NH.K76
end
section
set_option linter.all false
set_option maxRecDepth 100000
set_option maxHeartbeats 400000
namespace NH.P
open PySem L2 NH
variable {μ μ1 μ2 : Mem} {K : T → Mem → Prop} {Z : Xp}
structure Ch (S : List Nat) (μ μ' : Mem) : Prop where
  len : μ.length ≤ μ'.length
  ot : ∀ i, i < μ.length → i ∉ S → μ'[i]? = μ[i]?
theorem Ch.trans {S : List Nat} (a : Ch S μ μ1) (b : Ch S μ1 μ2) : Ch S μ μ2 := ⟨Nat.le_trans a.len b.len, fun i h n => (b.ot i (Nat.lt_of_lt_of_le h a.len) n).trans (a.ot i h n)⟩
theorem Ch.app {x : MO} : Ch [] μ (μ ++ [x]) := ⟨by simp, fun i h _ => List.getElem?_append_left h⟩
theorem Ch.set {i : Nat} {x : MO} : Ch [i] μ (μ.set i x) := ⟨by simp, fun j h n => by rw [List.getElem?_set_ne]; rintro rfl; exact n (by simp)⟩
theorem Ch.get {S : List Nat} {i : Nat} {x : MO} (a : Ch S μ μ1) (h : μ[i]? = some x) (n : i ∉ S) : μ1[i]? = some x := (a.ot i (List.getElem?_eq_some_iff.mp h).1 n).trans h
theorem compO_sel {β : Type} {tg : Tg} {g : Sl → Mem → RE (Option T)} {lv : Mem → Prop} {τ : Sl} (t : β → T) (f : β → Option T) {ps : List β} {K : List T → Mem → Prop}
    (h : ∀ p ∈ ps, ∀ k : Option T → Mem → Prop, k (f p) μ → ∃ τ', asg tg (t p) τ = some τ' ∧ g τ' μ k Z) (k : K (ps.filterMap f) μ) (hl : lv μ := by trivial) : compO tg g lv τ (ps.map t) μ K Z := by
  induction ps generalizing K with
  | nil => exact compO_nil k
  | cons x r ih =>
    refine compO_cons ?_
    refine h x List.mem_cons_self _ ⟨hl, ?_⟩
    cases q : f x with
    | none =>
      rw [List.filterMap_cons_none q] at k
      exact ih (fun y hy => h y (List.mem_cons_of_mem _ hy)) k
    | some y =>
      rw [List.filterMap_cons_some q] at k
      exact ih (K := fun ys μ2 => K (y :: ys) μ2) (fun y hy => h y (List.mem_cons_of_mem _ hy)) k
end NH.P
end
section
set_option linter.all false
set_option maxRecDepth 100000
set_option maxHeartbeats 400000
namespace NH.P
open PySem L2 NH
variable {μ μ1 μ2 : Mem} {K : T → Mem → Prop} {Z : Xp}
end NH.P
end
section
set_option linter.all false
set_option maxRecDepth 100000
set_option maxHeartbeats 400000
namespace NH.P
open PySem L2 NH
variable {μ μ1 μ2 : Mem} {K : T → Mem → Prop} {Z : Xp} {c g i0 : Nat} {x y z : Int} {ps : List Gp}
end NH.P
end
section
set_option linter.all false
set_option maxRecDepth 100000
set_option maxHeartbeats 400000
namespace NH.P
open PySem L2 NH
variable {μ μ1 μ2 : Mem} {K : T → Mem → Prop} {Z : Xp} {c g i0 : Nat} {x y z : Int} {ps : List Gp}
end NH.P
end
section
set_option linter.all false
set_option maxRecDepth 100000
set_option maxHeartbeats 1000000
namespace NH.P
open PySem L2 NH
variable {μ μ1 μ2 : Mem} {K : T → Mem → Prop} {Z : Xp} {c g r i0 : Nat} {x y z : Int} {ps : List Gp}
end NH.P
end
section
set_option linter.all false
set_option maxRecDepth 100000
set_option maxHeartbeats 1000000
namespace NH.P
open PySem L2 NH
variable {μ μ1 μ2 : Mem} {K : T → Mem → Prop} {Z : Xp} {c g r i0 : Nat} {x y z : Int} {ps : List Gp}
end NH.P
end
section
set_option linter.all false
set_option maxRecDepth 100000
set_option maxHeartbeats 1000000
namespace NH.P
open PySem L2 NH
variable {μ μ1 μ2 : Mem} {K : T → Mem → Prop} {Z : Xp} {c g r i0 : Nat} {x y z : Int} {ps : List Gp}
end NH.P
end
section
set_option linter.all false
set_option maxRecDepth 100000
set_option maxHeartbeats 1000000
namespace NH.P
open PySem L2 NH
variable {μ μ1 μ2 : Mem} {K : T → Mem → Prop} {Z : Xp} {c g r i0 : Nat} {x y z : Int} {ps : List Gp}
end NH.P
namespace NH.K24
open PySem L2 NH NH.P
end NH.K24
end
section
set_option linter.all false
set_option maxRecDepth 100000
set_option maxHeartbeats 400000
namespace NH.P
open PySem L2 NH
variable {μ μ1 μ2 : Mem} {K : T → Mem → Prop} {Z : Xp} {x y z : Int} {i : Nat} {sh kp bt : T} {ah sd : Int}
variable {l l' : Option Ls} {m m' n : Option Int}
structure Hz (x y z : Int) : Prop where
  x1 : 1 ≤ x
  y1 : 1 ≤ y
  y2 : y ≤ 1000000
  z1 : 1 ≤ z
  z2 : z ≤ 1000000
theorem Hz.sy (s : Hz x y z) : Sy y z := ⟨s.y1, by have := s.y2; omega, s.z1, by have := s.z2; omega⟩
theorem parts_of_in {k : Int} (s : Hz x y z) (h0 : 0 ≤ k) (h1 : k < x * y * z) (q : K (.tup [.int (k / z / y), .int (k / z % y), .int (k % z)]) μ) : parts_of [shp x y z, .int k] μ K Z := by
  obtain ⟨x1, y1, y2, z1, z2⟩ := id s
  unfold parts_of
  refine ⟨rfl, ?_⟩
  refine check_name_ok s.sy (by rw [decide_eq_true h0, decide_eq_true h1]; rfl) ?_
  refine ⟨by omega, ⟨by omega, by omega⟩, ⟨by omega, by omega⟩, by omega, ?_⟩
  exact q
end NH.P
end
section
set_option linter.all false
set_option maxRecDepth 100000
set_option maxHeartbeats 400000
namespace NH.P
open PySem L2 NH
variable {μ μ1 μ2 : Mem} {K : T → Mem → Prop} {Z : Xp} {x y z : Int} {i : Nat} {sh kp bt : T} {ah sd : Int} {l l' : Option Ls} {m m' n : Option Int}
theorem digits_sp {c : Int} (q : ∀ a b, K (.mut μ.length) (μ ++ [.lst [.int a, .int b, .int 0]])) : l_digits [.int c] μ K Z := by
  unfold l_digits
  refine ⟨rfl, ?_⟩
  refine ⟨by decide, ?_⟩
  refine ⟨by decide, ?_⟩
  have m0 := Int.emod_nonneg c (show (2 : Int) ≠ 0 by decide)
  have m1 := Int.emod_lt_of_pos c (show (0 : Int) < 2 by decide)
  refine ⟨.inr ⟨by unfold big; omega, by unfold big; omega⟩, ?_⟩
  exact q _ _
theorem mixed_sp {c k : Int} (q : ∀ v : Int, K (.int v) μ) : l_mixed [.int c, .int k] μ K Z := by
  unfold l_mixed
  refine ⟨rfl, ?_⟩
  refine ⟨by decide, ?_⟩
  refine ⟨.inl (by unfold big; decide), ?_⟩
  refine ⟨.inr (by unfold big; decide), ?_⟩
  refine ⟨by decide, ?_⟩
  refine ⟨by decide, ?_⟩
  have b1 : ∀ a : Int, 0 ≤ a % 2147483629 ∧ a % 2147483629 < 2147483629 := fun a => ⟨Int.emod_nonneg _ (by decide), Int.emod_lt_of_pos _ (by decide)⟩
  have bb := fun a => b1 a
  refine ⟨.inl ⟨by have := (b1 ((c % 2147483629 + 69621 * k + 1) * 48271)); unfold big; omega, by have := (b1 ((c % 2147483629 + 69621 * k + 1) * 48271)); unfold big; omega⟩, ?_⟩
  refine ⟨by decide, ?_⟩
  refine ⟨by decide, ?_⟩
  refine ⟨.inl ⟨by have := b1 ((c % 2147483629 + 69621 * k + 1) * 48271 % 2147483629 * ((c % 2147483629 + 69621 * k + 1) * 48271 % 2147483629 / 1009 + 69621)); unfold big; omega, by have := b1 ((c % 2147483629 + 69621 * k + 1) * 48271 % 2147483629 * ((c % 2147483629 + 69621 * k + 1) * 48271 % 2147483629 / 1009 + 69621)); unfold big; omega⟩, ?_⟩
  refine ⟨by decide, ?_⟩
  refine ⟨by decide, ?_⟩
  generalize hA : (c % 2147483629 + 69621 * k + 1) * 48271 % 2147483629 * ((c % 2147483629 + 69621 * k + 1) * 48271 % 2147483629 / 1009 + 69621) % 2147483629 * ((c % 2147483629 + 69621 * k + 1) * 48271 % 2147483629 * ((c % 2147483629 + 69621 * k + 1) * 48271 % 2147483629 / 1009 + 69621) % 2147483629 / 907 + 16807 + k) = A
  refine ⟨.inl ⟨by have := b1 A; unfold big; omega, by have := b1 A; unfold big; omega⟩, ?_⟩
  refine ⟨by decide, ?_⟩
  exact q _
theorem next_sp {i : Nat} {base : Int} (hs : St μ i) (h0 : 0 < base) (h1 : base < 1000000000000000000000000000000000000000000000000000000000000) (q : ∀ v μ', 0 ≤ v → v < base → Up μ i μ' → K (.int v) μ') : l_next_2 [.mut i, .int base] μ K Z := by
  obtain ⟨a, b, c, h⟩ := hs
  have mn : ∀ x : Int, 0 ≤ x % base ∧ x % base < base := fun x => ⟨Int.emod_nonneg _ (by omega), Int.emod_lt_of_pos _ h0⟩
  unfold l_next_2
  refine ⟨rfl, ?_⟩
  refine ⟨_, _, h, rfl, ?_⟩
  refine br_dec (fun h2 => ?_) (fun h2 => ?_)
  · refine ⟨_, _, h, rfl, h0, ?_⟩
    refine ⟨_, _, h, rfl, ⟨h0, by omega⟩, ?_⟩
    refine ⟨_, h, by simp, ?_⟩
    exact q _ _ (mn _).1 (mn _).2 (Up.set h)
  · refine ⟨_, _, h, rfl, ?_⟩
    refine ⟨_, h, by simp, ?_⟩
    refine ⟨_, _, get_set h, rfl, ?_⟩
    refine ⟨_, _, get_set h, rfl, ?_⟩
    refine mixed_sp fun v => ?_
    refine ⟨h0, ?_⟩
    exact q _ _ (mn _).1 (mn _).2 (Up.set h)
end NH.P
end
section
set_option linter.all false
set_option maxRecDepth 100000
set_option maxHeartbeats 400000
namespace NH.P
open PySem L2 NH
variable {μ μ1 μ2 : Mem} {K : T → Mem → Prop} {Z : Xp} {x y z : Int} {i : Nat} {sh kp bt : T} {ah sd : Int} {l l' : Option Ls} {m m' n : Option Int}
variable {a : Ls} {r k : Int} {c : Nat}
end NH.P
end
section
set_option linter.all false
set_option maxRecDepth 100000
set_option maxHeartbeats 400000
namespace NH.P
open PySem L2 NH
variable {μ μ1 μ2 : Mem} {K : T → Mem → Prop} {Z : Xp} {x y z : Int} {i : Nat} {sh kp bt : T} {ah sd : Int} {l l' : Option Ls} {m m' n : Option Int} {a : Ls} {r k : Int} {c : Nat}
abbrev shT (x y z : Int) : T := .tup [.int x, .int y, .int z]
end NH.P
end
section
set_option linter.all false
set_option maxRecDepth 100000
set_option maxHeartbeats 400000
namespace NH.P
open PySem L2 NH
variable {μ μ1 μ2 : Mem} {K : T → Mem → Prop} {Z : Xp} {x y z : Int} {i : Nat} {sh kp bt : T} {ah sd : Int} {l l' : Option Ls} {m m' n : Option Int} {a : Ls} {r k : Int} {c : Nat}
end NH.P
end
section
set_option linter.all false
set_option maxRecDepth 100000
set_option maxHeartbeats 400000
namespace NH.P
open PySem L2 NH
variable {μ μ1 μ2 : Mem} {K : T → Mem → Prop} {Z : Xp} {x y z h : Int} {i : Nat} {sh kp bt : T} {ah sd : Int} {l l' : Option Ls} {m m' n : Option Int} {a : Ls} {r k : Int} {c : Nat}
end NH.P
end
section
set_option linter.all false
set_option maxRecDepth 100000
set_option maxHeartbeats 400000
namespace NH.P
open PySem L2 NH
variable {μ μ1 μ2 : Mem} {K : T → Mem → Prop} {Z : Xp} {x y z h : Int} {i : Nat} {sh kp bt : T} {ah sd : Int} {l l' : Option Ls} {m m' n : Option Int} {a : Ls} {r k : Int} {c : Nat}
end NH.P
end
section
set_option linter.all false
set_option maxRecDepth 100000
set_option maxHeartbeats 400000
namespace NH.P
open PySem L2 NH
variable {μ μ1 μ2 : Mem} {K : T → Mem → Prop} {Z : Xp} {x y z h : Int} {i bi : Nat} {sh kp bt : T} {ah sd : Int} {l l' : Option Ls} {m m' n : Option Int} {a : Ls} {r k : Int} {c : Nat}
end NH.P
end
section
set_option linter.all false
set_option maxRecDepth 100000
set_option maxHeartbeats 400000
namespace NH.P
open PySem L2 NH
variable {μ μ1 μ2 : Mem} {K : T → Mem → Prop} {Z : Xp} {x y z h u : Int} {i bi : Nat} {sh kp bt : T} {ah sd : Int} {l l' : Option Ls} {m m' n : Option Int} {a : Ls} {r k : Int} {c : Nat}
variable {t : Int} {ks : List Int} {j : Nat} {bs : List Bt}
end NH.P
end
section
set_option linter.all false
set_option maxRecDepth 100000
set_option maxHeartbeats 400000
namespace NH.P
open PySem L2 NH
variable {μ μ1 μ2 : Mem} {K : T → Mem → Prop} {Z : Xp} {x y z : Int} {i : Nat} {sh kp bt : T} {ah sd : Int} {l l' : Option Ls} {m m' n : Option Int} {a : Ls} {r k h : Int} {c : Nat}
end NH.P
end
section
set_option linter.all false
set_option maxRecDepth 100000
set_option maxHeartbeats 400000
namespace NH.P
open PySem L2 NH
variable {μ μ1 μ2 : Mem} {K : T → Mem → Prop} {Z : Xp} {x y z : Int} {i : Nat} {sh kp bt : T} {ah sd : Int} {l l' : Option Ls} {m m' n : Option Int} {a : Ls} {r k h : Int} {c : Nat}
theorem Ch.geS {S S' : List Nat} (a : Ch S μ μ1) (b : Ch S' μ1 μ2) (h : ∀ j ∈ S', μ.length ≤ j) : Ch S μ μ2 :=
  ⟨Nat.le_trans a.len b.len, fun j hj hs => (b.ot j (Nat.lt_of_lt_of_le hj a.len) fun w => absurd (h j w) (by omega)).trans (a.ot j hj hs)⟩
end NH.P
end
section
set_option linter.all false
set_option maxRecDepth 100000
set_option maxHeartbeats 400000
namespace NH.P
open PySem L2 NH
variable {μ μ1 μ2 : Mem} {K : T → Mem → Prop} {Z : Xp} {x y z : Int} {i : Nat} {sh kp bt : T} {ah sd : Int} {l l' : Option Ls} {m m' n : Option Int} {a : Ls} {r k h : Int} {c : Nat} {t0 : T} {o1 o8 o9 o10 o12 o13 : Option T}
theorem pow9 : (10 : Int) ^ Int.toNat 9 = 1000000000 := by decide
theorem pow20 : (10 : Int) ^ Int.toNat 20 = 100000000000000000000 := by decide
theorem shape_sp (hs : St μ i) (q : ∀ x y z μ', 1 ≤ x → x ≤ 100000000000000000000 → 1 ≤ y → y ≤ 5 → 1 ≤ z → z ≤ 900 → Up μ i μ' → K (shT x y z) μ') : l_shape_2 [.mut i] μ K Z := by
  unfold l_shape_2
  refine ⟨rfl, ?_⟩
  refine next_sp hs (by decide) (by decide) fun v1 μ1 v10 v11 u1 => ?_
  refine ⟨by decide, ?_⟩
  refine next_sp u1.st (by rw [pow9]; decide) (by rw [pow9]; decide) fun v2 μ2 v20 v21 u2 => ?_
  rw [pow9] at v21
  refine ⟨.inr (by unfold big; decide), ?_⟩
  refine ⟨by decide, ?_⟩
  refine next_sp u2.st (by decide) (by decide) fun v3 μ3 v30 v31 u3 => ?_
  have ix : ∃ d : Int, 1 ≤ d ∧ d ≤ 100000000000000000000 ∧ ixAt [T.int (1 + v1), T.int (1 + v2 * 1000), T.int ((10 : Int) ^ Int.toNat 20)] v3 = some (T.int d) := by
    have : v3 = 0 ∨ v3 = 1 ∨ v3 = 2 := by omega
    rcases this with rfl | rfl | rfl
    · exact ⟨1 + v1, by omega, by omega, rfl⟩
    · exact ⟨1 + v2 * 1000, by omega, by omega, rfl⟩
    · exact ⟨(10 : Int) ^ Int.toNat 20, by rw [pow20]; decide, by rw [pow20]; decide, rfl⟩
  obtain ⟨x, x1, x2, hix⟩ := ix
  refine ⟨_, hix, ?_⟩
  refine next_sp u3.st (by decide) (by decide) fun v4 μ4 v40 v41 u4 => ?_
  refine next_sp u4.st (by decide) (by decide) fun v5 μ5 v50 v51 u5 => ?_
  refine next_sp u5.st (by decide) (by decide) fun v6 μ6 v60 v61 u6 => ?_
  refine next_sp u6.st (by decide) (by decide) fun v7 μ7 v70 v71 u7 => ?_
  have iy : ∃ d : Int, 0 ≤ d ∧ d < 900 ∧ ixAt [T.int v5, T.int v6] v7 = some (T.int d) := by
    have : v7 = 0 ∨ v7 = 1 := by omega
    rcases this with rfl | rfl
    · exact ⟨v5, by omega, by omega, rfl⟩
    · exact ⟨v6, by omega, by omega, rfl⟩
  obtain ⟨d, d0, d1, hiy⟩ := iy
  refine ⟨_, hiy, ?_⟩
  exact q x (1 + v4) (1 + d) μ7 x1 x2 (by omega) (by omega) (by omega) (by omega) ((((((u1.trans u2).trans u3).trans u4).trans u5).trans u6).trans u7)
end NH.P
end
section
set_option linter.all false
set_option maxRecDepth 100000
set_option maxHeartbeats 400000
namespace NH.P
open PySem L2 NH
variable {μ μ1 μ2 : Mem} {K : T → Mem → Prop} {Z : Xp} {x y z : Int} {l r pre acc : List R3} {a b c : R3}
abbrev Dsc (l : List R3) : Prop := l.Pairwise fun a b => kLt b a = true
theorem insR_mem {x : R3} : ∀ {l : List R3}, a ∈ insR x l ↔ a = x ∨ a ∈ l
  | [] => by simp [insR]
  | y :: r => by
    unfold insR
    split
    · simp
    · rw [List.mem_cons, insR_mem, List.mem_cons]
      constructor
      · rintro (h | h | h)
        · exact .inr (.inl h)
        · exact .inl h
        · exact .inr (.inr h)
      · rintro (h | h | h)
        · exact .inr (.inl h)
        · exact .inl h
        · exact .inr (.inr h)
theorem srtR_mem : ∀ {l : List R3}, a ∈ srtR l ↔ a ∈ l
  | [] => Iff.rfl
  | x :: r => by unfold srtR; rw [insR_mem, srtR_mem, List.mem_cons]
theorem insR_dsc {x : R3} : ∀ {l : List R3}, Dsc l → (∀ a ∈ l, kNe x a) → Dsc (insR x l)
  | [], _, _ => List.pairwise_singleton _ _
  | y :: r, h, n => by
    obtain ⟨h1, h2⟩ := List.pairwise_cons.mp h
    unfold insR
    by_cases e : kLt y x = true
    · rw [if_pos e]
      refine List.pairwise_cons.mpr ⟨fun b hb => ?_, h⟩
      rcases List.mem_cons.mp hb with rfl | hb
      · exact e
      · exact kLt_trans (h1 b hb) e
    · rw [if_neg e]
      refine List.pairwise_cons.mpr ⟨fun b hb => ?_, insR_dsc h2 fun a ha => n a (List.mem_cons_of_mem _ ha)⟩
      rcases insR_mem.mp hb with rfl | hb
      · have := kLt_flip (n y List.mem_cons_self)
        cases w : kLt b y
        · rw [w] at this; exact absurd this e
        · rfl
      · exact h1 b hb
theorem srtR_dsc : ∀ {l : List R3}, l.Pairwise kNe → Dsc (srtR l)
  | [], _ => List.Pairwise.nil
  | x :: r, h => by
    obtain ⟨h1, h2⟩ := List.pairwise_cons.mp h
    exact insR_dsc (srtR_dsc h2) fun a ha => h1 a (srtR_mem.mp ha)
def stp3 (acc : List R3) (a : R3) : List R3 := if acc.all (fun o => decide (a.2.2 ≠ o.2.2)) = true then acc ++ [a] else acc
def dd3 (l : List R3) : List R3 := l.foldl stp3 []
structure DI (pre acc : List R3) : Prop where
  sub : acc.Sublist pre
  hol : acc.Pairwise fun a b => a.2.2 ≠ b.2.2
  cov : ∀ a ∈ pre, ∃ d ∈ acc, d.2.2 = a.2.2 ∧ kLt d a = false
theorem kLt_irr : kLt a a = false := by unfold kLt; simp
theorem kLt_asy (h : kLt a b = true) : kLt b a = false := by
  cases w : kLt b a
  · rfl
  · have := kLt_trans h w
    rw [kLt_irr] at this; cases this
theorem DI.step (h : DI pre acc) (d : Dsc (pre ++ [a])) : DI (pre ++ [a]) (stp3 acc a) := by
  unfold stp3
  by_cases e : acc.all (fun o => decide (a.2.2 ≠ o.2.2)) = true
  · rw [if_pos e]
    have e := List.all_eq_true.mp e
    refine ⟨h.sub.append (List.Sublist.refl _), List.pairwise_append.mpr ⟨h.hol, List.pairwise_singleton _ _, fun p hp q hq => ?_⟩, fun b hb => ?_⟩
    · rw [List.mem_singleton.mp hq]
      exact fun w => of_decide_eq_true (e p hp) w.symm
    · rcases List.mem_append.mp hb with hb | hb
      · obtain ⟨d, hd, w⟩ := h.cov b hb
        exact ⟨d, List.mem_append_left _ hd, w⟩
      · rw [List.mem_singleton.mp hb]
        exact ⟨a, by simp, rfl, kLt_irr⟩
  · rw [if_neg e]
    have : ∃ o ∈ acc, a.2.2 = o.2.2 := by
      have e : acc.all (fun o => decide (a.2.2 ≠ o.2.2)) = false := by simpa using e
      obtain ⟨o, ho, w⟩ := List.all_eq_false.mp e
      exact ⟨o, ho, by simpa using w⟩
    obtain ⟨o, ho, w⟩ := this
    refine ⟨h.sub.trans (List.sublist_append_left _ _), h.hol, fun b hb => ?_⟩
    rcases List.mem_append.mp hb with hb | hb
    · exact h.cov b hb
    · rw [List.mem_singleton.mp hb]
      exact ⟨o, ho, w.symm, kLt_asy ((List.pairwise_append.mp d).2.2 o (h.sub.subset ho) a (by simp))⟩
theorem fold_di : ∀ {r pre acc : List R3}, DI pre acc → Dsc (pre ++ r) → DI (pre ++ r) (r.foldl stp3 acc)
  | [], pre, acc, h, _ => by rw [List.append_nil]; exact h
  | a :: r, pre, acc, h, d => by
    have e : pre ++ a :: r = (pre ++ [a]) ++ r := by simp
    rw [e] at d ⊢
    exact fold_di (h.step (List.pairwise_append.mp d).1) d
theorem dd3_di (d : Dsc l) : DI l (dd3 l) := fold_di (pre := []) ⟨List.Sublist.refl _, List.Pairwise.nil, by simp⟩ d
def top3 (l : List R3) : List R3 := (dd3 (srtR l)).take 2
structure TopI (S H : List R3) : Prop where
  len : H.length ≤ 2
  dsc : Dsc H
  sub : ∀ a ∈ H, a ∈ S
  cov : ∀ a ∈ S, ∀ h, a.2.2 ≠ h → ∃ b ∈ H, b.2.2 ≠ h ∧ kLt b a = false
theorem top3_ok (pw : l.Pairwise kNe) : TopI l (top3 l) := by
  have D := srtR_dsc pw
  have I := dd3_di D
  have ds : Dsc (dd3 (srtR l)) := D.sublist I.sub
  refine ⟨by unfold top3; rw [List.length_take]; omega, ds.sublist (List.take_sublist _ _), fun a ha => srtR_mem.mp (I.sub.subset (List.mem_of_mem_take ha)), fun a ha h hh => ?_⟩
  obtain ⟨d, hd, e1, e2⟩ := I.cov a (srtR_mem.mpr ha)
  obtain ⟨i, hi, e⟩ := List.mem_iff_getElem.mp hd
  unfold top3
  generalize dd3 (srtR l) = L at *
  by_cases w : i < 2
  · exact ⟨d, List.mem_iff_getElem.mpr ⟨i, by rw [List.length_take]; omega, by rw [List.getElem_take]; exact e⟩, by rw [e1]; exact hh, e2⟩
  · have le : ∀ (k : Nat) (hk : k < 2), kLt (L[k]'(by omega)) a = false := fun k hk => by
      have lt := List.pairwise_iff_getElem.mp ds k i (by omega) hi (by omega)
      rw [e] at lt
      cases q : kLt (L[k]'(by omega)) a
      · rfl
      · rw [kLt_trans lt q] at e2; cases e2
    have ne := List.pairwise_iff_getElem.mp I.hol 0 1 (by omega) (by omega) (by omega)
    by_cases q : (L[0]'(by omega)).2.2 = h
    · exact ⟨_, List.mem_iff_getElem.mpr ⟨1, by rw [List.length_take]; omega, by rw [List.getElem_take]⟩, fun w => ne (q.trans w.symm), le 1 (by omega)⟩
    · exact ⟨_, List.mem_iff_getElem.mpr ⟨0, by rw [List.length_take]; omega, by rw [List.getElem_take]⟩, q, le 0 (by omega)⟩
end NH.P
end
section
set_option linter.all false
set_option maxRecDepth 100000
set_option maxHeartbeats 400000
namespace NH.P
open PySem L2 NH
variable {μ μ1 μ2 : Mem} {K : T → Mem → Prop} {Z : Xp} {x y z : Int} {H : List R3} {n : R3}
theorem dd3_snoc {l : List R3} {a : R3} : dd3 (l ++ [a]) = stp3 (dd3 l) a := by unfold dd3; rw [List.foldl_append]; rfl
theorem dd3_len : ∀ {l : List R3}, (dd3 l).length ≤ l.length := fun {l} => by
  have : ∀ (r acc : List R3), (r.foldl stp3 acc).length ≤ acc.length + r.length := fun r => by
    induction r with
    | nil => intro acc; simp
    | cons a r ih =>
      intro acc
      have := ih (stp3 acc a)
      have q : (stp3 acc a).length ≤ acc.length + 1 := by unfold stp3; split <;> simp
      simp only [List.foldl_cons, List.length_cons]; omega
  simpa [dd3] using this l []
theorem cut2R {α : Type} {xs : List α} : cutL xs none (some 2) = xs.take 2 := by
  unfold cutL sIxN
  simp only [List.drop_zero, Nat.sub_zero]
  by_cases h : 2 ≤ xs.length
  · show xs.take (min 2 xs.length) = _
    rw [Nat.min_eq_left h]
  · show xs.take (min 2 xs.length) = _
    rw [Nat.min_eq_right (by omega), List.take_of_length_le (Nat.le_refl _), List.take_of_length_le (by omega)]
theorem highest_sp (hl : H.length ≤ 2) (pw : (H ++ [n]).Pairwise kNe) (q : ∀ μ', Ch [] μ μ' → K (.lst ((top3 (H ++ [n])).map r3T)) μ') : highest_two [.lst (H.map r3T), r3T n] μ K Z := by
  unfold highest_two
  refine ⟨rfl, ?_⟩
  refine ⟨by rw [List.length_map]; show _ + 1 ≤ _; unfold room; omega, ?_⟩
  refine ⟨H ++ [n], by simp, by simp; omega, pw, ?_⟩
  generalize hS : srtR (H ++ [n]) = S
  have lS : S.length ≤ 3 := by rw [← hS, srtR_len]; simp; omega
  refine forM_inv (fun i τ μ' => ∃ o : Option T, τ = [some (.lst (H.map r3T)), some (r3T n), some (.mut μ.length), o] ∧ μ'[μ.length]? = some (.lst ((dd3 (S.take i)).map r3T)) ∧ Ch [] μ μ') ⟨_, rfl, get_last, Ch.app⟩ ?_ ?_
  · rintro i u τ μ' hx ⟨o, rfl, hf, ch⟩ N hN
    rw [List.getElem?_map] at hx
    obtain ⟨a, ha, rfl⟩ := Option.map_eq_some_iff.mp hx
    have et : S.take (i + 1) = S.take i ++ [a] := by rw [List.take_add_one, ha]; rfl
    have ld : (dd3 (S.take i)).length ≤ 3 := by have := dd3_len (l := S.take i); rw [List.length_take] at this; omega
    refine ⟨_, rfl, ?_⟩
    refine ⟨_, hf, by rw [List.length_map]; unfold room; omega, ?_⟩
    refine compO_sel r3T (fun o => some (.bl (decide (a.2.2 ≠ o.2.2)))) (fun o _ kk hkk => ?_) ?_ hf
    · refine ⟨_, rfl, _, rfl, _, rfl, ?_⟩
      have hkk : kk (some (.bl (!decide (a.2.2 = o.2.2)))) μ' := by rw [← decide_not]; exact hkk
      exact hkk
    rw [List.filterMap_eq_map']
    refine ⟨_, bools_map (fun o : R3 => decide (a.2.2 ≠ o.2.2)) _, ?_⟩
    refine br_cases (fun e => ?_) (fun e => ?_)
    · rw [List.all_map] at e
      have e : (dd3 (S.take i)).all (fun o => decide (a.2.2 ≠ o.2.2)) = true := e
      refine ⟨⟨_, hf⟩, ?_⟩
      refine ⟨_, hf, by rw [List.length_map]; unfold room; omega, ?_⟩
      refine hN _ _ ⟨_, rfl, ?_, Ch.geS ch Ch.set (by simp)⟩
      rw [get_set hf, et, dd3_snoc, stp3, if_pos e, List.map_append]; rfl
    · rw [List.all_map] at e
      have e : (dd3 (S.take i)).all (fun o => decide (a.2.2 ≠ o.2.2)) = false := e
      refine hN _ _ ⟨_, rfl, ?_, ch⟩
      rw [hf, et, dd3_snoc, stp3, if_neg (by rw [e]; decide)]
  · rintro τ μ' ⟨o, rfl, hf, ch⟩
    rw [List.length_map, List.take_length] at hf
    refine ⟨_, hf, ?_⟩
    have := q μ' ch
    unfold top3 at this
    rw [hS, List.map_take, ← cut2R] at this
    exact this
abbrev B3 := Int × Str × Int
abbrev b3T (e : B3) : T := .tup [.int e.1, .str e.2.1, .int e.2.2]
abbrev f3T (f : Int × Int × Int) : T := .tup [.int f.1, .int f.2.1, .int f.2.2]
abbrev momE (y z : Int) (e : B3) : Int := e.2.2 / z / y
abbrev rowE (y z : Int) (j : Nat) (e : B3) : R3 := (momE y z e, (j : Int), e.2.1)
def PairOk (y z : Int) (es : List B3) (f : Int × Int × Int) : Prop := ∃ (j k : Nat) (e e' : B3), j < k ∧ es[j]? = some e ∧ es[k]? = some e' ∧ e.2.1 ≠ e'.2.1 ∧ f = (momE y z e - momE y z e', (j : Int), (k : Int))
structure BkI (y z : Int) (es : List B3) (n : Nat) (H : List R3) (F : List (Int × Int × Int)) : Prop where
  len : H.length ≤ 2
  dsc : Dsc H
  at_ : ∀ a ∈ H, ∃ j e, j < n ∧ es[j]? = some e ∧ a = rowE y z j e
  cov : ∀ j e, j < n → es[j]? = some e → ∀ h, e.2.1 ≠ h → ∃ b ∈ H, b.2.2 ≠ h ∧ kLt b (rowE y z j e) = false
  fok : ∀ f ∈ F, PairOk y z es f
  fco : ∀ j k e e', j < k → k < n → es[j]? = some e → es[k]? = some e' → e.2.1 ≠ e'.2.1 → ∃ f ∈ F, momE y z e - momE y z e' ≤ f.1
  fl : F.length ≤ n
theorem kNe_of {a b : R3} (h : kLt b a = true) : kNe a b := fun w => by
  unfold kLt at h
  rw [if_pos w.1.symm, w.2] at h
  have := of_decide_eq_true h
  omega
theorem BkI.ne {es : List B3} {n : Nat} {F : List (Int × Int × Int)} {e : B3} (I : BkI y z es n H F) : (H ++ [rowE y z n e]).Pairwise kNe := by
  refine List.pairwise_append.mpr ⟨I.dsc.imp fun h => kNe_of h, List.pairwise_singleton _ _, fun a ha b hb => ?_⟩
  rw [List.mem_singleton.mp hb]
  obtain ⟨j, e', hj, _, rfl⟩ := I.at_ a ha
  exact fun w => by
    have := w.2
    have : (j : Int) = (n : Int) := this
    omega
theorem kLt_le {a b : R3} (h : kLt a b = false) : b.1 ≤ a.1 := by
  unfold kLt at h
  by_cases e : a.1 = b.1
  · omega
  · rw [if_neg e] at h
    have := of_decide_eq_false h
    omega
theorem BkI.step {es : List B3} {n : Nat} {F F' : List (Int × Int × Int)} {e : B3} (I : BkI y z es n H F) (he : es[n]? = some e) (h1 : ∀ f ∈ F', f ∈ F ∨ PairOk y z es f) (h2 : ∀ f ∈ F, f ∈ F') (h3 : ∀ j e', j < n → es[j]? = some e' → e'.2.1 ≠ e.2.1 → ∃ f ∈ F', momE y z e' - momE y z e ≤ f.1) (h4 : F'.length ≤ n + 1) :
    BkI y z es (n + 1) (top3 (H ++ [rowE y z n e])) F' := by
  have T := top3_ok (I.ne (e := e))
  refine ⟨T.len, T.dsc, fun a ha => ?_, fun j e' hj he' h hh => ?_, fun f hf => ?_, fun j k a b jk kn ha hb ne => ?_, h4⟩
  · rcases List.mem_append.mp (T.sub a ha) with q | q
    · obtain ⟨j, e', hj, r⟩ := I.at_ a q
      exact ⟨j, e', by omega, r⟩
    · rw [List.mem_singleton.mp q]
      exact ⟨n, e, by omega, he, rfl⟩
  · by_cases w : j < n
    · obtain ⟨b, hb, n1, n2⟩ := I.cov j e' w he' h hh
      obtain ⟨c, hc, m1, m2⟩ := T.cov b (List.mem_append_left _ hb) h n1
      refine ⟨c, hc, m1, ?_⟩
      cases q : kLt c (rowE y z j e')
      · rfl
      · obtain ⟨j2, e2, j2n, g2, rfl⟩ := I.at_ b hb
        exfalso
        by_cases w2 : kLt c (rowE y z j2 e2) = true
        · rw [m2] at w2; cases w2
        · have lc := kLt_le m2
          have lb := kLt_le n2
          unfold kLt at q n2 m2
          by_cases u1 : c.1 = (rowE y z j e').1
          · rw [if_pos u1] at q
            have q := of_decide_eq_true q
            rw [if_pos (show c.1 = (rowE y z j2 e2).1 by omega)] at m2
            rw [if_pos (show (rowE y z j2 e2).1 = (rowE y z j e').1 by omega)] at n2
            have := of_decide_eq_false m2
            have := of_decide_eq_false n2
            omega
          · rw [if_neg u1] at q
            have q := of_decide_eq_true q
            omega
    · have ej : j = n := by omega
      subst ej
      rw [he] at he'; cases he'
      exact T.cov _ (by simp) h hh
  · rcases h1 f hf with q | q
    · exact I.fok f q
    · exact q
  · by_cases w : k < n
    · obtain ⟨f, hf, q⟩ := I.fco j k a b jk w ha hb ne
      exact ⟨f, h2 f hf, q⟩
    · have ek : k = n := by omega
      subst ek
      rw [he] at hb; cases hb
      exact h3 j a jk ha ne
end NH.P
end
section
set_option linter.all false
set_option maxRecDepth 100000
set_option maxHeartbeats 400000
namespace NH.P
open PySem L2 NH
variable {μ μ1 μ2 : Mem} {K : T → Mem → Prop} {Z : Xp} {x y z : Int} {H : List R3} {n : R3} {es : List B3}
theorem ixAt_m3 {α : Type} {f : α → T} {l : List α} {n : Nat} {a : α} (h : l[n]? = some a) : ixAt (l.map f) (n : Int) = some (f a) := by
  obtain ⟨hl, e⟩ := List.getElem?_eq_some_iff.mp h
  unfold ixAt ixNo
  rw [if_pos (by omega), if_pos (by rw [List.length_map]; omega)]
  simp [h]
theorem sel3 (h : Str) : ∀ l : List R3, (l.filterMap fun a => if a.2.2 = h then none else some (r3T a)) = (l.filter fun a => !decide (a.2.2 = h)).map r3T
  | [] => rfl
  | a :: r => by
    have := sel3 h r
    by_cases e : a.2.2 = h
    · rw [List.filterMap_cons, if_pos e, List.filter_cons, if_neg (by rw [decide_eq_true e]; decide), this]
    · rw [List.filterMap_cons, if_neg e, List.filter_cons, if_pos (by rw [decide_eq_false e]; rfl), this]; rfl
theorem rowsOf_f : ∀ F : List (Int × Int × Int), rowsOf (F.map f3T) = some (F.map fun f => [f.1, f.2.1, f.2.2])
  | [] => rfl
  | f :: r => by
    have := rowsOf_f r
    show (intsOf [T.int f.1, T.int f.2.1, T.int f.2.2]).bind _ = _
    show Option.bind (some [f.1, f.2.1, f.2.2]) _ = _
    rw [this]; rfl
theorem gt_le {f g : Int × Int × Int} (h : lexGt [g.1, g.2.1, g.2.2] [f.1, f.2.1, f.2.2] = false) : g.1 ≤ f.1 := by
  rw [lexGt_cons] at h
  by_cases e : g.1 = f.1
  · omega
  · rw [if_neg e] at h
    have := of_decide_eq_false h
    omega
theorem rest53 {E : En} {n : Nat} {e : B3} {s0 s1 s2 s7 : Option T} {M : Mem} (hl : H.length ≤ 2) (pw : (H ++ [rowE y z n e]).Pairwise kNe) (q : ∀ μ3, Ch [] M μ3 → E.nx [s0, s1, s2, some (.lst ((top3 (H ++ [rowE y z n e])).map r3T)), some (.int n), some (.str e.2.1), some (.int (e.2.2 / z / y)), s7] μ3) :
    blks [sSet 3 (eCall highest_two [eV 3, eTup [eV 6, eV 4, eV 5]])] [s0, s1, s2, some (.lst (H.map r3T)), some (.int n), some (.str e.2.1), some (.int (e.2.2 / z / y)), s7] M E :=
  highest_sp (n := rowE y z n e) hl pw fun μ3 ch3 => q μ3 ch3
theorem back_sp (sz : Hz x y z) (ok : ∀ e ∈ es, 0 ≤ e.2.2 ∧ e.2.2 < x * y * z) (hl : es.length ≤ 40)
    (q0 : (∀ f, ¬ PairOk y z es f) → ∀ μ', Ch [] μ μ' → K .non μ') (q1 : ∀ f, PairOk y z es f → (∀ g, PairOk y z es g → g.1 ≤ f.1) → ∀ μ', Ch [] μ μ' → K (f3T f) μ') : back_by [shp x y z, .lst (es.map b3T)] μ K Z := by
  unfold back_by
  refine ⟨rfl, ?_⟩
  refine ⟨⟨by omega, by rw [List.length_map]; omega⟩, ?_⟩
  rw [List.length_map]
  refine forM_inv (fun n τ μ' => ∃ (H : List R3) (F : List (Int × Int × Int)) (o4 o5 o6 o7 : Option T), τ = [some (shp x y z), some (.lst (es.map b3T)), some (.mut μ.length), some (.lst (H.map r3T)), o4, o5, o6, o7] ∧ BkI y z es n H F ∧ μ'[μ.length]? = some (.lst (F.map f3T)) ∧ Ch [] μ μ') ?_ ?_ ?_
  · exact ⟨[], [], _, _, _, _, rfl, ⟨by simp, List.Pairwise.nil, by simp, fun j e h => absurd h (Nat.not_lt_zero _), by simp, fun j k e e' _ h => absurd h (Nat.not_lt_zero _), by simp⟩, get_last, Ch.app⟩
  · rintro n u τ μ' hx ⟨H, F, o4, o5, o6, o7, rfl, I, hf, ch⟩ N hN
    obtain ⟨rfl, hn⟩ := rangeT_get hx
    have hn : n < es.length := by omega
    have he : es[n]? = some es[n] := List.getElem?_eq_getElem hn
    generalize es[n] = e at he
    have E := ok e (List.mem_of_getElem? he)
    refine ⟨_, rfl, ?_⟩
    refine ⟨_, ixAt_m3 he, _, rfl, ?_⟩
    refine ⟨_, ixAt_m3 he, _, rfl, ?_⟩
    refine parts_of_in sz E.1 E.2 ?_
    refine ⟨_, rfl, ?_⟩
    refine ⟨by rw [List.length_map]; have := I.len; unfold room; omega, ?_⟩
    refine compO_sel r3T (fun a => if a.2.2 = e.2.1 then none else some (r3T a)) (fun a _ kk hkk => ?_) ?_ trivial
    · refine ⟨_, rfl, _, rfl, ?_⟩
      refine br_cases (fun w => ?_) (fun w => ?_)
      · have w : (!decide (a.2.2 = e.2.1)) = true := w
        rw [if_neg (by simpa using w)] at hkk
        exact hkk
      · have w : (!decide (a.2.2 = e.2.1)) = false := w
        rw [if_pos (by simpa using w)] at hkk
        exact hkk
    rw [sel3]
    have hO : ∀ b ∈ H, b.2.2 ≠ e.2.1 → b ∈ (H.filter fun a => !decide (a.2.2 = e.2.1)) := fun b hb w => List.mem_filter.mpr ⟨hb, by rw [decide_eq_false w]; rfl⟩
    have hS : (H.filter fun a => !decide (a.2.2 = e.2.1)).Sublist H := List.filter_sublist
    have hN2 : ∀ b ∈ (H.filter fun a => !decide (a.2.2 = e.2.1)), b.2.2 ≠ e.2.1 := fun b hb => by simpa using (List.mem_filter.mp hb).2
    generalize (H.filter fun a => !decide (a.2.2 = e.2.1)) = O at hO hS hN2
    cases O with
    | nil =>
      refine highest_sp I.len (I.ne (e := e)) fun μ3 ch3 => ?_
      have hf3 := ch3.get hf (by simp)
      refine hN _ _ ⟨_, F, _, _, _, _, rfl, I.step he (fun f hf => .inl hf) (fun f hf => hf) (fun j e' hj he' ne => ?_) (by have := I.fl; omega), hf3, Ch.trans ch ch3⟩
      obtain ⟨b, hb, n1, n2⟩ := I.cov j e' hj he' e.2.1 ne
      exact absurd (hO b hb n1) (by simp)
    | cons o O =>
      have oH : o ∈ H := hS.subset List.mem_cons_self
      obtain ⟨jo, eo, jn, go, ro⟩ := I.at_ o oH
      have on := hN2 o List.mem_cons_self
      have big : ∀ b ∈ o :: O, b.1 ≤ o.1 := fun b hb => by
        rcases List.mem_cons.mp hb with rfl | hb
        · exact Int.le_refl _
        · exact kLt_le (kLt_asy ((List.pairwise_cons.mp (I.dsc.sublist hS)).1 b hb))
      have fl := I.fl
      refine br_dec (fun _ => ?_) (fun w => absurd (show (0 : Int) < ((o :: O).map r3T).length by simp) w)
      refine ⟨⟨_, hf⟩, ?_⟩
      refine ⟨_, ixAt_m3 (l := o :: O) (n := 0) (a := o) rfl, ?_⟩
      refine ⟨_, rfl, ?_⟩
      refine ⟨_, ixAt_m3 (l := o :: O) (n := 0) (a := o) rfl, ?_⟩
      refine ⟨_, rfl, ?_⟩
      refine ⟨_, hf, by rw [List.length_map]; unfold room; omega, ?_⟩
      have hf2 : (μ'.set μ.length (.lst (F.map f3T ++ [f3T (o.1 - e.2.2 / z / y, o.2.1, (n : Int))])))[μ.length]? = some (.lst ((F ++ [(o.1 - e.2.2 / z / y, o.2.1, (n : Int))]).map f3T)) := by
        rw [get_set hf, List.map_append]; rfl
      have ch2 : Ch [] μ (μ'.set μ.length (.lst (F.map f3T ++ [f3T (o.1 - e.2.2 / z / y, o.2.1, (n : Int))]))) := Ch.geS ch Ch.set (by simp)
      refine rest53 I.len (I.ne (e := e)) fun μ3 ch3 => ?_
      have hf3 := ch3.get hf2 (by simp)
      have new : PairOk y z es (o.1 - e.2.2 / z / y, o.2.1, (n : Int)) := ⟨jo, n, eo, e, jn, go, he, by rw [ro] at on; exact on, by rw [ro]⟩
      refine hN _ _ ⟨_, _, _, _, _, _, rfl, I.step he (fun f hf => ?_) (fun f hf => List.mem_append_left _ hf) (fun j e' hj he' ne => ?_) (by simp; omega), hf3, Ch.trans ch2 ch3⟩
      · rcases List.mem_append.mp hf with q | q
        · exact .inl q
        · rw [List.mem_singleton.mp q]; exact .inr new
      · obtain ⟨b, hb, n1, n2⟩ := I.cov j e' hj he' e.2.1 ne
        have h1 := big b (hO b hb n1)
        have h2 := kLt_le n2
        refine ⟨_, List.mem_append_right _ (List.mem_singleton.mpr rfl), ?_⟩
        show momE y z e' - momE y z e ≤ o.1 - e.2.2 / z / y
        have h2 : momE y z e' ≤ b.1 := h2
        show e'.2.2 / z / y - e.2.2 / z / y ≤ o.1 - e.2.2 / z / y
        have : e'.2.2 / z / y ≤ b.1 := h2
        omega
  · rintro τ μ' ⟨H, F, o4, o5, o6, o7, rfl, I, hf, ch⟩
    rw [rangeT_len, show ((es.length : Int)).toNat = es.length by omega] at I
    have all : ∀ g, PairOk y z es g → ∃ f ∈ F, g.1 ≤ f.1 := fun g ⟨j, k, e, e', jk, he, he', ne, eg⟩ => by
      have hk := (List.getElem?_eq_some_iff.mp he').1
      obtain ⟨f, hf, q⟩ := I.fco j k e e' jk hk he he' ne
      exact ⟨f, hf, by rw [eg]; exact q⟩
    refine ⟨_, hf, _, rowsOf_f F, fun z0 => ?_, fun ns hns hb => ?_⟩
    · have z0 : F = [] := List.map_eq_nil_iff.mp z0
      refine q0 (fun f pf => ?_) μ' ch
      obtain ⟨g, hg, _⟩ := all f pf
      rw [z0] at hg; cases hg
    · obtain ⟨f, hf', rfl⟩ := List.mem_map.mp hns
      refine q1 f (I.fok f hf') (fun g pg => ?_) μ' ch
      obtain ⟨h, hh, q⟩ := all g pg
      have := gt_le (hb _ (List.mem_map.mpr ⟨h, hh, rfl⟩))
      omega
end NH.P
end
section
set_option linter.all false
set_option maxRecDepth 100000
set_option maxHeartbeats 400000
namespace NH.P
open PySem L2 NH
variable {μ μ1 μ2 : Mem} {K : T → Mem → Prop} {Z : Xp} {x y z : Int} {es : List B3} {F : List (Int × Int × Int)} {b f : Nat}
theorem dep3 {α : Type} {g : α → T} (h : ∀ a, depT (g a) ≤ 1) : ∀ l : List α, depL (l.map g) ≤ 40
  | [] => by show (0 : Nat) ≤ 40; decide
  | a :: r => by
    show max (depT (g a)) (depL (r.map g)) ≤ 40
    have h1 := h a
    have h2 := dep3 h r
    omega
theorem same3 {α : Type} {g : α → T} (h : ∀ a, eqT (g a) (g a) = some true) : ∀ l : List α, eqL (l.map g) (l.map g) = some true
  | [] => rfl
  | a :: r => by simp only [List.map_cons, eqL, h a, same3 h r]; rfl
theorem eq_b3 {e : B3} : eqT (b3T e) (b3T e) = some true := by simp [b3T, eqT, eqL]
theorem eqL_nil3 : ∀ F : List (Int × Int × Int), eqL (F.map f3T) [] = some (decide (F = []))
  | [] => rfl
  | f :: r => by simp [eqL]
theorem ints_f : ∀ F : List (Int × Int × Int), intsOf (F.map fun h => T.int h.1) = some (F.map fun h => h.1)
  | [] => rfl
  | f :: r => by show (intsOf (r.map fun h => T.int h.1)).map (f.1 :: ·) = _; rw [ints_f r]; rfl
theorem tail53 {s0 s1 s2 s4 s5 s7 s8 s9 s11 s12 s13 s14 s15 : Option T} (sz : Hz x y z) (ok : ∀ e ∈ es, 0 ≤ e.2.2 ∧ e.2.2 < x * y * z) (hl : es.length ≤ 20) (hb : μ[b]? = some (.lst (es.map b3T))) (hf : μ[f]? = some (.lst (F.map f3T))) (fl : F.length ≤ 1000)
    (h1 : ∀ g ∈ F, PairOk y z es g) (h2 : ∀ g, PairOk y z es g → g ∈ F) (q : ∀ μ', K (.bl true) μ') :
    blks (b_law_k53.drop 9) [s0, s1, s2, some (shp x y z), s4, s5, some (.mut b), s7, s8, s9, some (.mut f), s11, s12, s13, s14, s15] μ (En.fn K Z) := by
  refine ⟨_, hb, ?_⟩
  refine back_sp sz ok (by omega) (fun no μ' ch => ?_) fun g pg mx μ' ch => ?_
  · have e : F = [] := by
      cases F with
      | nil => rfl
      | cons g r => exact absurd (h1 g List.mem_cons_self) (no g)
    subst e
    have hb' := ch.get hb (by simp)
    have hf' := ch.get hf (by simp)
    refine ⟨_, hb', dep3 (fun e => by show (0 : Nat) + 1 ≤ 1; decide) _, _, same3 (fun _ => eq_b3) _, ?_⟩
    refine ⟨_, hf', by show (0 : Nat) ≤ 40; decide, _, rfl, ?_⟩
    refine ⟨_, hf', by show (0 : Nat) ≤ 40; decide, _, rfl, ?_⟩
    exact q _
  · have hb' := ch.get hb (by simp)
    have hf' := ch.get hf (by simp)
    have hg := h2 g pg
    have ne : F ≠ [] := fun e => by rw [e] at hg; cases hg
    have df : depL (F.map f3T) ≤ 40 := dep3 (fun e => by show (0 : Nat) + 1 ≤ 1; decide) _
    refine ⟨_, hb', dep3 (fun e => by show (0 : Nat) + 1 ≤ 1; decide) _, _, same3 (fun _ => eq_b3) _, ?_⟩
    refine ⟨_, hf', df, _, eqL_nil3 F, ?_⟩
    refine br_f (decide_eq_false ne) ?_
    refine ⟨_, hf', df, _, eqL_nil3 F, ?_⟩
    refine br_f (decide_eq_false ne) ?_
    refine ⟨_, hf', _, rfl, fun t ht => ?_, ?_⟩
    · obtain ⟨h, _, rfl⟩ := List.mem_map.mp ht
      rfl
    refine br_f ?_ ?_
    · have : ((F.map f3T).any fun t => decide (intsT t = some [g.1, g.2.1, g.2.2])) = true := List.any_eq_true.mpr ⟨f3T g, List.mem_map.mpr ⟨g, hg, rfl⟩, decide_eq_true rfl⟩
      show (true ^^ _) = false
      rw [this]; rfl
    refine ⟨by show (3 : Nat) ≤ room; unfold room; omega, ?_⟩
    refine compO_sel (ps := [g.1, g.2.1, g.2.2]) T.int (fun _ => some (.bl false)) (fun i _ kk hkk => ⟨_, rfl, hkk⟩) ?_ trivial
    refine ⟨_, rfl, ?_⟩
    refine ⟨_, rfl, ?_⟩
    refine ⟨_, hf', by rw [List.length_map]; unfold room; omega, ?_⟩
    refine compO_sel f3T (fun h => some (.int h.1)) (fun h _ kk hkk => ⟨_, rfl, _, rfl, hkk⟩) ?_ hf'
    rw [List.filterMap_eq_map']
    refine ⟨_, ints_f F, by rw [List.length_map]; exact List.length_pos_iff.mpr ne, fun n hn hm => ?_⟩
    obtain ⟨h, hh, rfl⟩ := List.mem_map.mp hn
    have e1 := mx h (h1 h hh)
    have e2 := hm g.1 (List.mem_map.mpr ⟨g, hg, rfl⟩)
    have : K (.bl (decide (g.1 = h.1))) μ' := by rw [decide_eq_true (by omega)]; exact q _
    exact this
end NH.P
end
section
set_option linter.all false
set_option maxRecDepth 100000
set_option maxHeartbeats 400000
namespace NH.P
open PySem L2 NH
variable {μ μ1 μ2 : Mem} {K : T → Mem → Prop} {Z : Xp} {x y z : Int} {es : List B3} {F : List (Int × Int × Int)} {b f : Nat}
structure FI (y z : Int) (es : List B3) (n m : Nat) (F : List (Int × Int × Int)) : Prop where
  s : ∀ g ∈ F, PairOk y z es g
  c : ∀ (j k : Nat) (e e' : B3), j < k → (k < n ∨ (k = n ∧ j < m)) → es[j]? = some e → es[k]? = some e' → e.2.1 ≠ e'.2.1 → (momE y z e - momE y z e', (j : Int), (k : Int)) ∈ F
  l : F.length ≤ 20 * n + m
theorem FI.skip {n m : Nat} {e e' : B3} (I : FI y z es n m F) (h1 : es[m]? = some e) (h2 : es[n]? = some e') (eq : e.2.1 = e'.2.1) : FI y z es n (m + 1) F := by
  refine ⟨I.s, fun j k a c jk h ha hc ne => ?_, by have := I.l; omega⟩
  by_cases w : k = n ∧ j = m
  · obtain ⟨rfl, rfl⟩ := w
    rw [h1] at ha; rw [h2] at hc
    cases ha; cases hc
    exact absurd eq ne
  · exact I.c j k a c jk (by omega) ha hc ne
theorem FI.add {n m : Nat} {e e' : B3} (I : FI y z es n m F) (mn : m < n) (h1 : es[m]? = some e) (h2 : es[n]? = some e') (ne : e.2.1 ≠ e'.2.1) : FI y z es n (m + 1) (F ++ [(momE y z e - momE y z e', (m : Int), (n : Int))]) := by
  refine ⟨fun g hg => ?_, fun j k a c jk h ha hc ne => ?_, by have := I.l; simp; omega⟩
  · rcases List.mem_append.mp hg with q | q
    · exact I.s g q
    · rw [List.mem_singleton.mp q]
      exact ⟨m, n, e, e', mn, h1, h2, ne, rfl⟩
  · by_cases w : k = n ∧ j = m
    · obtain ⟨rfl, rfl⟩ := w
      rw [h1] at ha; rw [h2] at hc
      cases ha; cases hc
      simp
    · exact List.mem_append_left _ (I.c j k a c jk (by omega) ha hc ne)
theorem loop2 {s0 s1 s4 s5 s7 s8 s9 s10 s11 s12 s13 s14 s15 : Option T} (sz : Hz x y z) (ok : ∀ e ∈ es, 0 ≤ e.2.2 ∧ e.2.2 < x * y * z) (hl : es.length ≤ 20) (hb : μ[b]? = some (.lst (es.map b3T))) (q : ∀ μ', K (.bl true) μ') :
    blks (b_law_k53.drop 7) [s0, s1, some (.tup [.int x, .int y, .int z]), some (shp x y z), s4, s5, some (.mut b), s7, s8, s9, s10, s11, s12, s13, s14, s15] μ (En.fn K Z) := by
  have z1 := sz.z1
  have z2 := sz.z2
  have y1 := sz.y1
  have y2 := sz.y2
  have bl : b < μ.length := (List.getElem?_eq_some_iff.mp hb).1
  have hb1 : (μ ++ [MO.lst []])[b]? = some (.lst (es.map b3T)) := get_app hb
  refine ⟨_, hb1, ?_⟩
  have ez : enumT 0 (es.map b3T) = (es.zipIdx 0).map fun p => T.tup [.int p.2, b3T p.1] := by
    have : ∀ (l : List B3) (i : Nat), enumT i (l.map b3T) = (l.zipIdx i).map fun p => T.tup [.int p.2, b3T p.1] := fun l => by
      induction l with
      | nil => exact fun _ => rfl
      | cons a l ih =>
        intro i
        have := ih (i + 1)
        simp only [List.map_cons, enumT, List.zipIdx_cons]
        rw [← this]; simp
    exact this es 0
  rw [ez]
  refine forM_inv (fun n τ μ' => ∃ (F : List (Int × Int × Int)) (o7 o11 o12 o13 : Option T), τ = [s0, s1, some (.tup [.int x, .int y, .int z]), some (shp x y z), s4, s5, some (.mut b), o7, s8, s9, some (.mut μ.length), o11, o12, o13, s14, s15] ∧ FI y z es n 0 F ∧ μ'[b]? = some (.lst (es.map b3T)) ∧ μ'[μ.length]? = some (.lst (F.map f3T))) ?_ ?_ ?_ ?_
  · exact ⟨[], _, _, _, _, rfl, ⟨by simp, fun j k e e' jk h => by omega, by simp⟩, hb1, get_last⟩
  · rintro n u τ μ' hx ⟨F, o7, o11, o12, o13, rfl, I, hb', hf⟩ N hN
    rw [List.getElem?_map, List.getElem?_zipIdx, Nat.zero_add] at hx
    obtain ⟨p, hp, rfl⟩ := Option.map_eq_some_iff.mp hx
    obtain ⟨e', he', rfl⟩ := Option.map_eq_some_iff.mp hp
    have hn := (List.getElem?_eq_some_iff.mp he').1
    refine ⟨_, rfl, ?_⟩
    refine ⟨⟨by show (_ : Int) ≤ (n : Int); omega, by show (n : Int) < _; omega⟩, ?_⟩
    refine forM_inv (fun m τ μ2 => ∃ (F : List (Int × Int × Int)) (o12 o13 : Option T), τ = [s0, s1, some (.tup [.int x, .int y, .int z]), some (shp x y z), s4, s5, some (.mut b), some (.int n), s8, s9, some (.mut μ.length), some (b3T e'), o12, o13, s14, s15] ∧ FI y z es n m F ∧ μ2[b]? = some (.lst (es.map b3T)) ∧ μ2[μ.length]? = some (.lst (F.map f3T))) ⟨F, _, _, rfl, I, hb', hf⟩ ?_ ?_
    · rintro m u τ μ2 hx ⟨F, o12, o13, rfl, I, hb', hf⟩ N2 hN2
      obtain ⟨rfl, hm⟩ := rangeT_get hx
      have hm : m < n := by have : (m : Int) < (n : Int) := hm; omega
      have he : es[m]? = some es[m] := List.getElem?_eq_getElem (by omega)
      generalize es[m] = e at he
      refine ⟨_, rfl, ?_⟩
      refine ⟨_, _, hb', ixAt_m3 he, ?_⟩
      refine ⟨_, rfl, ?_⟩
      refine ⟨_, rfl, ?_⟩
      refine br_cases (fun w => ?_) (fun w => ?_)
      · have w : (!decide (e.2.1 = e'.2.1)) = true := w
        have ne : e.2.1 ≠ e'.2.1 := by simpa using w
        have fl := I.l
        refine ⟨_, _, hb', ixAt_m3 he, ?_⟩
        refine ⟨_, rfl, ?_⟩
        refine ⟨_, rfl, ?_⟩
        refine ⟨by show (2 : Nat) ≤ room; unfold room; omega, ?_⟩
        refine compO_sel (ps := [e.2.2, e'.2.2]) T.int (fun v => some (.int (v / z / y))) (fun v _ kk hkk => ⟨_, rfl, _, rfl, ⟨by omega, by omega⟩, _, rfl, ⟨by omega, by omega⟩, hkk⟩) ?_ trivial
        refine ⟨⟨_, hf⟩, ?_⟩
        refine ⟨_, rfl, ?_⟩
        refine ⟨_, rfl, ?_⟩
        refine ⟨_, hf, by rw [List.length_map]; unfold room; omega, ?_⟩
        refine hN2 _ _ ⟨F ++ [(momE y z e - momE y z e', (m : Int), (n : Int))], _, _, rfl, I.add hm he he' ne, ?_, ?_⟩
        · rw [List.getElem?_set_ne (by omega)]; exact hb'
        · rw [get_set hf, List.map_append]; rfl
      · have w : (!decide (e.2.1 = e'.2.1)) = false := w
        exact hN2 _ _ ⟨F, _, _, rfl, I.skip he he' (by simpa using w), hb', hf⟩
    · rintro τ μ2 ⟨F, o12, o13, rfl, I, hb', hf⟩
      rw [rangeT_len, show ((n : Int)).toNat = n by omega] at I
      refine hN _ _ ⟨F, _, _, _, _, rfl, ⟨I.s, fun j k a c jk h ha hc ne => I.c j k a c jk (by omega) ha hc ne, by have := I.l; omega⟩, hb', hf⟩
  · rintro τ μ' ⟨F, o7, o11, o12, o13, rfl, I, hb', hf⟩
    rw [List.length_map, List.length_zipIdx] at I
    have := I.l
    refine tail53 sz ok hl hb' hf (by omega) I.s (fun g pg => ?_) q
    obtain ⟨j, k, e, e', jk, he, he', ne, rfl⟩ := pg
    exact I.c j k e e' jk (.inl (List.getElem?_eq_some_iff.mp he').1) he he' ne
  · rintro n τ μ' ⟨F, o7, o11, o12, o13, rfl, I, hb', hf⟩
    exact hb'
end NH.P
end
section
set_option linter.all false
set_option maxRecDepth 100000
set_option maxHeartbeats 400000
namespace NH.P
open PySem L2 NH
variable {μ μ1 μ2 : Mem} {K : T → Mem → Prop} {Z : Xp} {x y z : Int} {es : List B3} {F : List (Int × Int × Int)} {b f : Nat}
theorem cut20 {α : Type} {xs : List α} : (cutL xs (some 1) (some 21)).length ≤ 20 := by
  unfold cutL sIxN
  rw [List.length_take]
  simp
  omega
theorem cut_ints {ns : List Int} {lo hi : Option Int} {i : Nat} {t : T} (h : (cutL (ns.map T.int) lo hi)[i]? = some t) : ∃ c, t = .int c := by
  unfold cutL at h
  rw [← List.map_drop, ← List.map_take, List.getElem?_map] at h
  obtain ⟨c, _, rfl⟩ := Option.map_eq_some_iff.mp h
  exact ⟨c, rfl⟩
theorem pick_h {v : Int} (h0 : 0 ≤ v) (h1 : v < 3) : ∃ h : Str, ixAt [T.str "one", T.str "ones", T.str "a"] v = some (.str h) := by
  have : v = 0 ∨ v = 1 ∨ v = 2 := by omega
  rcases this with rfl | rfl | rfl
  · exact ⟨_, rfl⟩
  · exact ⟨_, rfl⟩
  · exact ⟨_, rfl⟩
theorem tells53 : Tells law_k53 := by
  intro ns hns
  unfold law_k53
  refine ⟨rfl, ?_⟩
  refine l_cell_at_sp (by decide) fun c0 => ?_
  refine digits_sp fun d1 d2 => ?_
  have st0 : St ([] ++ [.lst [.int d1, .int d2, .int 0]]) 0 := ⟨d1, d2, 0, rfl⟩
  refine shape_sp st0 fun x y z μ3 x1 x2 y1 y2 z1 z2 u3 => ?_
  refine ⟨_, rfl, _, rfl, _, rfl, ?_⟩
  refine ⟨rfl, ?_⟩
  refine Shape_init_sp (by omega) (by omega) (by omega) ?_
  refine ⟨rfl, _, rfl, rfl, ?_⟩
  have sz : Hz x y z := ⟨by omega, by omega, by omega, by omega, by omega⟩
  have p1 : 1 ≤ x * y := by have := Int.mul_le_mul x1 y1 (by decide) (by omega); omega
  have p2 : 1 ≤ x * y * z := by have := Int.mul_le_mul p1 z1 (by decide) (by omega); omega
  have q1 : x * y ≤ 100000000000000000000 * 5 := Int.mul_le_mul x2 y2 (by omega) (by decide)
  have q2 : x * y * z ≤ 100000000000000000000 * 5 * 900 := Int.mul_le_mul q1 z2 (by omega) (by decide)
  refine ⟨_, rfl, _, rfl, .inr (by simp only [big]; omega), _, rfl, .inr (by simp only [big]; omega), ?_⟩
  refine next_sp u3.st (by omega) (by omega) fun nr μ4 nr0 nr1 u4 => ?_
  have l4 : μ4.length = 1 := (u3.trans u4).len
  refine forM_inv (fun n τ μ' => ∃ (es : List B3) (o1 o7 o8 o9 : Option T), τ = [some (.lst (ns.map T.int)), o1, some (shT x y z), some (shp x y z), some (.int (x * y * z)), some (.int nr), some (.mut μ4.length), o7, o8, o9, none, none, none, none, none, none] ∧ μ'[μ4.length]? = some (.lst (es.map b3T)) ∧ (∀ e ∈ es, 0 ≤ e.2.2 ∧ e.2.2 < x * y * z) ∧ es.length ≤ n) ⟨[], _, _, _, _, rfl, get_last, by simp, by simp⟩ ?_ ?_
  · rintro n u τ μ' hx ⟨es, o1, o7, o8, o9, rfl, hb, ok, el⟩ N hN
    have hn := (List.getElem?_eq_some_iff.mp hx).1
    rw [enumT_len] at hn
    have hn := Nat.lt_of_lt_of_le hn cut20
    obtain ⟨t, ht, rfl⟩ := enumT_get hx
    obtain ⟨c, rfl⟩ := cut_ints ht
    have bl : μ4.length < μ'.length := (List.getElem?_eq_some_iff.mp hb).1
    refine ⟨_, rfl, ?_⟩
    refine digits_sp fun a1 a2 => ?_
    have st5 : St (μ' ++ [.lst [.int a1, .int a2, .int 0]]) μ'.length := ⟨a1, a2, 0, get_last⟩
    refine next_sp st5 (by omega) (by omega) fun v1 μ5 v10 v11 u5 => ?_
    refine ⟨_, rfl, .inl (by decide), ?_⟩
    refine next_sp u5.st (by omega) (by omega) fun v2 μ6 v20 v21 u6 => ?_
    refine next_sp u6.st (by decide) (by decide) fun v3 μ7 v30 v31 u7 => ?_
    have ix : ∃ nm : Int, ixAt [T.int v1, T.int (if nr + v2 < x * y * z - 1 then nr + v2 else x * y * z - 1)] v3 = some (.int nm) ∧ 0 ≤ nm ∧ nm < x * y * z := by
      have : v3 = 0 ∨ v3 = 1 := by omega
      rcases this with rfl | rfl
      · exact ⟨_, rfl, v10, v11⟩
      · refine ⟨_, rfl, ?_, ?_⟩ <;> split <;> omega
    obtain ⟨nm, hix, m0, m1⟩ := ix
    refine ⟨_, hix, ?_⟩
    have U7 := (u5.trans u6).trans u7
    have hb7 : μ7[μ4.length]? = some (.lst (es.map b3T)) := (U7.ot _ (by omega)).trans (get_app hb)
    refine ⟨⟨_, hb7⟩, ?_⟩
    refine next_sp u7.st (by decide) (by decide) fun v4 μ8 v40 v41 u8 => ?_
    obtain ⟨h, hh⟩ := pick_h v40 v41
    refine ⟨_, hh, ?_⟩
    have hb8 : μ8[μ4.length]? = some (.lst (es.map b3T)) := (u8.ot _ (by omega)).trans hb7
    refine ⟨_, hb8, by rw [List.length_map]; unfold room; omega, ?_⟩
    refine hN _ _ ⟨es ++ [(0 + (n : Int), h, nm)], _, _, _, _, rfl, ?_, fun e he => ?_, by simp; omega⟩
    · rw [get_set hb8, List.map_append]; rfl
    · rcases List.mem_append.mp he with q | q
      · exact ok e q
      · rw [List.mem_singleton.mp q]; exact ⟨m0, m1⟩
  · rintro τ μ' ⟨es, o1, o7, o8, o9, rfl, hb, ok, el⟩
    rw [enumT_len] at el
    exact loop2 sz ok (Nat.le_trans el cut20) hb fun _ => rfl
end NH.P
namespace NH.K53
open PySem L2 NH NH.P
theorem tells : Tells law_k53 := tells53
end NH.K53
end
section
set_option linter.all false
set_option maxRecDepth 100000
set_option maxHeartbeats 4000000
namespace NH.K53
open PySem PySem.Spec PyProof.Rows L2 NH NH.P PySem.W
theorem len1 {P : List Value → Prop} (h : ∀ a0, P [a0]) : ∀ us : List Value, us.length = 1 → P us := PL.all (n := 1) h
theorem all_mk {l : OpenLaw} {w : World} {K : Frag} {h : Heap} {mg : Str → Option Value} {fa C0 C1 C2 CC3 f15 : Addr} {od15 an15 : Option Addr} {sl15 : Array (Option Value)} {oc15 kV15 dc15 pm15 cd15 ct15 : Value} (X : K.In h) (G : h.Ns mainGlobals mg) (hfa : mg "law" = some (.ref fa))
    (e0 : nsIn K mainGlobals "HouseError" = some (some (.ref C0)))
    (e1 : nsIn K mainGlobals "NoShape" = some (some (.ref C1)))
    (e2 : nsIn K mainGlobals "NoName" = some (some (.ref C2)))
    (p0 : DefP K "is_whole" s_is_whole)
    (p1 : DefP K "is_size" s_is_size)
    (p2 : DefP K "is_below" s_is_below)
    (p3 : ClsP K CC3 "Shape" "Shape.__init__" s_Shape_init)
    (p4 : DefP K "names_in" s_names_in)
    (p5 : DefP K "is_name" s_is_name)
    (p6 : DefP K "check_name" s_check_name)
    (p7 : DefP K "parts_of" s_parts_of)
    (p8 : DefP K "highest_two" s_highest_two)
    (p9 : DefP K "back_by" s_back_by)
    (p10 : DefP K "_law_cell_at" s_l_cell_at)
    (p11 : DefP K "_law_mixed" s_l_mixed)
    (p12 : DefP K "_law_digits" s_l_digits)
    (p13 : DefP K "_law_next" s_l_next_2)
    (p14 : DefP K "_law_shape" s_l_shape_2)
    (a15 : nsIn K mainGlobals "law" = some (some (.ref f15)))
    (l15 : K.lookup f15 = some ⟨oc15, od15, .func (fnOf "law" "law" (defArgs s_law_k53) (defBody s_law_k53) (defScope s_law_k53) .none kV15 dc15 pm15 an15 cd15 ct15), sl15⟩)
    (c15 : codeIn K cd15 "law" = true)
    (k15 : keepIn K (.ref f15) = true)
    (x0 : excIn K C0 veMro "ValueError.__new__" = true)
    (x1 : excIn K C1 veMro "ValueError.__new__" = true)
    (x2 : excIn K C2 veMro "ValueError.__new__" = true)
    (zl : noLs K = true)
    (zc : chk K ⟨[(10, C0), (12, C1), (13, C2)], [(40, CC3)]⟩ cls fld = true)
    (zg : chkGs K ⟨[(10, C0), (12, C1), (13, C2)], [(40, CC3)]⟩ ["ValueError", "all", "bool", "enumerate", "int", "isinstance", "len", "list", "max", "min", "range", "sorted", "tuple"] [("HouseError", 10), ("NoShape", 12), ("NoName", 13)] [] = true) :
    ∃ fd : FuncData, (∀ (s : Shared) (v : Value), BindsTo s fd ⟨[v], []⟩ [("_law_script", v)]) ∧ ∀ base : Heap, K.In base → base.Ns mainGlobals mg → FnOk l.prog w K mg base (CX1 l.prog w) 17 fa fd ["_law_script"] (spLaw K) := by
  have e := hfa.symm.trans (mg_of X G a15)
  cases e
  have F15 := fun_mk (st := s_law_k53) l15 c15 k15
  have b15 := F15.binds (ps := ["_law_script"]) fun _ _ _ _ _ _ => len1 fun _ => rfl
  refine ⟨fnOf "law" "law" (defArgs s_law_k53) (defBody s_law_k53) (defScope s_law_k53) .none kV15 dc15 pm15 an15 cd15 ct15, fun s v => .of_eq rfl, fun base kb nb => ?_⟩
  have Z : Pk RU K mg base _ _ _ := ⟨RU_ok, kb, nb, zc⟩
  have g0 : GsOk l.prog w K mg base ⟨[(10, C0), (12, C1), (13, C2)], [(40, CC3)]⟩ (fun _ _ _ _ => False) 0 gs0 := plainGs_ok kb nb zg ⟨⟨C0, rfl, x0⟩, ⟨C1, rfl, x1⟩, ⟨C2, rfl, x2⟩, trivial⟩
  have g1 : GsOk l.prog w K mg base _ _ 1 gs1 _ := Z.fn (ps := ["thing"]) p0 g0 k_is_whole rfl rfl (fun _ _ _ _ _ _ _ => rfl) rfl
  have g2 : GsOk l.prog w K mg base _ _ 2 gs2 _ := Z.fn (ps := ["thing"]) p1 g1 k_is_size rfl rfl (fun _ _ _ _ _ _ _ => rfl) rfl
  have g3 : GsOk l.prog w K mg base _ _ 3 gs3 _ := Z.fn (ps := ["thing", "bound"]) p2 g2 k_is_below rfl rfl (fun _ _ _ _ _ _ _ _ => rfl) rfl
  have g4 : GsOk l.prog w K mg base _ _ 5 gs4 _ := Z.cl (ps := ["self", "moments", "houses", "counts"]) p3 g3 k_Shape_init rfl rfl rfl (fun _ _ _ _ _ _ _ _ _ _ => rfl) rfl
  have g5 : GsOk l.prog w K mg base _ _ 6 gs5 _ := Z.fn (ps := ["shape"]) p4 g4 k_names_in rfl rfl (fun _ _ _ _ _ _ _ => rfl) rfl
  have g6 : GsOk l.prog w K mg base _ _ 7 gs6 _ := Z.fn (ps := ["shape", "thing"]) p5 g5 k_is_name rfl rfl (fun _ _ _ _ _ _ _ _ => rfl) rfl
  have g7 : GsOk l.prog w K mg base _ _ 8 gs7 _ := Z.fn (ps := ["shape", "thing"]) p6 g6 k_check_name rfl rfl (fun _ _ _ _ _ _ _ _ => rfl) rfl
  have g8 : GsOk l.prog w K mg base _ _ 9 gs8 _ := Z.fn (ps := ["shape", "name"]) p7 g7 k_parts_of rfl rfl (fun _ _ _ _ _ _ _ _ => rfl) rfl
  have g9 : GsOk l.prog w K mg base _ _ 10 gs9 _ := Z.fn (ps := ["highs", "high"]) p8 g8 k_highest_two rfl rfl (fun _ _ _ _ _ _ _ _ => rfl) rfl
  have g10 : GsOk l.prog w K mg base _ _ 11 gs10 _ := Z.fn (ps := ["shape", "book"]) p9 g9 k_back_by rfl rfl (fun _ _ _ _ _ _ _ _ => rfl) rfl
  have g11 : GsOk l.prog w K mg base _ _ 12 gs11 _ := Z.fn (ps := ["_law_script", "_law_k"]) p10 g10 k_l_cell_at rfl rfl (fun _ _ _ _ _ _ _ _ => rfl) rfl
  have g12 : GsOk l.prog w K mg base _ _ 13 gs12 _ := Z.fn (ps := ["_law_cell", "_law_k"]) p11 g11 k_l_mixed rfl rfl (fun _ _ _ _ _ _ _ _ => rfl) rfl
  have g13 : GsOk l.prog w K mg base _ _ 14 gs13 _ := Z.fn (ps := ["_law_cell"]) p12 g12 k_l_digits rfl rfl (fun _ _ _ _ _ _ _ => rfl) rfl
  have g14 : GsOk l.prog w K mg base _ _ 15 gs14 _ := Z.fn (ps := ["_law_source", "_law_many"]) p13 g13 k_l_next_2 rfl rfl (fun _ _ _ _ _ _ _ _ => rfl) rfl
  have g15 : GsOk l.prog w K mg base _ _ 16 gs15 _ := Z.fn (ps := ["_law_source"]) p14 g14 k_l_shape_2 rfl rfl (fun _ _ _ _ _ _ _ => rfl) rfl
  have W15 : FnOk l.prog w K mg base (CX1 l.prog w) 17 fa _ ["_law_script"] (spN _ 1 law_k53) := fn_rule (m := 15) RU_ok (md_of (N := ["_law_script", "_law_source", "_law_shape_here", "_law_made", "_law_size", "_law_near", "_law_book", "_law_k", "_law_cell", "_law_name", "_law_found", "_law_row", "_law_j", "_law_moments", "_law_handed", "_law_told"]) (G := ["_law_digits", "_law_cell_at", "_law_shape", "Shape", "_law_next", "enumerate", "min", "range", "list", "back_by", "isinstance", "tuple", "max"]) (cel := ["_law_shape_here"]) (own := ["_law_book", "_law_found"]) (lam := none) kb nb zc g15) l15 c15 rfl rfl k_law_k53
  exact law_of (f := law_k53) zl tells W15
end NH.K53
end
section
open PySem PySem.W PyProof.Rows
set_option maxRecDepth 100000 in
set_option maxHeartbeats 0 in
theorem PySem.Challenge.cw_namehouses_k53_how_far_a_book_is_back_holds : PySem.Challenge.rw_namehouses_k53_how_far_a_book_is_back.Holds := by
  w_on; o_law; k_head; (case hw => w_witness2)
  k_fill
  refine NH.walk (l := PySem.Challenge.rw_namehouses_k53_how_far_a_book_is_back) (k := 17) (x := "_law_script") (by decide) rfl rfl (fun w h Y => PySem.W.kIn_of Y) ?F
  case F =>
    intro w mg fa h KX G hmg
    refine' NH.K53.all_mk KX G hmg ?ze0 ?ze1 ?ze2 ?zp0 ?zp1 ?zp2 ?zp3 ?zp4 ?zp5 ?zp6 ?zp7 ?zp8 ?zp9 ?zp10 ?zp11 ?zp12 ?zp13 ?zp14 ?za15 ?zl15 ?zc15 ?zk15 ?zx0 ?zx1 ?zx2 ?zzl ?zzc ?zzg
    (case ze0 => k_is)
    (case ze1 => k_is)
    (case ze2 => k_is)
    (case zp0 => exact NH.dfp (by k_is) (by k_is) (by k_is) (by k_is))
    (case zp1 => exact NH.dfp (by k_is) (by k_is) (by k_is) (by k_is))
    (case zp2 => exact NH.dfp (by k_is) (by k_is) (by k_is) (by k_is))
    (case zp3 => exact NH.clp (by k_is) (by k_is) (by k_is) (by k_is) (by k_is) (by k_is) (by k_is) (by k_is))
    (case zp4 => exact NH.dfp (by k_is) (by k_is) (by k_is) (by k_is))
    (case zp5 => exact NH.dfp (by k_is) (by k_is) (by k_is) (by k_is))
    (case zp6 => exact NH.dfp (by k_is) (by k_is) (by k_is) (by k_is))
    (case zp7 => exact NH.dfp (by k_is) (by k_is) (by k_is) (by k_is))
    (case zp8 => exact NH.dfp (by k_is) (by k_is) (by k_is) (by k_is))
    (case zp9 => exact NH.dfp (by k_is) (by k_is) (by k_is) (by k_is))
    (case zp10 => exact NH.dfp (by k_is) (by k_is) (by k_is) (by k_is))
    (case zp11 => exact NH.dfp (by k_is) (by k_is) (by k_is) (by k_is))
    (case zp12 => exact NH.dfp (by k_is) (by k_is) (by k_is) (by k_is))
    (case zp13 => exact NH.dfp (by k_is) (by k_is) (by k_is) (by k_is))
    (case zp14 => exact NH.dfp (by k_is) (by k_is) (by k_is) (by k_is))
    (case za15 => k_is)
    (case zl15 => k_is)
    (case zc15 => k_is)
    (case zk15 => k_is)
    (case zx0 => k_exc)
    (case zx1 => k_exc)
    (case zx2 => k_exc)
    (case zzl => exact rfl)
    (case zzc => exact rfl)
    (case zzg => exact rfl)
end
