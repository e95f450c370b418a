import PyProof.Rows.All
import Wide.All
import OpenK.AllK
import Wide.FinOn
import Lean
import PyProof.EqAt
import PyProof.EqKinds
import PyProof.TupleCall
import PyProof.StationsW
import PySem.Syntax
import KE.KLam
import PyProof.StrBlockH
import KE.KRevIter
import PyProof.JoinWalk
import PyProof.CollectIter
import PyProof.StrCalls
import PyProof.DictStraight
import PyProof.Rows.Range3
import PyProof.StrWalks
import PyProof.LongRange
import KE.KTryMore
import KE.KItem
import PyProof.NsDelKeeps
import PyProof.DictTable
import PyProof.WalkInts
import PyProof.Rows.SortStr
import PyProof.Rows.SortWalk
import PyProof.EnumMake
import PyProof.EnumFor
import KE.KRevSl
import PyProof.Rows.StrNews
import KE.KMinBuiltin
import KE.KSortKey
import PyProof.ZipIter
import PyProof.ExcInit
import PyProof.ExcClass2
import PyProof.InstStoreFacts
import PyProof.FString
import KE.LcSums
import KE.BitLaws
import PyProof.Rows.StrFit
import PyProof.StrLawsTight
import PyProof.Rows.StrSplitAre
import PySem.Challenge.RW_namehouses_k83_books_as_texts
set_option Elab.async false
def PySem.W.Fast.tw3501006602946647439 : Nat := 0
def PySem.W.Fast.tw1339628406998208518 : Nat := 0
def PySem.W.Fast.tw2874291277625029590 : Nat := 0
def PySem.W.Fast.tw8368204341511421771 : Nat := 0
def PySem.W.Fast.tw4182149252233714622 : Nat := 0
def PySem.W.Fast.tw2499504068334937630 : Nat := 0
def PySem.W.Fast.tw3310272326472254587 : Nat := 0
def PySem.W.Fast.tw6608597931843768388 : Nat := 0
def PySem.W.Fast.tw9713194418370878353 : Nat := 0
def PySem.W.Fast.tw2673416744172383353 : Nat := 0
def PySem.W.Fast.tw2078792311193263961 : Nat := 0
def PySem.W.Fast.tw15464260288183685634 : Nat := 0
def PySem.W.Fast.tw14359469908095853435 : Nat := 0
def PySem.W.Fast.tw429760331580731838 : Nat := 0
def PySem.W.Fast.tw2649820398312636995 : Nat := 0
def PySem.W.Fast.tw8076017488432325957 : Nat := 0
def PySem.W.Fast.tw16979801196249432449 : Nat := 0
def PySem.W.Fast.tw15763803457440049967 : Nat := 0
def PySem.W.Fast.tw7988177493314092365 : Nat := 0
def PySem.W.Fast.tw2275424381631316206 : Nat := 0
def PySem.W.Fast.tw11325560017189382029 : Nat := 0
def PySem.W.Fast.tw15586328206345049711 : Nat := 0
def PySem.W.Fast.tw8172255244524182599 : Nat := 0
def PySem.W.Fast.tw18298108915452426739 : Nat := 0
def PySem.W.Fast.tw15475713925318311943 : Nat := 0
def PySem.W.Fast.tw4162984234228328153 : Nat := 0
def PySem.W.Fast.tw11162567246593773473 : Nat := 0
def PySem.W.Fast.tw15623013196652274951 : Nat := 0
def PySem.W.Fast.tw1280805477997830717 : Nat := 0
def PySem.W.Fast.tw18364912558597181319 : Nat := 0
def PySem.W.Fast.tw12976793143290683366 : Nat := 0
def PySem.W.Fast.tw8958903069006896313 : Nat := 0
def PySem.W.Fast.tw5573749588308895370 : Nat := 0
def PySem.W.Fast.tw15684793467922804650 : Nat := 0
def PySem.W.Fast.tw14749503599135400679 : Nat := 0
def PySem.W.Fast.tw11205982926470280705 : Nat := 0
def PySem.W.Fast.tw2888297751299912616 : Nat := 0
def PySem.W.Fast.tw18369622849282038745 : Nat := 0
def PySem.W.Fast.tw2279777795462199605 : Nat := 0
def PySem.W.Fast.tw17738697168745015493 : Nat := 0
def PySem.W.Fast.tw5898514335668963707 : Nat := 0
def PySem.W.Fast.tw18156910760308123429 : Nat := 0
def PySem.W.Fast.tw17385016234726386114 : Nat := 0
def PySem.W.Fast.tw8967281892016633228 : Nat := 0
def PySem.W.Fast.tw6761573700075337843 : Nat := 0
def PySem.W.Fast.tw6883513319613217748 : Nat := 0
def PySem.W.Fast.tw13204767750357087106 : Nat := 0
def PySem.W.Fast.tw721936849075348013 : Nat := 0
def PySem.W.Fast.tw8577725434300695400 : Nat := 0
def PySem.W.Fast.tw4573101996742421128 : Nat := 0
def PySem.W.Fast.tw719997656180521901 : Nat := 0
def PySem.W.Fast.tw13036379744148752073 : Nat := 0
def PySem.W.Fast.tw13916432320095855008 : Nat := 0
def PySem.W.Fast.tw8363912537599972324 : Nat := 0
def PySem.W.Fast.tw16884920304776103554 : Nat := 0
def PySem.W.Fast.tw756511604893286426 : Nat := 0
def PySem.W.Fast.tw1762979260867934899 : Nat := 0
def PySem.W.Fast.tw6969230774366740507 : Nat := 0
def PySem.W.Fast.tw8005518479254539185 : Nat := 0
def PySem.W.Fast.tw14294957200921642031 : Nat := 0
def PySem.W.Fast.tw10496149158090942948 : Nat := 0
def PySem.W.Fast.tw17297600205380290427 : Nat := 0
def PySem.W.Fast.tw6684612162619676462 : Nat := 0
def PySem.W.Fast.tw3389822895755515582 : Nat := 0
def PySem.W.Fast.tw16131514191121861793 : Nat := 0
def PySem.W.Fast.tw6457299076521473361 : Nat := 0
def PySem.W.Fast.tw8414824723321776944 : Nat := 0
def PySem.W.Fast.tw10132884340375429266 : Nat := 0
def PySem.W.Fast.tw15129963987960614216 : Nat := 0
def PySem.W.Fast.tw17294149844804939020 : Nat := 0
def PySem.W.Fast.tw10964096196725783478 : Nat := 0
def PySem.W.Fast.tw12387483882188475498 : Nat := 0
def PySem.W.Fast.tw9237158398591675805 : Nat := 0
def PySem.W.Fast.tw10512491650741852213 : Nat := 0
def PySem.W.Fast.tw13813532274804840761 : Nat := 0
def PySem.W.Fast.tw16632457624276731801 : Nat := 0
def PySem.W.Fast.tw15622620629452685032 : Nat := 0
def PySem.W.Fast.tw4629096246817583498 : Nat := 0
def PySem.W.Fast.tw14796790582345135788 : Nat := 0
def PySem.W.Fast.tw17778511088911090362 : Nat := 0
def PySem.W.Fast.tw16008105260970546972 : Nat := 0
def PySem.W.Fast.tw4155887002003121083 : Nat := 0
def PySem.W.Fast.tw10040985687074020982 : Nat := 0
def PySem.W.Fast.tw5055201224936553291 : Nat := 0
def PySem.W.Fast.tw3028917680226493476 : Nat := 0
def PySem.W.Fast.tw16751253138470363476 : Nat := 0
def PySem.W.Fast.tw15108732611924548178 : Nat := 0
def PySem.W.Fast.tw10028018925561008551 : Nat := 0
def PySem.W.Fast.tw5751389617223553440 : Nat := 0
def PySem.W.Fast.tw3003648547734220422 : Nat := 0
def PySem.W.Fast.tw7100726905874138949 : Nat := 0
section
set_option Elab.async false
set_option linter.all false
set_option maxRecDepth 100000
namespace L2
open PySem PySem.Spec PyProof.Rows
abbrev Key := Sum Int Str
def keyIs : Key → Value → Bool
  | .inl k, v => Value.isInt k v
  | .inr x, v => Value.isStrOf x v
def keyH (w : World) : Key → Int
  | .inl k => hashInt k
  | .inr x => hashStr w x
theorem keyIs_shape : ∀ {k : Key} {v : Value}, keyIs k v = true → (∃ i t, k = Sum.inl i ∧ v = Value.int i t) ∨ (∃ x t, k = Sum.inr x ∧ v = Value.str x t)
  | .inl i, v, h => by
    obtain ⟨t, e⟩ := Value.isInt_shape (k := i) (v := v) h
    exact .inl ⟨i, t, rfl, e⟩
  | .inr x, v, h => by
    obtain ⟨t, e⟩ := Value.isStrOf_shape (x := x) (v := v) h
    exact .inr ⟨x, t, rfl, e⟩
theorem key_ll (a b : Int) : decide ((Sum.inl a : Key) = Sum.inl b) = (a == b) := by
  by_cases e : a = b
  · subst e; simp
  · have h : ¬ (Sum.inl a : Key) = Sum.inl b := fun q => e (Sum.inl.inj q)
    rw [decide_eq_false h]
    exact (beq_eq_false_iff_ne.mpr e).symm
theorem key_rr (a b : Str) : decide ((Sum.inr a : Key) = Sum.inr b) = decide (a = b) := by
  by_cases e : a = b
  · subst e; simp
  · have h : ¬ (Sum.inr a : Key) = Sum.inr b := fun q => e (Sum.inr.inj q)
    rw [decide_eq_false h, decide_eq_false e]
theorem key_lr (a : Int) (b : Str) : decide ((Sum.inl a : Key) = Sum.inr b) = false := decide_eq_false (fun q => nomatch q)
theorem key_rl (a : Str) (b : Int) : decide ((Sum.inr a : Key) = Sum.inl b) = false := decide_eq_false (fun q => nomatch q)
def mixKind (prog : Program) (w : World) : PySem.KeyKind prog w Key where
  is := keyIs
  hash := keyH w
  inj := fun v a b ha hb => by
    rcases keyIs_shape ha with ⟨i, t, rfl, rfl⟩ | ⟨x, t, rfl, rfl⟩
    · rcases keyIs_shape hb with ⟨j, u, rfl, e⟩ | ⟨y, u, rfl, e⟩
      · injection e with e1 _; rw [e1]
      · exact nomatch e
    · rcases keyIs_shape hb with ⟨j, u, rfl, e⟩ | ⟨y, u, rfl, e⟩
      · exact nomatch e
      · injection e with e1 _; rw [e1]
  byValue := fun k v h => by
    rcases keyIs_shape h with ⟨i, t, rfl, rfl⟩ | ⟨x, t, rfl, rfl⟩ <;> rfl
  pyHash := fun hv h => by
    rcases keyIs_shape hv with ⟨i, t, rfl, rfl⟩ | ⟨x, t, rfl, rfl⟩
    · exact wpAny_pyHash_int h
    · exact wpAny_pyHash_str h
  eqBool := fun hu hv h => by
    rcases keyIs_shape hu with ⟨i, t, rfl, rfl⟩ | ⟨x, t, rfl, rfl⟩
    · rcases keyIs_shape hv with ⟨j, u, rfl, rfl⟩ | ⟨y, u, rfl, rfl⟩
      · rw [key_ll] at h; exact wpAny_eqBool_int h
      · rw [key_lr] at h; exact SeqAt.EqAt.int_str i t y u _ _ _ _ h
    · rcases keyIs_shape hv with ⟨j, u, rfl, rfl⟩ | ⟨y, u, rfl, rfl⟩
      · rw [key_rl] at h; exact SeqAt.EqAt.str_int x t j u _ _ _ _ h
      · rw [key_rr] at h; exact wpAny_eqBool_str h
  «strs» := fun k x t v h => by
    rcases keyIs_shape h with ⟨i, u, rfl, e⟩ | ⟨y, u, rfl, e⟩
    · exact nomatch e
    · injection e with e1 _
      subst e1
      cases v <;> rfl
end L2
namespace L2
open PySem PySem.Spec PyProof.Rows
inductive V where
  | non | bl (b : Bool) | int (i : Int) | str (x : Str) | byt (b : Array UInt8) | flt (b : UInt64) | ref (a : Addr) | ty (n : String)
  deriving DecidableEq
def RelV : V → Value → Prop
  | .non, u => u = Value.none
  | .bl b, u => u = Value.bool b
  | .int i, u => ∃ t, u = Value.int i t
  | .str x, u => ∃ t, u = Value.str x t
  | .byt b, u => ∃ t, u = Value.bytes b t
  | .flt b, u => ∃ t, u = Value.float b t
  | .ref a, u => u = Value.ref a
  | .ty n, u => u = Value.type n
abbrev Vals : List V → List Value → Prop := Paired RelV
theorem Vals.length {xs : List V} {us : List Value} (r : Vals xs us) : xs.length = us.length := Paired.length r
theorem Vals.get : ∀ {xs : List V} {us : List Value} {i : Nat} {x : V}, Vals xs us → xs[i]? = some x → ∃ u, us[i]? = some u ∧ RelV x u
  | _, _, _, _, .nil, e => by simp at e
  | _, _, 0, _, .cons r _, e => by simp at e; subst e; exact ⟨_, rfl, r⟩
  | _, _, i + 1, x, .cons _ t, e => by
    obtain ⟨u, h1, h2⟩ := Vals.get (i := i) (x := x) t (by simpa using e)
    exact ⟨u, by simpa using h1, h2⟩
theorem Vals.set {x : V} {u : Value} (r : RelV x u) : ∀ {xs : List V} {us : List Value} (i : Nat), Vals xs us → Vals (xs.set i x) (us.set i u)
  | _, _, _, .nil => .nil
  | _, _, 0, .cons _ t => .cons r t
  | _, _, i + 1, .cons q t => .cons q (Vals.set r i t)
theorem Vals.append : ∀ {xs ys : List V} {us ws : List Value}, Vals xs us → Vals ys ws → Vals (xs ++ ys) (us ++ ws)
  | _, _, _, _, .nil, s => s
  | _, _, _, _, .cons r t, s => .cons r (Vals.append t s)
theorem Vals.take : ∀ {xs : List V} {us : List Value} (n : Nat), Vals xs us → Vals (xs.take n) (us.take n)
  | _, _, 0, _ => .nil
  | _, _, _ + 1, .nil => .nil
  | _, _, n + 1, .cons r t => .cons r (Vals.take n t)
theorem Vals.drop : ∀ {xs : List V} {us : List Value} (n : Nat), Vals xs us → Vals (xs.drop n) (us.drop n)
  | _, _, 0, r => r
  | _, _, _ + 1, .nil => .nil
  | _, _, n + 1, .cons _ t => Vals.drop n t
def RelO : Option V → Option Value → Prop
  | some v, some u => RelV v u
  | none, none => True
  | _, _ => False
def KV {κ : Type} : List (κ × V) → List (κ × Value) → Prop := Paired fun (p : κ × V) (q : κ × Value) => p.1 = q.1 ∧ RelV p.2 q.2
def kV : Key → V
  | .inl i => .int i
  | .inr x => .str x
inductive HO where
  | lst (xs : List V)
  | tup (xs : List V)
  | dK (kvs : List (Key × V)) | dT (kvs : List (List Key × V))
  | set (S : Int → Bool) (n : Nat)
  | ins (C dx : Addr) (fs : List (Str × V))
  | own (x : Addr)
  | xd (fs : List (Str × V))
  | met (f x : Addr)
  | rng (lo hi : Int)
  | frz (o : Obj) (u : HO)
  | tbl (ps : Array Value)
  | ext (φ : Heap → Prop)
abbrev Hp := Addr → Option HO
def upd (H : Hp) (a : Addr) (o : HO) : Hp := fun b => if b = a then some o else H b
theorem upd_same {H : Hp} {a : Addr} {o : HO} : upd H a o a = some o := by unfold upd; rw [if_pos rfl]
theorem upd_ne {H : Hp} {a b : Addr} {o : HO} (h : b ≠ a) : upd H a o b = H b := by unfold upd; rw [if_neg h]
theorem upd_upd {H : Hp} {a : Addr} {o u : HO} : upd (upd H a o) a u = upd H a u := by
  funext b; unfold upd; split <;> rfl
theorem ne_of_none {H : Hp} {a b : Addr} {o : HO} (h : H a = some o) (h' : H b = none) : a ≠ b := by
  intro e; subst e; rw [h] at h'; cases h'
section
variable (P : Program) (w : World)
def ObjOk (H : Hp) (h : Heap) (a : Addr) : HO → Prop
  | .lst xs => xs.length ≤ sizeLine ∧ ∃ (its : List Value) (n : Nat), Vals xs its ∧ h.get? a = some { cls := .type "list", data := .seq its.toArray n }
  | .tup xs => xs.length ≤ sizeLine ∧ ∃ its : List Value, Vals xs its ∧ IsTup h a its.toArray
  | .dK kvs => kvs.length ≤ sizeLine ∧ (a == sysModules) = false ∧ ∃ vs, KV kvs vs ∧ h.DictOf (mixKind P w) a vs
  | .dT kvs => kvs.length ≤ sizeLine ∧ (a == sysModules) = false ∧ ∃ xs : List (List Key × Addr × Value),
      Paired (fun (p : List Key × V) (q : List Key × Addr × Value) => p.1 = q.1 ∧ H q.2.1 = some (.tup (p.1.map kV)) ∧ RelV p.2 q.2.2) kvs xs ∧
      ∃ o es ep, h.get? a = some o ∧ o.ExactDict ∧ o.data = .dict es ep ∧ es.toList = xs.map (entryOfKey (tupleKind (mixKind P w))) ∧ (xs.map (·.1)).Nodup
  | .set S n => h.SetOf (intKind P w) a S n
  | .ins C dx fs => H dx = some (.own a) ∧ fs.length ≤ 1000 ∧ dx ≠ a ∧ h.get? a = some (PySem.W.instObj C dx) ∧
      ∃ mA, h.Ns1 dx mA ∧ (∀ f, RelO (fs.lookup f) (mA f)) ∧ PySem.Within mA (fs.map (·.1))
  | .own _ => ∃ o, h.get? a = some o
  | .xd fs => ∃ mA, h.Ns1 a mA ∧ ∀ f, RelO (fs.lookup f) (mA f)
  | .rng lo hi => ∃ t u v, h.get? a = some { cls := .type "range", data := .fields #[.int lo t, .int hi u, .int 1 v] }
  | .frz o u => h.get? a = some o ∧ ObjOk H h a u
  | .tbl ps => h.get? a = some { cls := .none, data := .fields ps }
  | .met f x => h.get? a = some (PySem.W.methodObj (.ref f) (.ref x))
  | .ext φ => φ h ∧ (∃ o, h.get? a = some o) ∧ ∀ h1 h2 : Heap, φ h1 → (∀ o, h1.get? a = some o → h2.get? a = some o) → φ h2
def HOk (H : Hp) (h : Heap) : Prop := ∀ a o, H a = some o → ObjOk P w H h a o
end
section
variable {P : Program} {w : World} {H H' : Hp} {h h' : Heap} {a : Addr} {o : HO}
theorem ObjOk.lt (x : ObjOk P w H h a o) : a < h.objs.size := by
  cases o with
  | lst xs => obtain ⟨_, _, _, _, e⟩ := x; exact Heap.lt_size e
  | tup xs => obtain ⟨_, _, _, p⟩ := x; exact p.lt
  | dK kvs => obtain ⟨_, _, _, _, o, _, _, e, _⟩ := x; exact Heap.lt_size e
  | dT kvs => obtain ⟨_, _, _, _, o, _, _, e, _⟩ := x; exact Heap.lt_size e
  | set S n => obtain ⟨o, _, _, _, e, _⟩ := x; exact Heap.lt_size e
  | ins C dx fs => obtain ⟨_, _, _, e, _⟩ := x; exact Heap.lt_size e
  | own y => obtain ⟨_, e⟩ := x; exact Heap.lt_size e
  | xd fs => obtain ⟨_, ⟨_, _, _, e, _⟩, _⟩ := x; exact Heap.lt_size e
  | rng lo hi => obtain ⟨_, _, _, e⟩ := x; exact Heap.lt_size e
  | frz ob u => obtain ⟨e, _⟩ := x; exact Heap.lt_size e
  | tbl ps => exact Heap.lt_size (show h.get? a = some _ from x)
  | met f y => exact Heap.lt_size (show h.get? a = some _ from x)
  | ext φ => obtain ⟨_, ⟨_, e⟩, _⟩ := x; exact Heap.lt_size e
theorem Paired.mapP {α β : Type} {F G : α → β → Prop} : ∀ {l₁ : List α} {l₂ : List β}, Paired F l₁ l₂ → (∀ a b, F a b → G a b) → Paired G l₁ l₂
  | _, _, .nil, _ => .nil
  | _, _, .cons r t, f => .cons (f _ _ r) (Paired.mapP t f)
theorem ObjOk.stay (x : ObjOk P w H h a o) (k : ∀ b u, (b = a ∨ H b = some (.own a)) → h.get? b = some u → h'.get? b = some u)
    (ho : ∀ b, H b = some (.own a) → H' b = some (.own a)) (ht : ∀ b xs, H b = some (.tup xs) → H' b = some (.tup xs)) : ObjOk P w H' h' a o := by
  induction o with
  | lst xs => obtain ⟨z, its, n, r, e⟩ := x; exact ⟨z, its, n, r, k _ _ (.inl rfl) e⟩
  | tup xs => obtain ⟨z, its, r, ob, e, c⟩ := x; exact ⟨z, its, r, ob, k _ _ (.inl rfl) e, c⟩
  | dK kvs => obtain ⟨z, y, vs, r, ob, es, ep, e, c⟩ := x; exact ⟨z, y, vs, r, ob, es, ep, k _ _ (.inl rfl) e, c⟩
  | dT kvs =>
    obtain ⟨z, y, xs, r, ob, es, ep, e, c⟩ := x
    exact ⟨z, y, xs, Paired.mapP r fun p q z => ⟨z.1, ht _ _ z.2.1, z.2.2⟩, ob, es, ep, k _ _ (.inl rfl) e, c⟩
  | set S n => obtain ⟨ob, es, ep, t, e, c⟩ := x; exact ⟨ob, es, ep, t, k _ _ (.inl rfl) e, c⟩
  | ins C dx fs =>
    obtain ⟨d, z, ne, e, mA, ⟨od, es, ep, e2, c⟩, r⟩ := x
    exact ⟨ho _ d, z, ne, k _ _ (.inl rfl) e, mA, ⟨od, es, ep, k _ _ (.inr d) e2, c⟩, r⟩
  | own y => obtain ⟨ob, e⟩ := x; exact ⟨ob, k _ _ (.inl rfl) e⟩
  | xd fs => obtain ⟨mA, ⟨od, es, ep, e, c⟩, r⟩ := x; exact ⟨mA, ⟨od, es, ep, k _ _ (.inl rfl) e, c⟩, r⟩
  | rng lo hi => obtain ⟨t, u, v, e⟩ := x; exact ⟨t, u, v, k _ _ (.inl rfl) e⟩
  | frz ob u ih => obtain ⟨e, q⟩ := x; exact ⟨k _ _ (.inl rfl) e, ih q⟩
  | tbl ps =>
    have e : h.get? a = some { cls := .none, data := .fields ps } := x
    show h'.get? a = some { cls := .none, data := .fields ps }
    exact k a _ (.inl rfl) e
  | met f y =>
    have e : h.get? a = some (PySem.W.methodObj (.ref f) (.ref y)) := x
    show h'.get? a = some (PySem.W.methodObj (.ref f) (.ref y))
    exact k a _ (.inl rfl) e
  | ext φ => obtain ⟨p, ⟨o, e⟩, st⟩ := x; exact ⟨st _ _ p fun o q => k _ _ (.inl rfl) q, ⟨o, k _ _ (.inl rfl) e⟩, st⟩
theorem HOk.lt (x : HOk P w H h) (e : H a = some o) : a < h.objs.size := (x a o e).lt
theorem HOk.fresh (x : HOk P w H h) (e : h.objs.size ≤ a) : H a = none := by
  cases q : H a with
  | none => rfl
  | some u => exact absurd (Nat.lt_of_lt_of_le (x.lt q) e) (Nat.lt_irrefl _)
theorem HOk.kept (x : HOk P w H h) (k : ∀ b u, h.get? b = some u → h'.get? b = some u) : HOk P w H h' := fun a o e =>
  (x a o e).stay (fun b u _ q => k b u q) (fun _ q => q) fun _ _ q => q
theorem HOk.laid (x : HOk P w H h) (k : ∀ b u, h.get? b = some u → h'.get? b = some u) (hp : h.objs.size ≤ a) (new : ObjOk P w (upd H a o) h' a o) : HOk P w (upd H a o) h' := fun b u e => by
  have hn := x.fresh hp
  by_cases hb : b = a
  · subst hb; rw [upd_same] at e; cases e; exact new
  · rw [upd_ne hb] at e
    exact (x b u e).stay (fun c v _ q => k c v q) (fun c q => by rw [upd_ne (ne_of_none q hn)]; exact q) fun c xs q => by rw [upd_ne (ne_of_none q hn)]; exact q
end
def Rd (H : Hp) (a : Addr) (u : HO) : Prop := H a = some u ∨ ∃ o, H a = some (.frz o u)
theorem Rd.ok {P : Program} {w : World} {H : Hp} {h : Heap} {a : Addr} {u : HO} (r : Rd H a u) (x : HOk P w H h) : ObjOk P w H h a u := by
  rcases r with r | ⟨o, r⟩
  · exact x a u r
  · obtain ⟨_, q⟩ := x a _ r
    exact q
def Mut : Option HO → Prop
  | some (.lst _) => True
  | some (.dK _) => True
  | some (.dT _) => True
  | some (.set _ _) => True
  | some (.ins _ _ _) => True
  | some (.ext _) => True
  | _ => False
section
variable {P : Program} {w : World} {H : Hp} {h h' : Heap} {x e : Addr} {o' : HO}
theorem HOk.write (ok : HOk P w H h) (mu : Mut (H x)) (he : e = x ∨ H e = some (.own x)) (k : ∀ b u, b ≠ e → h.get? b = some u → h'.get? b = some u) (heo : ∃ u, h'.get? e = some u)
    (new : ObjOk P w (upd H x o') h' x o') : HOk P w (upd H x o') h' := fun b u q => by
  have nown : ∀ c y, H c = some (.own y) → c ≠ x := fun c y r z => by subst z; rw [r] at mu; exact mu
  have ntup : ∀ c xs, H c = some (.tup xs) → c ≠ x := fun c xs r z => by subst z; rw [r] at mu; exact mu
  by_cases hb : b = x
  · subst hb; rw [upd_same] at q; cases q; exact new
  · rw [upd_ne hb] at q
    by_cases hbe : b = e
    · have q' : H b = some (.own x) := by
        rcases he with z | z
        · exact absurd (hbe.trans z) hb
        · rw [hbe]; exact z
      rw [q] at q'; cases q'
      obtain ⟨v, hv⟩ := heo
      exact ⟨v, by rw [hbe]; exact hv⟩
    · refine (ok b u q).stay (fun c v hc r => k c v ?_ r) (fun c r => by rw [upd_ne (nown c b r)]; exact r) fun c xs r => by rw [upd_ne (ntup c xs r)]; exact r
      rcases hc with rfl | hc
      · exact hbe
      · rintro rfl
        rcases he with z | z
        · exact nown c b hc z
        · rw [hc] at z; cases z; exact hb rfl
end
structure Un (fs ex : List Addr) (H H' : Hp) (h h' : Heap) : Prop where
  keep : ∀ b o, h.get? b = some o → H b = none → b ∉ fs → b ∉ ex → h'.get? b = some o
  slot : ∀ b o, h.get? b = some o → H b = none → b ∈ fs → b ∉ ex → ∃ sl, h'.get? b = some { o with slots := sl }
  free : ∀ b o, h.get? b = some o → H b = none → b ∉ ex → H' b = none
  there : ∀ b o, h.get? b = some o → b ∉ ex → ∃ o', h'.get? b = some o'
  tups : ∀ b xs, H b = some (.tup xs) → H' b = some (.tup xs)
  frzs : ∀ b o u, H b = some (.frz o u) → H' b = some (.frz o u)
  tbls : ∀ b ps, H b = some (.tbl ps) → ∃ more, H' b = some (.tbl (ps ++ more))
section
variable {fs fs' ex ex' : List Addr} {H H1 H2 : Hp} {h h1 h2 h' : Heap} {a x e : Addr} {o : HO}
theorem Un.any (u : Un fs ex H H1 h h1) {b : Addr} {ob : Obj} (q : h.get? b = some ob) (n : H b = none) (hx : b ∉ ex) : ∃ sl, h1.get? b = some { ob with slots := sl } := by
  by_cases hb : b ∈ fs
  · exact u.slot b ob q n hb hx
  · exact ⟨ob.slots, u.keep b ob q n hb hx⟩
theorem Un.kept (k : ∀ b u, h.get? b = some u → h'.get? b = some u) : Un fs ex H H h h' :=
  ⟨fun b ob q _ _ _ => k b ob q, fun b ob q _ _ _ => ⟨ob.slots, k b ob q⟩, fun _ _ _ n _ => n, fun b ob q _ => ⟨ob, k b ob q⟩, fun _ _ q => q, fun _ _ _ q => q, fun _ ps q => ⟨#[], by rw [q]; simp⟩⟩
theorem Un.refl : Un fs ex H H h h := Un.kept fun _ _ q => q
theorem Un.laid (k : ∀ b u, h.get? b = some u → h'.get? b = some u) (hp : h.objs.size ≤ a) (hn : H a = none) : Un fs ex H (upd H a o) h h' where
  keep := fun b u q _ _ _ => k b u q
  slot := fun b u q _ _ _ => ⟨u.slots, k b u q⟩
  free := fun b u q n _ => by rw [upd_ne (Nat.ne_of_lt (Nat.lt_of_lt_of_le (Heap.lt_size q) hp))]; exact n
  there := fun b u q _ => ⟨u, k b u q⟩
  tups := fun b xs q => by rw [upd_ne (ne_of_none q hn)]; exact q
  frzs := fun b u xs q => by rw [upd_ne (ne_of_none q hn)]; exact q
  tbls := fun b ps q => ⟨#[], by rw [upd_ne (ne_of_none q hn), q]; simp⟩
theorem Un.write (mu : Mut (H x)) (he : e = x ∨ H e = some (.own x)) (k : ∀ b u, b ≠ e → h.get? b = some u → h'.get? b = some u) (heo : ∃ u, h'.get? e = some u) : Un fs ex H (upd H x o) h h' := by
  have hx : ∀ b, H b = none → b ≠ x := fun b n z => by subst z; rw [n] at mu; exact mu
  have hb : ∀ b, H b = none → b ≠ e := fun b n z => by
    subst z
    rcases he with r | r
    · exact hx b n r
    · rw [n] at r; cases r
  have hm : ∀ b u, H b = some u → ¬ Mut (some u) → b ≠ x := fun b u q nm z => by subst z; rw [q] at mu; exact nm mu
  refine ⟨fun b u q n _ _ => k b u (hb b n) q, fun b u q n _ _ => ⟨u.slots, k b u (hb b n) q⟩, fun b u q n _ => by rw [upd_ne (hx b n)]; exact n, fun b u q _ => ?_,
    fun b xs q => by rw [upd_ne (hm b _ q fun z => z)]; exact q, fun b u xs q => by rw [upd_ne (hm b _ q fun z => z)]; exact q, fun b ps q => ⟨#[], by rw [upd_ne (hm b _ q fun z => z), q]; simp⟩⟩
  by_cases hbe : b = e
  · subst hbe; exact heo
  · exact ⟨u, k b u hbe q⟩
end
def trk (h : Heap) (H : Hp) : List Addr := (List.range h.objs.size).filter fun a => (H a).isSome
def hidT (h : Heap) (H : Hp) : Heap := PySem.W.hideAll h (trk h H)
theorem hidT_size (h : Heap) (H : Hp) : (hidT h H).objs.size = h.objs.size := PySem.W.hideAll_size _ _
theorem hidT_get {h : Heap} {H : Hp} {b : Addr} {o : Obj} (e : h.get? b = some o) (n : H b = none) : (hidT h H).get? b = some o :=
  PySem.W.hideAll_get _ e fun hm => by
    have q : (H b).isSome = true := (List.mem_filter.mp hm).2
    rw [n] at q; simp at q
theorem of_hidT {h : Heap} {H : Hp} {b : Addr} {o : Obj} (e : (hidT h H).get? b = some o) : h.get? b = some o ∧ H b = none := by
  have e' : h.get? b = some o := PySem.W.of_hideAll (trk h H) e
  refine ⟨e', ?_⟩
  cases q : H b with
  | none => rfl
  | some x =>
    have hm : b ∈ trk h H := List.mem_filter.mpr ⟨List.mem_range.mpr (Heap.lt_size e'), by simp [q]⟩
    have z : (hidT h H).get? b = none := PySem.W.hideAll_none (trk h H) hm
    rw [z] at e; cases e
def allNews (g h : Heap) (L : Addr) : List (Addr × Obj) := (List.range h.objs.size).filterMap fun a => if a = L ∨ (g.get? a).isSome = true then none else (h.get? a).map fun o => (a, o)
def rest (g h : Heap) (L d : Addr) : List (Addr × Obj) := (allNews g h L).filter fun p => decide (p.1 ≠ d)
end L2
namespace L2
open PySem PySem.Spec PyProof.Rows
structure Mod (K : PySem.W.Frag) (mg : Str → Option Value) (base : Heap) : Prop where
  kin : K.In base
  glob : base.Ns mainGlobals mg
  blt : ∃ mb, base.Ns builtinsNs mb ∧ ∀ x : Str, x ≠ "__name__" → mb x = bootBuiltins x
  nolimit : base.NoLimit
structure Cx where
  prog : Program
  w : World
  K : PySem.W.Frag
  mg : Str → Option Value
  base : Heap
  A : Around
  N : List Str
  s₀ : Shared
  H₀ : Hp
  env : Env
  outer : List Env
  stack : List Env
  ex : List Addr
  fn : Str → Bool
  calm : Bool
  pn : List (Addr × Obj)
  xe : Value → Shared → Prop
def frs (l : List Env) : List Addr := l.filterMap (·.frame)
abbrev Cx.fs (X : Cx) : List Addr := frs X.outer
def Vis (sc : Scope) (x : Str) : Prop := sc.names.lookup x = some .local ∨ sc.names.lookup x = some .cell ∨ sc.names.lookup x = some .free
def Loc (sc : Scope) (x : Str) : Prop := sc.names.lookup x = some .local ∨ sc.names.lookup x = some .cell
def Look (env : Env) (h : Heap) (m : Str → Option Value) (x : Str) (u : Value) : Prop :=
  (env.kindOf x = some .local ∧ m x = some u) ∨ ((env.kindOf x = some .cell ∨ env.kindOf x = some .free) ∧ ∃ c, env.cells.lookup x = some c ∧ h.IsCell c (some u))
structure Cx.Ok (X : Cx) : Prop where
  mod : Mod X.K X.mg X.base
  kind : X.env.scope.kind = .function
  glob : X.env.globals = mainGlobals
  blt : X.env.builtins = builtinsNs
  above : X.s₀.heap.objs.size ≤ X.env.locals
  inj : ∀ x y c, X.env.cells.lookup x = some c → X.env.cells.lookup y = some c → x = y
  has : ∀ x, (X.env.kindOf x = some .cell ∨ X.env.kindOf x = some .free) → ∃ c, X.env.cells.lookup x = some c
  cab : ∀ x c, X.fn x = true → X.env.cells.lookup x = some c → X.s₀.heap.objs.size ≤ c
  hd : X.calm = true → X.A.handled = none
  frames : X.A.frames = some X.stack
  stk : X.stack = X.outer ∨ (X.stack = X.env :: X.outer ∧ X.env.frame = some X.env.locals)
  exf : ∀ b ∈ X.ex, b ≠ X.env.locals ∧ ∀ x c, X.env.cells.lookup x = some c → c ≠ b
  bs : ∀ b o, X.base.get? b = some o → X.s₀.heap.get? b = some o ∧ X.H₀ b = none
  bsz : X.base.objs.size ≤ X.s₀.heap.objs.size
  noex : ∀ b o, X.base.get? b = some o → b ∉ X.ex
  exfs : ∀ b ∈ X.ex, b ∉ X.fs
  funs : X.s₀.heap.FunFrames X.base X.outer
  frf : ∀ b ∈ X.fs, X.H₀ b = none
structure Inv (X : Cx) (pins : List (Addr × Obj)) (σ : List (Option V)) (H : Hp) (s : Shared) : Prop where
  ok : X.Ok
  os : s.os = X.s₀.os
  bare : AllBare s.gens
  base : Un X.fs X.ex X.H₀ H X.s₀.heap s.heap
  loc : ∃ m, s.heap.Ns X.env.locals m ∧ ∀ (i : Nat) (x : Str) (v : V), X.N[i]? = some x → σ[i]? = some (some v) → Vis X.env.scope x → ∃ u, RelV v u ∧ Look X.env s.heap m x u
  cell : ∀ x c, X.env.cells.lookup x = some c → ∃ v, s.heap.IsCell c v
  free : H X.env.locals = none
  freeC : ∀ x c, X.env.cells.lookup x = some c → H c = none
  pin : ∀ p ∈ X.pn ++ pins, s.heap.get? p.1 = some p.2 ∧ H p.1 = none ∧ p.1 ≠ X.env.locals ∧ p.1 ∉ X.fs ∧ ∀ v, p.2.data ≠ .cell v
  hok : HOk X.prog X.w H s.heap
  len : σ.length = X.N.length
section
variable {X : Cx} {pins : List (Addr × Obj)} {σ : List (Option V)} {H H' : Hp} {s : Shared} {h' : Heap}
theorem Cx.Ok.nofr (ok : X.Ok) {b : Addr} {o : Obj} (e : X.base.get? b = some o) : b ∉ X.fs := fun hb => by
  have := (ok.funs.mem hb).1
  rw [e] at this; cases this
theorem Inv.bs (I : Inv X pins σ H s) : ∀ b o, X.base.get? b = some o → s.heap.get? b = some o ∧ H b = none := fun b o e =>
  ⟨I.base.keep b o (I.ok.bs b o e).1 (I.ok.bs b o e).2 (I.ok.nofr e) (I.ok.noex b o e), I.base.free b o (I.ok.bs b o e).1 (I.ok.bs b o e).2 (I.ok.noex b o e)⟩
theorem Inv.bk (I : Inv X pins σ H s) : ∀ b o, X.base.get? b = some o → s.heap.get? b = some o := fun b o e => (I.bs b o e).1
theorem Inv.mod (I : Inv X pins σ H s) : Mod X.K X.mg X.base := I.ok.mod
theorem Inv.kIn (I : Inv X pins σ H s) : X.K.In s.heap := I.ok.mod.kin.keeps I.bk
theorem Inv.lt (I : Inv X pins σ H s) : X.env.locals < s.heap.objs.size := let ⟨_, hn, _⟩ := I.loc; hn.lt
theorem Inv.sz (I : Inv X pins σ H s) : X.s₀.heap.objs.size ≤ s.heap.objs.size := Nat.le_trans I.ok.above (Nat.le_of_lt I.lt)
theorem Inv.nofs (I : Inv X pins σ H s) {a : Addr} (h : s.heap.objs.size ≤ a) : a ∉ X.fs := fun hb => by
  obtain ⟨_, o, ho, _⟩ := I.ok.funs.mem hb
  exact absurd (Nat.lt_of_lt_of_le (Heap.lt_size ho) (Nat.le_trans I.sz h)) (Nat.lt_irrefl _)
theorem Inv.cne (I : Inv X pins σ H s) : ∀ x c, X.env.cells.lookup x = some c → c ≠ X.env.locals := fun x c e z => by
  obtain ⟨v, o, ho, hd⟩ := I.cell x c e
  obtain ⟨m, ⟨o', es, ep, ho', hd', _⟩, _⟩ := I.loc
  rw [z, ho'] at ho; cases ho; rw [hd'] at hd; cases hd
theorem Inv.funs (I : Inv X pins σ H s) : s.heap.FunFrames X.base X.outer := by
  have all : ∀ (l : List Env), (∀ b ∈ frs l, b ∈ X.fs) → X.s₀.heap.FunFrames X.base l → s.heap.FunFrames X.base l := by
    intro l
    induction l with
    | nil => intro _ _; trivial
    | cons env r ih =>
      intro hs hl
      obtain ⟨hk, ⟨L, o, hf, hn, ho, hd⟩, hr⟩ := hl
      have hL : L ∈ X.fs := hs L (by unfold frs; rw [List.filterMap_cons, hf]; exact List.mem_cons_self)
      obtain ⟨sl, e⟩ := I.base.slot L o ho (I.ok.frf L hL) hL fun z => I.ok.exfs L z hL
      exact ⟨hk, ⟨L, _, hf, hn, e, hd⟩, ih (fun b hb => hs b (by unfold frs; rw [List.filterMap_cons, hf]; exact List.mem_cons_of_mem _ hb)) hr⟩
  exact all X.outer (fun _ hb => hb) I.ok.funs
theorem Inv.stack (I : Inv X pins σ H s) : s.heap.FunFrames X.base X.stack := by
  rcases I.ok.stk with e | ⟨e, hf⟩
  · rw [e]; exact I.funs
  · rw [e]
    obtain ⟨m, hn, _⟩ := I.loc
    refine .cons (by rw [I.ok.kind]; decide) hf hn ?_ I.funs
    exact Heap.get?_none_of_le (Nat.le_trans I.ok.bsz I.ok.above)
theorem Inv.stkSub (I : Inv X pins σ H s) : ∀ b ∈ frs X.stack, b ∈ X.env.locals :: X.fs := fun b hb => by
  rcases I.ok.stk with e | ⟨e, hf⟩
  · rw [e] at hb; exact List.mem_cons_of_mem _ hb
  · rw [e] at hb
    unfold frs at hb
    rw [List.filterMap_cons, hf] at hb
    exact hb
theorem Inv.stkFree (I : Inv X pins σ H s) : ∀ b ∈ frs X.stack, H b = none := fun b hb => by
  rcases List.mem_cons.mp (I.stkSub b hb) with e | hb
  · rw [e]; exact I.free
  · obtain ⟨_, o, ho, _⟩ := I.ok.funs.mem hb
    exact I.base.free b o ho (I.ok.frf b hb) fun z => I.ok.exfs b z hb
theorem Inv.step {g' : Array GenState} {t' : Nat} {d' : Drawn} {ch : List Addr} (I : Inv X pins σ H s)
    (hch : ∀ b ∈ ch, (b ∈ X.ex ∨ X.s₀.heap.objs.size ≤ b) ∧ b ≠ X.env.locals ∧ (∀ x c, X.env.cells.lookup x = some c → c ≠ b) ∧ ∀ p ∈ X.pn ++ pins, p.1 ≠ b)
    (keep : ∀ b o, b ≠ X.env.locals → b ∉ X.fs → b ∉ ch → s.heap.get? b = some o → H b = none → h'.get? b = some o)
    (slot : ∀ b o, b ≠ X.env.locals → b ∈ X.fs → b ∉ ch → s.heap.get? b = some o → H b = none → ∃ sl, h'.get? b = some { o with slots := sl }) (free : ∀ b o, b ∉ ch → s.heap.get? b = some o → H b = none → H' b = none)
    (there : ∀ b o, b ∉ ch → s.heap.get? b = some o → ∃ o', h'.get? b = some o')
    (tups : ∀ b xs, H b = some (.tup xs) → H' b = some (.tup xs)) (frzs : ∀ b o u, H b = some (.frz o u) → H' b = some (.frz o u)) (tbls : ∀ b ps, H b = some (.tbl ps) → ∃ more, H' b = some (.tbl (ps ++ more)))
    (ns : ∀ m, s.heap.Ns X.env.locals m → h'.Ns X.env.locals m) (hok : HOk X.prog X.w H' h') (hg : AllBare g') :
    Inv X pins σ H' { s with heap := h', gens := g', drawn := d', toks := t' } := by
  have neL : ∀ b o, X.s₀.heap.get? b = some o → b ≠ X.env.locals := fun b o e => Nat.ne_of_lt (Nat.lt_of_lt_of_le (Heap.lt_size e) I.ok.above)
  have neC : ∀ b o, X.s₀.heap.get? b = some o → b ∉ X.ex → b ∉ ch := fun b o e hx hb => by
    rcases (hch b hb).1 with z | z
    · exact hx z
    · exact absurd (Nat.lt_of_lt_of_le (Heap.lt_size e) z) (Nat.lt_irrefl _)
  have cellK : ∀ x c, X.env.cells.lookup x = some c → ∀ v, s.heap.IsCell c v → h'.IsCell c v := fun x c e v ⟨o, ho, hd⟩ => by
    have nch : c ∉ ch := fun z => (hch c z).2.2.1 x c e rfl
    by_cases hc : c ∈ X.fs
    · obtain ⟨sl, q⟩ := slot c o (I.cne x c e) hc nch ho (I.freeC x c e)
      exact ⟨_, q, hd⟩
    · exact ⟨o, keep c o (I.cne x c e) hc nch ho (I.freeC x c e), hd⟩
  refine ⟨I.ok, I.os, hg, ⟨fun b o e n hb hx => ?_, fun b o e n hb hx => ?_, fun b o e n hx => ?_, fun b o e hx => ?_, fun b xs e => tups b xs (I.base.tups b xs e), fun b o xs e => frzs b o xs (I.base.frzs b o xs e), fun b ps e => ?_⟩, ?_, fun x c e => ?_, ?_, fun x c e => ?_, fun p hp => ?_, hok, I.len⟩
  · exact keep b o (neL b o e) hb (neC b o e hx) (I.base.keep b o e n hb hx) (I.base.free b o e n hx)
  · obtain ⟨sl, e1⟩ := I.base.slot b o e n hb hx
    obtain ⟨sl', e2⟩ := slot b _ (neL b o e) hb (neC b o e hx) e1 (I.base.free b o e n hx)
    exact ⟨sl', e2⟩
  · obtain ⟨o', e1⟩ := I.base.there b o e hx
    exact free b o' (neC b o e hx) e1 (I.base.free b o e n hx)
  · obtain ⟨o', e1⟩ := I.base.there b o e hx
    exact there b o' (neC b o e hx) e1
  · obtain ⟨m1, e1⟩ := I.base.tbls b ps e
    obtain ⟨m2, e2⟩ := tbls b _ e1
    exact ⟨m1 ++ m2, by rw [e2, Array.append_assoc]⟩
  · obtain ⟨m, hn, hl⟩ := I.loc
    refine ⟨m, ns m hn, fun i x v e1 e2 e3 => ?_⟩
    obtain ⟨u, r, l⟩ := hl i x v e1 e2 e3
    refine ⟨u, r, ?_⟩
    rcases l with l | ⟨k, c, e, z⟩
    · exact .inl l
    · exact .inr ⟨k, c, e, cellK x c e _ z⟩
  · obtain ⟨v, z⟩ := I.cell x c e
    exact ⟨v, cellK x c e v z⟩
  · obtain ⟨m, ⟨o, _, _, ho, _⟩, _⟩ := I.loc
    exact free _ o (fun z => (hch _ z).2.1 rfl) ho I.free
  · obtain ⟨v, o, ho, hd⟩ := I.cell x c e
    exact free c o (fun z => (hch c z).2.2.1 x c e rfl) ho (I.freeC x c e)
  · obtain ⟨e, n, ne, nf, d⟩ := I.pin p hp
    have nch : p.1 ∉ ch := fun z => (hch p.1 z).2.2.2 p hp rfl
    exact ⟨keep p.1 p.2 ne nf nch e n, free p.1 p.2 nch e n, ne, nf, d⟩
theorem Inv.un {t' : Nat} (I : Inv X pins σ H s) (u : Un X.fs [] H H' s.heap h') (hok : HOk X.prog X.w H' h') : Inv X pins σ H' { s with heap := h', toks := t' } := by
  obtain ⟨m, ⟨o, es, ep, ho, r⟩, _⟩ := id I.loc
  obtain ⟨sl, hL⟩ := u.any ho I.free (by simp)
  exact I.step (g' := s.gens) (d' := s.drawn) (ch := []) (fun _ z => nomatch z) (fun b o _ hb _ e n => u.keep b o e n hb (by simp)) (fun b o _ hb _ e n => u.slot b o e n hb (by simp)) (fun b o _ e n => u.free b o e n (by simp)) (fun b o _ e => u.there b o e (by simp)) u.tups u.frzs u.tbls (fun m' hm => by
    obtain ⟨o', es', ep', ho', r'⟩ := hm
    rw [ho] at ho'; cases ho'
    exact ⟨_, es', ep', hL, r'⟩) hok I.bare
theorem Inv.call {g' : Array GenState} {t' : Nat} {d' : Drawn} {ch : List Addr} (I : Inv X pins σ H s) (u : Un (frs X.stack) ch H H' s.heap h') (hok : HOk X.prog X.w H' h') (hg : AllBare g')
    (hch : ∀ b ∈ ch, (b ∈ X.ex ∨ X.s₀.heap.objs.size ≤ b) ∧ b ≠ X.env.locals ∧ (∀ x c, X.env.cells.lookup x = some c → c ≠ b) ∧ ∀ p ∈ X.pn ++ pins, p.1 ≠ b) :
    Inv X pins σ H' { s with heap := h', gens := g', drawn := d', toks := t' } := by
  obtain ⟨m, ⟨o, es, ep, ho, r⟩, _⟩ := id I.loc
  obtain ⟨sl, hL⟩ := u.any ho I.free fun z => (hch _ z).2.1 rfl
  exact I.step (ch := ch) hch (fun b o hL hb hc e n => u.keep b o e n (fun z => (List.mem_cons.mp (I.stkSub b z)).elim hL hb) hc) (fun b o _ _ hc e n => u.any e n hc) (fun b o hc e n => u.free b o e n hc) (fun b o hc e => u.there b o e hc) u.tups u.frzs u.tbls (fun m' hm => by
    obtain ⟨o', es', ep', ho', r'⟩ := hm
    rw [ho] at ho'; cases ho'
    exact ⟨_, es', ep', hL, r'⟩) hok hg
theorem Inv.turned {t' : Nat} {it : Addr} (I : Inv X pins σ H s) (k : ∀ b o, b ≠ it → s.heap.get? b = some o → h'.get? b = some o) (hn : H it = none) (hL : it ≠ X.env.locals)
    (h1 : it ∈ X.ex ∨ X.s₀.heap.objs.size ≤ it) (h2 : ∀ x c, X.env.cells.lookup x = some c → c ≠ it) (h3 : ∀ p ∈ X.pn ++ pins, p.1 ≠ it) : Inv X pins σ H { s with heap := h', toks := t' } := by
  have nit : ∀ b u, H b = some u → b ≠ it := fun b u e z => by rw [z, hn] at e; cases e
  refine I.step (g' := s.gens) (d' := s.drawn) (ch := [it]) (fun b hb => ?_) (fun b o _ _ hc e _ => k b o (fun z => hc (by simp [z])) e) (fun b o _ _ hc e _ => ⟨o.slots, k b o (fun z => hc (by simp [z])) e⟩) (fun _ _ _ _ n => n)
    (fun b o hc e => ⟨o, k b o (fun z => hc (by simp [z])) e⟩) (fun _ _ e => e) (fun _ _ _ e => e) (fun b ps e => ⟨#[], by rw [e]; simp⟩) (fun m hm => ?_) (fun b u e => ?_) I.bare
  · have e : b = it := by simpa using hb
    subst e
    exact ⟨h1, hL, h2, h3⟩
  · obtain ⟨o, es, ep, ho, r⟩ := hm
    exact ⟨o, es, ep, k _ o (Ne.symm hL) ho, r⟩
  · refine (I.hok b u e).stay (fun c v hc q => k c v ?_ q) (fun _ q => q) fun _ _ q => q
    rcases hc with z | z
    · rw [z]; exact nit b u e
    · exact nit c _ z
theorem Inv.tok (I : Inv X pins σ H s) (t : Nat) : Inv X pins σ H { s with toks := t } := I.un (h' := s.heap) (t' := t) Un.refl I.hok
theorem Inv.kept {t' : Nat} (I : Inv X pins σ H s) (k : ∀ b u, s.heap.get? b = some u → h'.get? b = some u) : Inv X pins σ H { s with heap := h', toks := t' } := I.un (Un.kept k) (I.hok.kept k)
theorem Inv.laid {a : Addr} {o : HO} {t' : Nat} (I : Inv X pins σ H s) (k : ∀ b u, s.heap.get? b = some u → h'.get? b = some u) (hp : s.heap.objs.size ≤ a) (new : ObjOk X.prog X.w (upd H a o) h' a o) :
    Inv X pins σ (upd H a o) { s with heap := h', toks := t' } := I.un (Un.laid k hp (I.hok.fresh hp)) (I.hok.laid k hp new)
theorem Inv.write {x e : Addr} {o : HO} {t' : Nat} (I : Inv X pins σ H s) (mu : Mut (H x)) (he : e = x ∨ H e = some (.own x)) (k : ∀ b u, b ≠ e → s.heap.get? b = some u → h'.get? b = some u) (heo : ∃ u, h'.get? e = some u)
    (new : ObjOk X.prog X.w (upd H x o) h' x o) : Inv X pins σ (upd H x o) { s with heap := h', toks := t' } := I.un (Un.write mu he k heo) (I.hok.write mu he k heo new)
theorem Inv.pins_of {pins' : List (Addr × Obj)} (I : Inv X pins σ H s) (h : ∀ p ∈ pins', s.heap.get? p.1 = some p.2 ∧ H p.1 = none ∧ p.1 ≠ X.env.locals ∧ p.1 ∉ X.fs ∧ ∀ v, p.2.data ≠ .cell v) : Inv X pins' σ H s :=
  ⟨I.ok, I.os, I.bare, I.base, I.loc, I.cell, I.free, I.freeC, fun p hp => (List.mem_append.mp hp).elim (fun z => I.pin p (List.mem_append_left _ z)) (h p), I.hok, I.len⟩
theorem nodup_ix {N : List Str} (hN : N.Nodup) {i j : Nat} {x : Str} (a : N[i]? = some x) (b : N[j]? = some x) : i = j := by
  obtain ⟨h1, e1⟩ := List.getElem?_eq_some_iff.mp a
  obtain ⟨h2, e2⟩ := List.getElem?_eq_some_iff.mp b
  exact (List.getElem_inj hN).mp (e1.trans e2.symm)
theorem store_ok2 {M : Model} {A : Around} {E : Value → Shared → Prop} {i : Nat} {x : Str} {v : V} {u : Value} {Q : Unit → Shared → Prop} (I : Inv X pins σ H s) (hN : X.N.Nodup) (hi : X.N[i]? = some x) (hx : Loc X.env.scope x) (r : RelV v u)
    (h : ∀ s', Inv X pins (σ.set i (some v)) H s' → (∃ a, Heap.SameBut a s.heap s'.heap ∧ (a = X.env.locals ∨ X.env.cells.lookup x = some a)) → Q () s') (hf : X.fn x = true ∨ X.env.scope.names.lookup x = some .local := by first | exact .inl rfl | exact .inr rfl | assumption) : wpAny M A (storeName X.env x u) Q E s := by
  obtain ⟨m, hn, hl⟩ := id I.loc
  have hcls : (X.env.scope.kind == .class || (X.env.scope.kind == .module && X.env.locals != X.env.globals)) = false := by rw [I.ok.kind]; rfl
  have hiσ : i < σ.length := by rw [I.len]; exact (List.getElem?_eq_some_iff.mp hi).1
  have cne := I.cne
  have tracked : ∀ {a : Addr} {h' : Heap}, (∃ o, s.heap.get? a = some o ∧ H a = none) → Heap.SameBut a s.heap h' → HOk X.prog X.w H h' := fun {a h'} ha hs b ob e => by
    obtain ⟨_, _, hfree⟩ := ha
    refine (I.hok b ob e).stay (fun c w' hc q => (hs.2 c ?_).trans q) (fun _ q => q) fun _ _ q => q
    rintro rfl
    rcases hc with rfl | hc
    · rw [hfree] at e; cases e
    · rw [hfree] at hc; cases hc
  rcases hx with hk | hk
  · refine wpAny_storeName_local hk hn (fun h' hn' hs => ?_) hcls
    obtain ⟨oL, _, _, hoL, _⟩ := id hn
    refine h _ ⟨I.ok, I.os, I.bare, ⟨fun b o e n hb hx => ?_, fun b o e n hb hx => ?_, I.base.free, fun b o e hx => ?_, I.base.tups, I.base.frzs, I.base.tbls⟩, ⟨_, hn', fun j y v' e1 e2 e3 => ?_⟩, fun y c e => ?_, I.free, I.freeC, fun p hp => ?_, tracked ⟨oL, hoL, I.free⟩ hs, by simpa using I.len⟩ ⟨_, hs, .inl rfl⟩
    · exact (hs.2 b (Nat.ne_of_lt (Nat.lt_of_lt_of_le (Heap.lt_size e) I.ok.above))).trans (I.base.keep b o e n hb hx)
    · obtain ⟨sl, e1⟩ := I.base.slot b o e n hb hx
      exact ⟨sl, (hs.2 b (Nat.ne_of_lt (Nat.lt_of_lt_of_le (Heap.lt_size e) I.ok.above))).trans e1⟩
    · obtain ⟨o', e1⟩ := I.base.there b o e hx
      exact ⟨o', (hs.2 b (Nat.ne_of_lt (Nat.lt_of_lt_of_le (Heap.lt_size e) I.ok.above))).trans e1⟩
    · by_cases hj : j = i
      · subst hj
        rw [hi] at e1; cases e1
        rw [List.getElem?_set_self hiσ] at e2
        cases e2
        exact ⟨u, r, .inl ⟨hk, by simp⟩⟩
      · rw [List.getElem?_set_ne (Ne.symm hj)] at e2
        obtain ⟨u', r', q⟩ := hl j y v' e1 e2 e3
        refine ⟨u', r', ?_⟩
        rcases q with ⟨k, e⟩ | ⟨k, c, e, z⟩
        · refine .inl ⟨k, ?_⟩
          have : y ≠ x := fun e => hj (nodup_ix hN e1 (e ▸ hi))
          simp [this, e]
        · exact .inr ⟨k, c, e, z.sameBut hs (cne y c e)⟩
    · obtain ⟨w', z⟩ := I.cell y c e
      exact ⟨w', z.sameBut hs (cne y c e)⟩
    · obtain ⟨e, n, ne, nf, d⟩ := I.pin p hp
      exact ⟨(hs.2 p.1 ne).trans e, n, ne, nf, d⟩
  · have hfn : X.fn x = true := by
      rcases hf with z | z
      · exact z
      · rw [z] at hk; cases hk
    obtain ⟨c, hc⟩ := I.ok.has x (.inl hk)
    obtain ⟨w', z⟩ := I.cell x c hc
    refine wpAny_storeName_cell I.ok.kind hk hc z (fun h' hc' hs => ?_)
    obtain ⟨oc, hoc, hocd⟩ := id z
    refine h { s with heap := h' } ⟨I.ok, I.os, I.bare, ⟨fun b o e n hb hx => ?_, fun b o e n hb hx => ?_, I.base.free, fun b o e hx => ?_, I.base.tups, I.base.frzs, I.base.tbls⟩, ⟨m, hn.sameBut hs (Ne.symm (cne x c hc)), fun j y v' e1 e2 e3 => ?_⟩, fun y c' e => ?_, I.free, I.freeC, fun p hp => ?_, tracked ⟨oc, hoc, I.freeC x c hc⟩ hs, by simpa using I.len⟩ ⟨c, hs, .inr hc⟩
    · exact (hs.2 b (Nat.ne_of_lt (Nat.lt_of_lt_of_le (Heap.lt_size e) (I.ok.cab x c hfn hc)))).trans (I.base.keep b o e n hb hx)
    · obtain ⟨sl, e1⟩ := I.base.slot b o e n hb hx
      exact ⟨sl, (hs.2 b (Nat.ne_of_lt (Nat.lt_of_lt_of_le (Heap.lt_size e) (I.ok.cab x c hfn hc)))).trans e1⟩
    · obtain ⟨o', e1⟩ := I.base.there b o e hx
      exact ⟨o', (hs.2 b (Nat.ne_of_lt (Nat.lt_of_lt_of_le (Heap.lt_size e) (I.ok.cab x c hfn hc)))).trans e1⟩
    · by_cases hj : j = i
      · subst hj
        rw [hi] at e1; cases e1
        rw [List.getElem?_set_self hiσ] at e2
        cases e2
        exact ⟨u, r, .inr ⟨.inl hk, c, hc, hc'⟩⟩
      · rw [List.getElem?_set_ne (Ne.symm hj)] at e2
        obtain ⟨u', r', q⟩ := hl j y v' e1 e2 e3
        refine ⟨u', r', ?_⟩
        rcases q with q | ⟨k, c', e, z'⟩
        · exact .inl q
        · refine .inr ⟨k, c', e, z'.sameBut hs ?_⟩
          rintro rfl
          exact hj (nodup_ix hN e1 (I.ok.inj _ _ _ e hc ▸ hi))
    · by_cases hcc : c' = c
      · subst hcc; exact ⟨_, hc'⟩
      · obtain ⟨w2, z2⟩ := I.cell y c' e
        exact ⟨w2, z2.sameBut hs hcc⟩
    · obtain ⟨e, n, ne, nf, d⟩ := I.pin p hp
      refine ⟨(hs.2 p.1 ?_).trans e, n, ne, nf, d⟩
      intro q
      rw [q, hoc] at e
      have q' : oc = p.2 := Option.some.inj e
      exact d w' (by rw [← q']; exact hocd)
theorem store_ok {M : Model} {A : Around} {E : Value → Shared → Prop} {i : Nat} {x : Str} {v : V} {u : Value} {Q : Unit → Shared → Prop} (I : Inv X pins σ H s) (hN : X.N.Nodup) (hi : X.N[i]? = some x) (hx : Loc X.env.scope x) (r : RelV v u)
    (h : ∀ s', Inv X pins (σ.set i (some v)) H s' → Q () s') (hf : X.fn x = true ∨ X.env.scope.names.lookup x = some .local := by first | exact .inl rfl | exact .inr rfl | assumption) : wpAny M A (storeName X.env x u) Q E s :=
  store_ok2 I hN hi hx r (fun s' I' _ => h s' I') hf
theorem Inv.call' {s' : Shared} {ch : List Addr} (I : Inv X pins σ H s) (ho : s'.os = s.os) (u : Un (frs X.stack) ch H H' s.heap s'.heap) (hok : HOk X.prog X.w H' s'.heap) (hg : AllBare s'.gens)
    (hch : ∀ b ∈ ch, (b ∈ X.ex ∨ X.s₀.heap.objs.size ≤ b) ∧ b ≠ X.env.locals ∧ (∀ x c, X.env.cells.lookup x = some c → c ≠ b) ∧ ∀ p ∈ X.pn ++ pins, p.1 ≠ b) : Inv X pins σ H' s' := by
  obtain ⟨h', g', d', t', o'⟩ := s'
  have e : o' = s.os := ho
  subst e
  exact I.call (g' := g') (t' := t') (d' := d') u hok hg hch
end
abbrev XK := Value → Option Addr → Hp → Prop
abbrev St := List (Option V)
abbrev VK := V → Hp → Prop
abbrev TE := St → Hp → VK → Prop
abbrev TT := St → Hp → (Bool → Hp → Prop) → Prop
abbrev TA := St → Hp → (List V → Hp → Prop) → Prop
structure Ends where
  nx : St → Hp → Prop
  rt : VK
  bk : St → Hp → Prop := fun _ _ => False
  ct : St → Hp → Prop := fun _ _ => False
abbrev TS := Ends → St → Hp → Prop
def EP (X : Cx) (pins : List (Addr × Obj)) (σ : St) (Q : VK) (u : Value) (s' : Shared) : Prop := ∃ v H', Inv X pins σ H' s' ∧ RelV v u ∧ Q v H'
def TP (X : Cx) (pins : List (Addr × Obj)) (σ : St) (Q : Bool → Hp → Prop) (b : Bool) (s' : Shared) : Prop := ∃ H', Inv X pins σ H' s' ∧ Q b H'
def AP (X : Cx) (pins : List (Addr × Obj)) (σ : St) (Q : List V → Hp → Prop) (us : List Value) (s' : Shared) : Prop := ∃ vs H', Inv X pins σ H' s' ∧ Vals vs us ∧ Q vs H'
def SP (X : Cx) (pins : List (Addr × Obj)) (D : Ends) (f : Flow) (s' : Shared) : Prop :=
  match f with
  | .next => ∃ σ' H', Inv X pins σ' H' s' ∧ D.nx σ' H'
  | .brk => ∃ σ' H', Inv X pins σ' H' s' ∧ D.bk σ' H'
  | .cont => ∃ σ' H', Inv X pins σ' H' s' ∧ D.ct σ' H'
  | .ret u => ∃ v σ' H', Inv X pins σ' H' s' ∧ RelV v u ∧ D.rt v H'
def PE (X : Cx) (e : Expr) (t : TE) : Prop :=
  ∀ (pins : List (Addr × Obj)) (s : Shared) (σ : St) (H : Hp) (Q : VK), Inv X pins σ H s → t σ H Q → wpAny (model X.prog X.w) X.A (eval e X.env) (EP X pins σ Q) X.xe s
def PT (X : Cx) (e : Expr) (t : TT) : Prop :=
  ∀ (pins : List (Addr × Obj)) (s : Shared) (σ : St) (H : Hp) (Q : Bool → Hp → Prop), Inv X pins σ H s → t σ H Q → wpAny (model X.prog X.w) X.A (isTrue e X.env (eval e X.env)) (TP X pins σ Q) X.xe s
def PW (X : Cx) (e : Expr) (t : TT) : Prop :=
  ∀ (whole : Sem Value) (pins : List (Addr × Obj)) (s : Shared) (σ : St) (H : Hp) (Q : Bool → Hp → Prop), Inv X pins σ H s → t σ H Q → wpAny (model X.prog X.w) X.A (isTrue e X.env whole) (TP X pins σ Q) X.xe s
theorem PW.pt {X : Cx} {e : Expr} {t : TT} (h : PW X e t) : PT X e t := h _
def PA (X : Cx) (es : List Expr) (t : TA) : Prop :=
  ∀ (pos : Pos) (pins : List (Addr × Obj)) (s : Shared) (σ : St) (H : Hp) (Q : List V → Hp → Prop), Inv X pins σ H s → t σ H Q → wpAny (model X.prog X.w) X.A (spliced (backTo pos (starEach es X.env))) (AP X pins σ Q) X.xe s
def PS (X : Cx) (st : Stmt) (t : TS) : Prop :=
  ∀ (pins : List (Addr × Obj)) (s : Shared) (σ : St) (H : Hp) (D : Ends), Inv X pins σ H s → t D σ H → wpAny (model X.prog X.w) X.A (exec st X.env) (SP X pins D) X.xe s
def PSs (X : Cx) (st : List Stmt) (t : TS) : Prop :=
  ∀ (pins : List (Addr × Obj)) (s : Shared) (σ : St) (H : Hp) (D : Ends), Inv X pins σ H s → t D σ H → wpAny (model X.prog X.w) X.A (execs st X.env) (SP X pins D) X.xe s
theorem thn {α : Type} {t : Sem α} {Q Q' : α → Shared → Prop} {M : Model} {A : Around} {E : Value → Shared → Prop} {s : Shared} (h : wpAny M A t Q E s) (hQ : ∀ a s, Q a s → Q' a s) : wpAny M A t Q' E s := wpAny_mono h hQ fun _ _ x => x
end L2
namespace L2
open PySem PySem.Spec PyProof.Rows
section
variable {X : Cx}
def tVar (i : Nat) : TE := fun σ H Q => ∃ v, σ[i]? = some (some v) ∧ Q v H
def tC (v : V) : TE := fun _ H Q => Q v H
theorem pe_var {i : Nat} {x : Str} {pos : Pos} (hN : X.N[i]? = some x) (hv : Vis X.env.scope x) (hd : (x == ("__debug__" : Str)) = false := by decide) (hcd : (x == ("__classdict__" : Str)) = false := by decide) : PE X (.Name x pos) (tVar i) := by
  intro pins s σ H Q I h
  obtain ⟨v, e, h⟩ := h
  obtain ⟨m, hn, hl⟩ := I.loc
  obtain ⟨u, r, l⟩ := hl i x v hN e hv
  have fin : EP X pins σ Q u s := ⟨v, H, I, r, h⟩
  rcases l with ⟨hk, hm⟩ | ⟨hk, c, hc, hcell⟩
  · exact wpAny_Name (wpAny_loadName_local I.ok.kind hk hn hm fin) hd
  · rcases hk with hk | hk
    · exact wpAny_Name (wpAny_loadName_cell I.ok.kind hk hc hcell fin) hd
    · exact wpAny_Name (wpAny_loadName_free I.ok.kind hk hc hcell fin hcd) hd
theorem pe_int {i j pos} : PE X (.Constant (.int i) j pos) (tC (.int i)) := fun _ _ _ H _ I h => wpAny_Constant_int ⟨.int i, H, I.tok _, ⟨_, rfl⟩, h⟩
theorem pe_bl {b j pos} : PE X (.Constant (.bool b) j pos) (tC (.bl b)) := fun _ _ _ H _ I h => Constant_bool ⟨.bl b, H, I, rfl, h⟩
theorem pe_non {j pos} : PE X (.Constant .none j pos) (tC .non) := fun _ _ _ H _ I h => Constant_none ⟨.non, H, I, rfl, h⟩
theorem pe_str {x j pos} : PE X (.Constant (.str x) j pos) (tC (.str x)) := fun _ _ _ H _ I h => Calls.Constant_str ⟨.str x, H, I.tok _, ⟨_, rfl⟩, h⟩
def Gl (X : Cx) (x : Str) : Prop := X.env.kindOf x = some .globalImplicit
theorem ld_glob {E : Value → Shared → Prop} {pins : List (Addr × Obj)} {s : Shared} {σ : St} {H : Hp} {x : Str} {u : Value} {pos : Pos} {Q : Value → Shared → Prop} (I : Inv X pins σ H s) (hg : Gl X x) (hm : X.mg x = some u) (h : Q u s)
    (hd : (x == ("__debug__" : Str)) = false := by decide) : wpAny (model X.prog X.w) X.A (eval (.Name x pos) X.env) Q E s :=
  Calls.Name_function_global I.ok.kind hg (Calls.loadGlobal_global (by rw [I.ok.glob]; exact I.mod.glob.keeps I.bk) hm h) hd
theorem ld_blt {E : Value → Shared → Prop} {pins : List (Addr × Obj)} {s : Shared} {σ : St} {H : Hp} {x : Str} {u : Value} {pos : Pos} {Q : Value → Shared → Prop} (I : Inv X pins σ H s) (hg : Gl X x) (hm : X.mg x = none) (hv : bootBuiltins x = some u) (h : Q u s)
    (hn : x ≠ "__name__" := by decide) (hd : (x == ("__debug__" : Str)) = false := by decide) : wpAny (model X.prog X.w) X.A (eval (.Name x pos) X.env) Q E s := by
  obtain ⟨mb, h1, h2⟩ := I.mod.blt
  exact Calls.Name_function_global I.ok.kind hg (Calls.loadGlobal_builtin (by rw [I.ok.glob]; exact I.mod.glob.keeps I.bk) hm (by rw [I.ok.blt]; exact h1.keeps I.bk) ((h2 x hn).trans hv) h) hd
theorem pe_glob {x : Str} {v : V} {u : Value} {pos : Pos} (hg : Gl X x) (hm : X.mg x = some u) (r : RelV v u) (hd : (x == ("__debug__" : Str)) = false := by decide) : PE X (.Name x pos) (tC v) :=
  fun _ _ _ H _ I h => ld_glob I hg hm ⟨v, H, I, r, h⟩ hd
theorem pe_bltn {x : Str} {v : V} {u : Value} {pos : Pos} (hg : Gl X x) (hm : X.mg x = none) (hv : bootBuiltins x = some u) (r : RelV v u) (hn : x ≠ "__name__" := by decide) (hd : (x == ("__debug__" : Str)) = false := by decide) : PE X (.Name x pos) (tC v) :=
  fun _ _ _ H _ I h => ld_blt I hg hm hv ⟨v, H, I, r, h⟩ hn hd
variable {a b : Expr} {ta tb : TE} {pos : Pos}
variable {tA tB' : TT} {rest : List Expr}
def tAnd (t u : TT) : TT := fun σ H Q => t σ H fun c H1 => if c = true then u σ H1 Q else Q false H1
def tOr (t u : TT) : TT := fun σ H Q => t σ H fun c H1 => if c = true then Q true H1 else u σ H1 Q
def tNot (t : TT) : TT := fun σ H Q => t σ H fun c H1 => Q (!c) H1
theorem pw_and1 (ha : PT X a tA) : PW X (.BoolOp .And [a] pos) tA := by
  intro wh pins s σ H Q I h
  refine isTrue_and (thn (ha pins s σ H Q I h) fun c s1 e => ?_)
  cases c with
  | true => exact isTrue_and_nil e
  | false => exact e
theorem pw_or1 (ha : PT X a tA) : PW X (.BoolOp .Or [a] pos) tA := by
  intro wh pins s σ H Q I h
  refine isTrue_or (thn (ha pins s σ H Q I h) fun c s1 e => ?_)
  cases c with
  | false => exact isTrue_or_nil e
  | true => exact e
theorem pw_and (ha : PT X a tA) (hb : PW X (.BoolOp .And (b :: rest) pos) tB') : PW X (.BoolOp .And (a :: b :: rest) pos) (tAnd tA tB') := by
  intro wh pins s σ H Q I h
  refine isTrue_and (thn (ha pins s σ H _ I h) fun c s1 ⟨H1, I1, q1⟩ => ?_)
  cases c with
  | true => exact hb wh pins s1 σ H1 Q I1 q1
  | false => exact ⟨H1, I1, q1⟩
theorem pw_or (ha : PT X a tA) (hb : PW X (.BoolOp .Or (b :: rest) pos) tB') : PW X (.BoolOp .Or (a :: b :: rest) pos) (tOr tA tB') := by
  intro wh pins s σ H Q I h
  refine isTrue_or (thn (ha pins s σ H _ I h) fun c s1 ⟨H1, I1, q1⟩ => ?_)
  cases c with
  | true => exact ⟨H1, I1, q1⟩
  | false => exact hb wh pins s1 σ H1 Q I1 q1
theorem pt_not (ha : PT X a tA) : PT X (.UnaryOp .Not a pos) (tNot tA) := by
  intro pins s σ H Q I h
  exact isTrue_not (ha pins s σ H (fun c H1 => Q (!c) H1) I h)
theorem pe_one {op} {t : TE} (h : PE X a t) : PE X (.BoolOp op [a] pos) t := fun pins s σ H Q I hw => BoolOp_one (h pins s σ H Q I hw)
end
end L2
namespace L2
open PySem PySem.Spec PyProof.Rows
def SqL (K : PySem.W.Frag) (H : Hp) (a : Addr) (xs : List V) : Prop :=
  Rd H a (.lst xs) ∨
    ∃ (o : Obj) (its : Array Value) (n : Nat), K.lookup a = some o ∧ o.cls = .type "list" ∧ o.dict = none ∧ o.data = .seq its n ∧ its.size ≤ sizeLine ∧ Vals xs its.toList
def SqT (K : PySem.W.Frag) (H : Hp) (a : Addr) (xs : List V) : Prop :=
  Rd H a (.tup xs) ∨
    ∃ (o : Obj) (its : Array Value) (n : Nat), K.lookup a = some o ∧ o.cls = .type "tuple" ∧ o.data = .seq its n ∧ its.size ≤ sizeLine ∧ Vals xs its.toList
def absV : Value → Option V
  | .none => some .non
  | .bool b => some (.bl b)
  | .int i _ => some (.int i)
  | .str x _ => some (.str x)
  | .bytes b _ => some (.byt b)
  | .float b _ => some (.flt b)
  | .ref a => some (.ref a)
  | .type n => some (.ty n)
  | _ => none
theorem RelV.abs {x : V} {u : Value} (r : RelV x u) : absV u = some x := by
  cases x with
  | non => cases r; rfl
  | bl _ => cases r; rfl
  | int _ => obtain ⟨t, rfl⟩ := r; rfl
  | str _ => obtain ⟨t, rfl⟩ := r; rfl
  | byt _ => obtain ⟨t, rfl⟩ := r; rfl
  | flt _ => obtain ⟨t, rfl⟩ := r; rfl
  | ref _ => cases r; rfl
  | ty _ => cases r; rfl
theorem RelV.inj {x y : V} {u : Value} (r : RelV x u) (q : RelV y u) : x = y := Option.some.inj (r.abs.symm.trans q.abs)
theorem Vals.inj : ∀ {xs ys : List V} {us : List Value}, Vals xs us → Vals ys us → xs = ys
  | _, _, _, .nil, .nil => rfl
  | _, _, _, .cons r t, .cons r' t' => by rw [r.inj r', Vals.inj t t']
section
variable {X : Cx} {pins : List (Addr × Obj)} {σ : St} {H : Hp} {s : Shared} {a : Addr} {xs ys : List V}
theorem Inv.list (I : Inv X pins σ H s) (h : SqL X.K H a xs) : ∃ its : List Value, Vals xs its ∧ PlainL s.heap a its.toArray ∧ xs.length ≤ sizeLine := by
  rcases h with h | ⟨o, its, n, hk, hc, hd, hs, hz, r⟩
  · obtain ⟨z, its, n, r, e⟩ := h.ok I.hok
    exact ⟨its, r, ⟨_, n, e, rfl, rfl, rfl⟩, z⟩
  · refine ⟨its.toList, r, ⟨o, n, I.kIn a o hk, hc, hd, by simpa using hs⟩, ?_⟩
    have e := r.length
    simp only [Array.length_toList] at e
    omega
theorem Inv.tuple (I : Inv X pins σ H s) (h : SqT X.K H a xs) : ∃ its : List Value, Vals xs its ∧ IsTup s.heap a its.toArray ∧ xs.length ≤ sizeLine := by
  rcases h with h | ⟨o, its, n, hk, hc, hs, hz, r⟩
  · obtain ⟨z, its, r, p⟩ := h.ok I.hok
    exact ⟨its, r, p, z⟩
  · refine ⟨its.toList, r, ⟨o, I.kIn a o hk, hc, n, by simpa using hs⟩, ?_⟩
    have e := r.length
    simp only [Array.length_toList] at e
    omega
theorem Inv.list_inj (I : Inv X pins σ H s) (h : SqL X.K H a xs) (h' : SqL X.K H a ys) : xs = ys := by
  obtain ⟨its, r, ⟨o, n, e, _, _, d⟩, _⟩ := I.list h
  obtain ⟨its', r', ⟨o', n', e', _, _, d'⟩, _⟩ := I.list h'
  rw [e] at e'; cases e'
  rw [d] at d'
  injection d' with d1 _
  have : its = its' := by simpa using congrArg Array.toList d1
  subst this
  exact r.inj r'
theorem Inv.tuple_inj (I : Inv X pins σ H s) (h : SqT X.K H a xs) (h' : SqT X.K H a ys) : xs = ys := by
  obtain ⟨its, r, ⟨o, e, _, n, d⟩, _⟩ := I.tuple h
  obtain ⟨its', r', ⟨o', e', _, n', d'⟩, _⟩ := I.tuple h'
  rw [e] at e'; cases e'
  rw [d] at d'
  injection d' with d1 _
  have : its = its' := by simpa using congrArg Array.toList d1
  subst this
  exact r.inj r'
end
abbrev Cx.wish (X : Cx) (E : Value → Shared → Prop) : Cx := { X with xe := E }
theorem Cx.Ok.wish {X : Cx} (ok : X.Ok) (E : Value → Shared → Prop) : (X.wish E).Ok :=
  ⟨ok.mod, ok.kind, ok.glob, ok.blt, ok.above, ok.inj, ok.has, ok.cab, ok.hd, ok.frames, ok.stk, ok.exf, ok.bs, ok.bsz, ok.noex, ok.exfs, ok.funs, ok.frf⟩
theorem Cx.Ok.unwish {X : Cx} {E : Value → Shared → Prop} (ok : (X.wish E).Ok) : X.Ok :=
  ⟨ok.mod, ok.kind, ok.glob, ok.blt, ok.above, ok.inj, ok.has, ok.cab, ok.hd, ok.frames, ok.stk, ok.exf, ok.bs, ok.bsz, ok.noex, ok.exfs, ok.funs, ok.frf⟩
section
variable {X : Cx} {pins : List (Addr × Obj)} {σ : St} {H : Hp} {s : Shared} {E : Value → Shared → Prop}
theorem Inv.wish (I : Inv X pins σ H s) (E : Value → Shared → Prop) : Inv (X.wish E) pins σ H s := ⟨I.ok.wish E, I.os, I.bare, I.base, I.loc, I.cell, I.free, I.freeC, I.pin, I.hok, I.len⟩
theorem Inv.unwish (I : Inv (X.wish E) pins σ H s) : Inv X pins σ H s := ⟨I.ok.unwish, I.os, I.bare, I.base, I.loc, I.cell, I.free, I.freeC, I.pin, I.hok, I.len⟩
theorem SP.unwish {D : Ends} {f : Flow} {s' : Shared} (h : SP (X.wish E) pins D f s') : SP X pins D f s' := by
  cases f with
  | next => obtain ⟨σ', H', I, q⟩ := h; exact ⟨σ', H', I.unwish, q⟩
  | brk => obtain ⟨σ', H', I, q⟩ := h; exact ⟨σ', H', I.unwish, q⟩
  | cont => obtain ⟨σ', H', I, q⟩ := h; exact ⟨σ', H', I.unwish, q⟩
  | ret u => obtain ⟨v, σ', H', I, r, q⟩ := h; exact ⟨v, σ', H', I.unwish, r, q⟩
end
section
variable {X : Cx} {st : Stmt} {rest : List Stmt} {t u : TS} {e : Expr} {te : TE} {pos : Pos}
def tNext : TS := fun D σ H => D.nx σ H
def tSeq (t u : TS) : TS := fun D σ H => t { D with nx := u D } σ H
theorem pss_nil : PSs X [] tNext := fun _ _ σ H _ I h => wpAny_execs_nil ⟨σ, H, I, h⟩
theorem pss_cons (h1 : PS X st t) (h2 : PSs X rest u) : PSs X (st :: rest) (tSeq t u) := by
  intro pins s σ H D I h
  refine wpAny_execs_cons (thn (h1 pins s σ H { D with nx := u D } I h) fun f s1 q => ?_)
  cases f with
  | next =>
    obtain ⟨σ', H', I', q⟩ := q
    exact h2 pins s1 σ' H' D I' q
  | ret v => exact q
  | brk => exact q
  | cont => exact q
theorem pss_one (h1 : PS X st t) : PSs X [st] t := by
  intro pins s σ H D I h
  refine wpAny_execs_cons (thn (h1 pins s σ H D I h) fun f s1 q => ?_)
  cases f with
  | next => exact wpAny_execs_nil q
  | ret v => exact q
  | brk => exact q
  | cont => exact q
theorem Inv.quiet {pins : List (Addr × Obj)} {σ : St} {H : Hp} {s : Shared} (I : Inv X pins σ H s) : interactive X.env = false := by simp [interactive, I.ok.kind]
def tDrop (te : TE) : TS := fun D σ H => te σ H fun _ H1 => D.nx σ H1
theorem ps_expr (he : PE X e te) (hs : swapsWith e none pos.line X.env = pure false := by rfl) : PS X (.Expr e pos) (tDrop te) := by
  intro pins s σ H D I h
  exact wpAny_Expr_any (thn (he pins s σ H _ I h) fun v s1 ⟨x, H1, I1, r1, q1⟩ => ⟨σ, H1, I1, q1⟩) I.quiet hs
def tRet (te : TE) : TS := fun D σ H => te σ H D.rt
theorem ps_ret (he : PE X e te) : PS X (.Return (some e) pos) (tRet te) := by
  intro pins s σ H D I h
  exact wpAny_Return_some (thn (he pins s σ H _ I h) fun v s1 ⟨x, H1, I1, r1, q1⟩ => ⟨x, σ, H1, I1, r1, q1⟩)
def tRetN : TS := fun D _ H => D.rt .non H
theorem ps_retN : PS X (.Return none pos) tRetN := fun _ _ σ H _ I h => wpAny_Return_none ⟨.non, σ, H, I, rfl, h⟩
def tIfS (c : TT) (t u : TS) : TS := fun D σ H => c σ H fun b H1 => if b = true then t D σ H1 else u D σ H1
theorem ps_if {c : Expr} {a b : List Stmt} {tc : TT} (hc : PT X c tc) (ha : PSs X a t) (hb : PSs X b u) : PS X (.If c a b pos) (tIfS tc t u) := by
  intro pins s σ H D I h
  refine wpAny_If (thn (hc pins s σ H _ I h) fun d s1 ⟨H1, I1, q1⟩ => ?_)
  cases d with
  | true => exact ha pins s1 σ H1 D I1 q1
  | false => exact hb pins s1 σ H1 D I1 q1
end
abbrev TG := V → St → Hp → (St → Hp → Prop) → Prop
abbrev TGs := List V → St → Hp → (St → Hp → Prop) → Prop
def PG (X : Cx) (target : Expr) (t : TG) : Prop :=
  ∀ (pins : List (Addr × Obj)) (s : Shared) (σ : St) (H : Hp) (v : V) (u : Value) (Q : St → Hp → Prop), Inv X pins σ H s → RelV v u → t v σ H Q →
    wpAny (model X.prog X.w) X.A (assign target X.env u) (fun _ s' => ∃ σ' H', Inv X pins σ' H' s' ∧ Q σ' H') X.xe s
def PGs (X : Cx) (ts : List Expr) (t : TGs) : Prop :=
  ∀ (pins : List (Addr × Obj)) (s : Shared) (σ : St) (H : Hp) (vs : List V) (us : List Value) (Q : St → Hp → Prop), Inv X pins σ H s → Vals vs us → t vs σ H Q →
    wpAny (model X.prog X.w) X.A (assignInOrder ((assignEach ts X.env).map (·.2)) us) (fun _ s' => ∃ σ' H', Inv X pins σ' H' s' ∧ Q σ' H') X.xe s
abbrev TSet := V → V → V → Hp → (Hp → Prop) → Prop
def PSet (X : Cx) (t : TSet) : Prop :=
  ∀ (pins : List (Addr × Obj)) (s : Shared) (σ : St) (H : Hp) (o i v : V) (ov iv u : Value) (Q : Hp → Prop), Inv X pins σ H s → RelV o ov → RelV i iv → RelV v u → t o i v H Q →
    wpAny (model X.prog X.w) X.A (setItem ov iv u) (fun _ s' => ∃ H', Inv X pins σ H' s' ∧ Q H') X.xe s
section
variable {X : Cx} {pos : Pos}
def gName (i : Nat) : TG := fun v σ H Q => Q (σ.set i (some v)) H
theorem pg_name {i : Nat} {x : Str} (hN : X.N.Nodup) (hi : X.N[i]? = some x) (hx : Loc X.env.scope x) (hf : X.fn x = true ∨ X.env.scope.names.lookup x = some .local := by first | exact .inl rfl | exact .inr rfl | assumption) : PG X (.Name x pos) (gName i) := by
  intro pins s σ H v u Q I r h
  exact wpAny_assign_Name (store_ok I hN hi hx r (fun s' I' => ⟨_, H, I', h⟩) hf)
def gNil : TGs := fun vs σ H Q => vs = [] ∧ Q σ H
def gCons (t : TG) (u : TGs) : TGs := fun vs σ H Q => ∃ v r, vs = v :: r ∧ t v σ H fun σ' H' => u r σ' H' Q
theorem pgs_nil : PGs X [] gNil := by
  intro pins s σ H vs us Q I r h
  obtain ⟨e, h⟩ := h
  subst e
  cases r
  exact assignInOrder_nil ⟨σ, H, I, h⟩
theorem pgs_cons {e : Expr} {es : List Expr} {t : TG} {u : TGs} (h1 : PG X e t) (h2 : PGs X es u)
    (hs : (assignEach (e :: es) X.env).map (·.2) = assign e X.env :: (assignEach es X.env).map (·.2) := by rfl) : PGs X (e :: es) (gCons t u) := by
  intro pins s σ H vs us Q I r h
  obtain ⟨v, vr, e1, h⟩ := h
  subst e1
  cases r with
  | cons r rr =>
    rw [hs]
    refine assignInOrder_cons (thn (h1 pins s σ H _ _ _ I r h) fun _ s1 ⟨σ1, H1, I1, q1⟩ => ?_)
    exact h2 pins s1 σ1 H1 _ _ Q I1 rr q1
def gTup (K : PySem.W.Frag) (n : Nat) (t : TGs) : TG := fun v σ H Q => ∃ a xs, v = .ref a ∧ SqT K H a xs ∧ xs.length = n ∧ t xs σ H Q
theorem pg_tup {es : List Expr} {k : Nat} {t : TGs} {n : Nat} (hc : X.calm = true) (h : PGs X es t)
    (hn : (assignEach es X.env).length = n := by rfl) (hst : (assignEach es X.env).findIdx? (·.1) = none := by rfl) : PG X (.Tuple es k pos) (gTup X.K n t) := by
  intro pins s σ H v u Q I r hw
  obtain ⟨a, xs, e1, hq, hl, hw⟩ := hw
  subst e1
  cases r
  obtain ⟨its, rv, ht, hz⟩ := I.tuple hq
  refine assign_Tuple_tuple (I.ok.hd hc) ht (by simp [hn, ← hl, rv.length]) hst fun h' hx => ?_
  have I1 : Inv X pins σ H { s with heap := h' } := I.kept (t' := s.toks) fun b o e => hx b o (Nat.ne_of_lt (Heap.lt_size e)) e
  exact h pins _ σ H xs _ Q I1 (by simpa using rv) hw
def gSub (to ti : TE) (t : TSet) : TG := fun v σ H Q => to σ H fun o H1 => ti σ H1 fun i H2 => t o i v H2 fun H3 => Q σ H3
theorem pg_sub {o i : Expr} {to ti : TE} {t : TSet} (ho : PE X o to) (hi : PE X i ti) (hs : PSet X t)
    (ha : ∀ v, assign (.Subscript o i pos) X.env v = (do
      let ov ← holding [v] (eval o X.env)
      let iv ← holding [v, ov] (eval i X.env)
      standAt pos
      holding [v, ov, iv] (setItem ov iv v)
      release [v, ov, iv] []) := by intro _; rfl) : PG X (.Subscript o i pos) (gSub to ti t) := by
  intro pins s σ H v u Q I r h
  rw [ha]
  refine wpAny_bind (wpAny_holding (thn (ho pins s σ H _ I h) fun ov s1 ⟨x, H1, I1, r1, q1⟩ => ?_))
  refine wpAny_bind (wpAny_holding (thn (hi pins s1 σ H1 _ I1 q1) fun iv s2 ⟨y, H2, I2, r2, q2⟩ => ?_))
  refine wpAny_bind (wpAny_standAt (wpAny_bind (wpAny_holding (thn (hs pins s2 σ H2 x y v ov iv u _ I2 r1 r2 r q2) fun _ s3 ⟨H3, I3, q3⟩ => ?_))))
  exact wpAny_release ⟨σ, H3, I3, q3⟩
def tAsg (te : TE) (g : TG) : TS := fun D σ H => te σ H fun x H1 => g x σ H1 D.nx
theorem ps_asg {tg e : Expr} {te : TE} {g : TG} (he : PE X e te) (hg : PG X tg g) (hs : swapsWithSole [tg] e pos.line X.env = pure false := by rfl) (hw : swappedStores [tg] e X.env = pure none := by rfl)
    (h1 : (assignEach [tg] X.env).map (·.2) = [assign tg X.env] := by rfl) : PS X (.Assign [tg] e pos) (tAsg te g) := by
  intro pins s σ H D I h
  refine wpAny_Assign_stores (thn (he pins s σ H _ I h) fun v s1 ⟨x, H1, I1, r1, q1⟩ => ?_) hs hw
  rw [h1]
  exact thn (hg pins s1 σ H1 x v _ I1 r1 q1) fun _ s2 q => q
theorem ps_set {i : Nat} {x : Str} {e : Expr} {te : TE} {pos' : Pos} (hN : X.N.Nodup) (hi : X.N[i]? = some x) (hx : Loc X.env.scope x) (he : PE X e te) (hs : swapsWith e (some (.Name x pos')) pos.line X.env = pure false := by rfl) (hf : X.fn x = true ∨ X.env.scope.names.lookup x = some .local := by first | exact .inl rfl | exact .inr rfl | assumption) :
    PS X (.Assign [.Name x pos'] e pos) (tAsg te (gName i)) := by
  intro pins s σ H D I h
  refine wpAny_Assign_Name (thn (he pins s σ H _ I h) fun v s1 ⟨y, H1, I1, r1, q1⟩ => ?_) hs
  exact store_ok I1 hN hi hx r1 (fun s2 I2 => ⟨_, H1, I2, q1⟩) hf
end
section
variable {X : Cx} {pos : Pos}
def tWhile (c : TT) (tb : TS) : TS := fun D σ H => ∃ W : Nat → St → Hp → Prop, (∃ m, W m σ H) ∧ ∀ m σ H, W m σ H →
  c σ H fun b H1 => if b = true then ∃ N : St → Hp → Prop, (∀ σ' H', N σ' H' → ∃ m', m' < m ∧ W m' σ' H') ∧ tb { D with nx := N, ct := N, bk := D.nx } σ H1 else D.nx σ H1
theorem ps_while {c : Expr} {body : List Stmt} {tc : TT} {tb : TS} (hp : PassesOwn (model X.prog X.w) X.A X.env X.xe) (hc : PT X c tc) (hb : PSs X body tb) : PS X (.While c body [] pos) (tWhile tc tb) := by
  intro pins s σ H D I h
  obtain ⟨W, ⟨m0, w0⟩, turn⟩ := h
  refine wpAny_While (codeAny_whileLoop (fun n s' => ∃ σ' H', Inv X pins σ' H' s' ∧ W n σ' H') ?_ m0 ⟨σ, H, I, w0⟩)
  rintro n s1 ⟨σ1, H1, I1, w1⟩
  refine wpAny_passesOwn hp (thn (hc pins s1 σ1 H1 _ I1 (turn n σ1 H1 w1)) fun b s2 ⟨H2, I2, q2⟩ => ?_)
  cases b with
  | true =>
    obtain ⟨N, hN, q2⟩ := q2
    rw [if_pos rfl]
    refine wpAny_passesOwn hp (thn (hb pins s2 σ1 H2 _ I2 q2) fun f s3 q3 => ?_)
    cases f with
    | next =>
      obtain ⟨σ3, H3, I3, n3⟩ := q3
      obtain ⟨m', hm, w3⟩ := hN σ3 H3 n3
      exact ⟨m', hm, σ3, H3, I3, w3⟩
    | cont =>
      obtain ⟨σ3, H3, I3, n3⟩ := q3
      obtain ⟨m', hm, w3⟩ := hN σ3 H3 n3
      exact ⟨m', hm, σ3, H3, I3, w3⟩
    | brk => exact q3
    | ret v => exact q3
  | false =>
    rw [if_neg Bool.false_ne_true]
    exact wpAny_execs_nil ⟨σ1, H2, I2, q2⟩
end
structure It where
  go : Nat → Hp → Prop
  yld : Nat → Hp → V → Hp → Prop
  stop : Nat → Hp → Prop
def FpOk (X : Cx) (pins : List (Addr × Obj)) (H : Hp) (b : Addr) : Prop :=
  H b = none ∧ b ≠ X.env.locals ∧ b ∉ X.fs ∧ (b ∈ X.ex ∨ X.s₀.heap.objs.size ≤ b) ∧ (∀ x c, X.env.cells.lookup x = some c → c ≠ b) ∧ ∀ p ∈ X.pn ++ pins, p.1 ≠ b
theorem Inv.fpOk {X : Cx} {pins : List (Addr × Obj)} {σ : St} {H H' : Hp} {s : Shared} {b : Addr} (I : Inv X pins σ H s) (hb : s.heap.objs.size ≤ b) (hn : H' b = none) : FpOk X pins H' b := by
  refine ⟨hn, Nat.ne_of_gt (Nat.lt_of_lt_of_le I.lt hb), I.nofs hb, .inr (Nat.le_trans I.sz hb), fun x c e z => ?_, fun p hp z => ?_⟩
  · obtain ⟨v, q⟩ := I.cell x c e
    exact absurd (Nat.lt_of_lt_of_le q.lt (by rw [z]; exact hb)) (Nat.lt_irrefl _)
  · exact absurd (Nat.lt_of_lt_of_le (Heap.lt_size (I.pin p hp).1) (by rw [z]; exact hb)) (Nat.lt_irrefl _)
structure Turn (P : Program) (w : World) (K : PySem.W.Frag) (tg : Expr) (J : It) (fp : List Addr) (it : Addr) (tn : Nat → Heap → Prop) : Prop where
  mem : it ∈ fp
  obj : ∀ i h, tn i h → ∀ b ∈ fp, ∃ o, h.get? b = some o ∧ ∀ v, o.data ≠ .cell v
  keep : ∀ i h h', tn i h → (∀ b ∈ fp, ∀ o, h.get? b = some o → h'.get? b = some o) → tn i h'
  item : ∀ (X : Cx), X.prog = P → X.w = w → X.K = K → X.calm = true → ∀ (i : Nat) (pins : List (Addr × Obj)) (s : Shared) (σ : St) (H : Hp) (E : Value → Shared → Prop), Inv X pins σ H s → (∀ b ∈ fp, FpOk X pins H b) → tn i s.heap → J.go i H →
    wpAny (model P w) X.A (pyNext (.ref it)) (fun r s1 => ∃ u, r = some u ∧
      wpAny (model P w) X.A (letOwnedTupleGo tg (.ref it) u) (fun _ s2 => ∃ x H', Inv X pins σ H' s2 ∧ RelV x u ∧ J.yld i H x H' ∧ tn (i + 1) s2.heap ∧ ∀ b ∈ fp, H' b = none) E s1) E s
  done : ∀ (X : Cx), X.prog = P → X.w = w → X.K = K → X.calm = true → ∀ (i : Nat) (pins : List (Addr × Obj)) (s : Shared) (σ : St) (H : Hp) (E : Value → Shared → Prop), Inv X pins σ H s → (∀ b ∈ fp, FpOk X pins H b) → tn i s.heap → J.stop i H →
    wpAny (model P w) X.A (pyNext (.ref it)) (fun r s1 => r = none ∧ Inv X pins σ H s1) E s
  self : ∀ (A : Around) (i : Nat) (s : Shared) (Q : Value → Shared → Prop) (E : Value → Shared → Prop), tn i s.heap → Q (.ref it) s → wpAny (model P w) A (pyIter (.ref it)) Q E s
abbrev TI := St → Hp → (It → Hp → Prop) → Prop
def PIE (X : Cx) (pins : List (Addr × Obj)) (σ : St) (tg : Expr) (R : It → Hp → Prop) (itv : Value) (s2 : Shared) : Prop :=
  ∃ (it : Addr) (fp : List Addr) (tn : Nat → Heap → Prop) (J : It) (H' : Hp), itv = .ref it ∧ Inv X pins σ H' s2 ∧ Turn X.prog X.w X.K tg J fp it tn ∧ tn 0 s2.heap ∧ (∀ b ∈ fp, FpOk X pins H' b) ∧ R J H'
def PI (X : Cx) (tg iter : Expr) (wi : TI) : Prop :=
  ∀ (pins : List (Addr × Obj)) (s : Shared) (σ : St) (H : Hp) (R : It → Hp → Prop), Inv X pins σ H s → wi σ H R →
    wpAny (model X.prog X.w) X.A (eval iter X.env) (fun v s1 => wpAny (model X.prog X.w) X.A (pyIter v) (PIE X pins σ tg R) X.xe s1) X.xe s
theorem go_of {M : Model} {A : Around} {E : Value → Shared → Prop} {s : Shared} {tg : Expr} {it : Addr} {u : Value} {o : Obj} {n : String} {vs : Array Value} {Q : Unit → Shared → Prop} (ho : s.heap.get? it = some o) (hc : o.cls = .type n) (hd : o.data = .fields vs)
    (hn : ["enumerate", "zip", "dict_itemiterator", "dict_reverseitemiterator", "odict_iterator", "itertools.zip_longest", "itertools.pairwise"].contains n = false) (hQ : Q () s) : wpAny M A (letOwnedTupleGo tg (.ref it) u) Q E s := by
  unfold letOwnedTupleGo
  cases tg <;> first
    | exact wpAny_pure hQ
    | (cases u <;> first
        | exact wpAny_pure hQ
        | (refine wpAny_bind (wpAny_load ho ?_)
           rw [hc, hd]
           show wpAny M A (if (["enumerate", "zip", "dict_itemiterator", "dict_reverseitemiterator", "odict_iterator", "itertools.zip_longest", "itertools.pairwise"].contains n && vs[0]? == some (rawInt _)) = true then _ else _) Q E s
           rw [if_neg (by intro h; rw [hn, Bool.false_and] at h; cases h)]
           exact wpAny_pure hQ))
def Itl (K : PySem.W.Frag) (a : Addr) : It :=
  ⟨fun i H => ∃ xs x, SqL K H a xs ∧ xs[i]? = some x, fun i H x H' => H' = H ∧ ∀ xs, SqL K H a xs → xs[i]? = some x, fun i H => ∃ xs, SqL K H a xs ∧ xs.length ≤ i⟩
def Itt (K : PySem.W.Frag) (a : Addr) : It :=
  ⟨fun i H => ∃ xs x, SqT K H a xs ∧ xs[i]? = some x, fun i H x H' => H' = H ∧ ∀ xs, SqT K H a xs → xs[i]? = some x, fun i H => ∃ xs, SqT K H a xs ∧ xs.length ≤ i⟩
def Itr (lo : Int) (n : Nat) : It := ⟨fun i _ => i < n, fun i H x H' => H' = H ∧ x = .int (lo + i), fun i _ => n ≤ i⟩
theorem turn_list {P : Program} {w : World} {K : PySem.W.Frag} {tg : Expr} (a it : Addr) : Turn P w K tg (Itl K a) [it] it (fun i h => h.IsListIter it a i) where
  mem := by simp
  obj := fun i h st b hb => by
    have e : b = it := by simpa using hb
    subst e
    obtain ⟨o, e, c, d⟩ := st
    exact ⟨o, e, fun v z => by rw [d] at z; cases z⟩
  keep := fun i h h' st k => st.at fun o e => k it (by simp) o e
  item := by
    intro X hP hw hK hc i pins s σ H E I hf st hg
    subst hP hw hK
    obtain ⟨xs, x, hq, hx⟩ := hg
    obtain ⟨its, rv, p, hz⟩ := I.list hq
    obtain ⟨u, hu, ru⟩ := rv.get hx
    obtain ⟨f0, f1, f2, f3, f4, f5⟩ := hf it (by simp)
    refine wpAny_pyNext_list_item st p.isList (x := u) (by simpa using hu) fun h' st' sb => ?_
    have I1 : Inv X pins σ H { s with heap := h' } := I.turned (t' := s.toks) (fun b o hb e => (sb.2 b hb).trans e) f0 f1 f3 f4 f5
    obtain ⟨o, e, c, d⟩ := id st'
    exact ⟨u, rfl, go_of (s := { s with heap := h' }) e c d (by decide) ⟨x, H, I1, ru, ⟨rfl, fun ys hy => by rw [I.list_inj hy hq]; exact hx⟩, st', fun b hb => (hf b hb).1⟩⟩
  done := by
    intro X hP hw hK hc i pins s σ H E I hf st hg
    subst hP hw hK
    obtain ⟨xs, hq, hx⟩ := hg
    obtain ⟨its, rv, p, hz⟩ := I.list hq
    obtain ⟨f0, f1, f2, f3, f4, f5⟩ := hf it (by simp)
    have hl := rv.length
    exact wpAny_pyNext_list_end (I.ok.hd hc) st p.isList (by simp; omega) fun h' eb => ⟨rfl, I.turned (t' := s.toks) (fun b o hb e => eb b o hb e) f0 f1 f3 f4 f5⟩
  self := fun _ _ _ _ _ st h => wpAny_pyIter_listiter st h
theorem turn_tuple {P : Program} {w : World} {K : PySem.W.Frag} {tg : Expr} (a it : Addr) : Turn P w K tg (Itt K a) [it] it (fun i h => h.IsTupleIter it a i) where
  mem := by simp
  obj := fun i h st b hb => by
    have e : b = it := by simpa using hb
    subst e
    obtain ⟨o, e, c, d⟩ := st
    exact ⟨o, e, fun v z => by rw [d] at z; cases z⟩
  keep := fun i h h' st k => st.at fun o e => k it (by simp) o e
  item := by
    intro X hP hw hK hc i pins s σ H E I hf st hg
    subst hP hw hK
    obtain ⟨xs, x, hq, hx⟩ := hg
    obtain ⟨its, rv, p, hz⟩ := I.tuple hq
    obtain ⟨u, hu, ru⟩ := rv.get hx
    obtain ⟨f0, f1, f2, f3, f4, f5⟩ := hf it (by simp)
    refine wpAny_pyNext_tuple_item st (show s.heap.IsTuple a its.toArray from p) (x := u) (by simpa using hu) fun h' st' sb => ?_
    have I1 : Inv X pins σ H { s with heap := h' } := I.turned (t' := s.toks) (fun b o hb e => (sb.2 b hb).trans e) f0 f1 f3 f4 f5
    obtain ⟨o, e, c, d⟩ := id st'
    exact ⟨u, rfl, go_of (s := { s with heap := h' }) e c d (by decide) ⟨x, H, I1, ru, ⟨rfl, fun ys hy => by rw [I.tuple_inj hy hq]; exact hx⟩, st', fun b hb => (hf b hb).1⟩⟩
  done := by
    intro X hP hw hK hc i pins s σ H E I hf st hg
    subst hP hw hK
    obtain ⟨xs, hq, hx⟩ := hg
    obtain ⟨its, rv, p, hz⟩ := I.tuple hq
    obtain ⟨f0, f1, f2, f3, f4, f5⟩ := hf it (by simp)
    have hl := rv.length
    exact wpAny_pyNext_tuple_end (I.ok.hd hc) st (show s.heap.IsTuple a its.toArray from p) (by simp; omega) fun h' eb => ⟨rfl, I.turned (t' := s.toks) (fun b o hb e => eb b o hb e) f0 f1 f3 f4 f5⟩
  self := fun _ _ _ _ _ st h => wpAny_pyIter_tupleiter st h
end L2
namespace L2
open PySem PySem.Spec PyProof.Rows
section
variable {X : Cx} {tg : Expr}
def iRng2 (ta : TA) : TI := fun σ H R => ta σ H fun vs H1 => ∃ i j : Int, vs = [.int i, .int j] ∧ (-(2 ^ 62) ≤ i ∧ i < 2 ^ 62 ∧ -(2 ^ 62) ≤ j ∧ j < 2 ^ 62) ∧ R (Itr i (j - i).toNat) H1
def tFor (wi : TI) (g : TG) (tb : TS) : TS := fun D σ H => wi σ H fun J H1 => ∃ W : Nat → Nat → St → Hp → Prop, (∃ m, W 0 m σ H1) ∧ ∀ i m σ H, W i m σ H →
  (J.stop i H ∧ D.nx σ H) ∨ (J.go i H ∧ ∃ N : St → Hp → Prop, (∀ σ' H', N σ' H' → ∃ m', m' < m ∧ W (i + 1) m' σ' H') ∧ ∀ x H', J.yld i H x H' → g x σ H' fun σ2 H2 => tb { D with nx := N, ct := N, bk := D.nx } σ2 H2)
def pinsAt (fp : List Addr) (h : Heap) : List (Addr × Obj) := fp.filterMap fun b => (h.get? b).map fun o => (b, o)
theorem mem_pinsAt {fp : List Addr} {h : Heap} {b : Addr} {o : Obj} (hb : b ∈ fp) (e : h.get? b = some o) : (b, o) ∈ pinsAt fp h := List.mem_filterMap.mpr ⟨b, hb, by rw [e]; rfl⟩
theorem of_pinsAt {fp : List Addr} {h : Heap} {p : Addr × Obj} (hp : p ∈ pinsAt fp h) : p.1 ∈ fp ∧ h.get? p.1 = some p.2 := by
  obtain ⟨b, hb, e⟩ := List.mem_filterMap.mp hp
  cases q : h.get? b with
  | none => rw [q] at e; cases e
  | some o =>
    rw [q] at e
    have e' : (b, o) = p := Option.some.inj e
    subst e'
    exact ⟨hb, q⟩
theorem Inv.pinned {pins : List (Addr × Obj)} {σ : St} {H : Hp} {s : Shared} {fp : List Addr} (I : Inv X pins σ H s) (hf : ∀ b ∈ fp, FpOk X pins H b) (ho : ∀ b ∈ fp, ∃ o, s.heap.get? b = some o ∧ ∀ v, o.data ≠ .cell v) : Inv X (pins ++ pinsAt fp s.heap) σ H s :=
  I.pins_of fun p hp => (List.mem_append.mp hp).elim (fun z => I.pin p (List.mem_append_right _ z)) fun z => by
    obtain ⟨hb, e⟩ := of_pinsAt z
    obtain ⟨f0, f1, f2, _⟩ := hf p.1 hb
    obtain ⟨o, e', d⟩ := ho p.1 hb
    rw [e] at e'; cases e'
    exact ⟨e, f0, f1, f2, d⟩
theorem Inv.unpinned {pins pl : List (Addr × Obj)} {σ : St} {H : Hp} {s : Shared} (I : Inv X (pins ++ pl) σ H s) : Inv X pins σ H s := I.pins_of fun p hp => I.pin p (List.mem_append_right _ (List.mem_append_left _ hp))
theorem ps_for {iter : Expr} {body : List Stmt} {wi : TI} {g : TG} {tb : TS} {pos : Pos} (hp : PassesOwn (model X.prog X.w) X.A X.env X.xe) (hc : X.calm = true) (hi : PI X tg iter wi) (hg : PG X tg g) (hb : PSs X body tb)
    (hs : ∀ x, foldedSetIterable iter X.env x = pure x := by intro _; rfl) : PS X (.For tg iter body [] pos) (tFor wi g tb) := by
  intro pins s σ H D I h
  refine wpAny_For (thn (hi pins s σ H _ I h) fun v s1 h1 => thn h1 fun itv s2 h2 => ?_) hs
  obtain ⟨it, fp, tn, J, H2, e, I2, T, st2, f2, W, ⟨m0, w0⟩, turn⟩ := h2
  subst e
  have stat : ∀ {H' : Hp}, (∀ b ∈ fp, H' b = none) → ∀ b ∈ fp, FpOk X pins H' b := fun hn b hb => ⟨hn b hb, (f2 b hb).2⟩
  refine codeAny_forLoop_any (fun n s' => ∃ i σ' H', Inv X pins σ' H' s' ∧ tn i s'.heap ∧ (∀ b ∈ fp, H' b = none) ∧ W i n σ' H') ?_ m0 ⟨0, σ, H2, I2, st2, fun b hb => (f2 b hb).1, w0⟩
  rintro n s3 ⟨i, σ3, H3, I3, st3, fr3, w3⟩
  rcases turn i n σ3 H3 w3 with ⟨stop, qn⟩ | ⟨go, N, hN, step⟩
  · refine wpAny_passesOwn hp (thn (T.done X rfl rfl rfl hc i pins s3 σ3 H3 X.xe I3 (stat fr3) st3 stop) fun r s4 ⟨hr, I4⟩ => ?_)
    subst hr
    exact wpAny_execs_nil ⟨σ3, H3, I4, qn⟩
  · refine wpAny_passesOwn hp (thn (T.item X rfl rfl rfl hc i pins s3 σ3 H3 X.xe I3 (stat fr3) st3 go) fun r s4 ⟨u, hr, h4⟩ => ?_)
    subst hr
    refine wpAny_passesOwn hp (thn h4 fun _ s5 ⟨x, H5, I5, r5, y5, st5, fr5⟩ => ?_)
    have I5' := I5.pinned (stat fr5) (T.obj _ _ st5)
    refine wpAny_passesOwn hp (thn (hg _ s5 σ3 H5 x u _ I5' r5 (step x H5 y5)) fun _ s6 ⟨σ6, H6, I6, q6⟩ => ?_)
    refine wpAny_passesOwn hp (thn (hb _ s6 σ6 H6 _ I6 q6) fun f s7 q7 => ?_)
    have again : ∀ {σ7 : St} {H7 : Hp}, Inv X (pins ++ pinsAt fp s5.heap) σ7 H7 s7 → N σ7 H7 → ∃ m, m < n ∧ ∃ i σ' H', Inv X pins σ' H' s7 ∧ tn i s7.heap ∧ (∀ b ∈ fp, H' b = none) ∧ W i m σ' H' := fun {σ7 H7} I7 n7 => by
      obtain ⟨m', hm, w7⟩ := hN σ7 H7 n7
      refine ⟨m', hm, i + 1, σ7, H7, I7.unpinned, T.keep _ _ _ st5 fun b hb o e => (I7.pin (b, o) (List.mem_append_right _ (List.mem_append_right _ (mem_pinsAt hb e)))).1, fun b hb => ?_, w7⟩
      obtain ⟨o, e, d⟩ := T.obj _ _ st5 b hb
      exact (I7.pin (b, o) (List.mem_append_right _ (List.mem_append_right _ (mem_pinsAt hb e)))).2.1
    cases f with
    | next => obtain ⟨σ7, H7, I7, n7⟩ := q7; exact again I7 n7
    | cont => obtain ⟨σ7, H7, I7, n7⟩ := q7; exact again I7 n7
    | brk => obtain ⟨σ7, H7, I7, q7⟩ := q7; exact ⟨σ7, H7, I7.unpinned, q7⟩
    | ret v => obtain ⟨x7, σ7, H7, I7, r7, q7⟩ := q7; exact ⟨x7, σ7, H7, I7.unpinned, r7, q7⟩
end
end L2
namespace L2
open PySem PySem.Spec PyProof.Rows
abbrev R2 := V → V → Hp → VK → Prop
def OpR (X : Cx) (f : Value → Value → Sem Value) (r : R2) : Prop :=
  ∀ (pins : List (Addr × Obj)) (s : Shared) (σ : St) (H : Hp) (x y : V) (v u : Value) (Q : VK), Inv X pins σ H s → RelV x v → RelV y u → r x y H Q →
    wpAny (model X.prog X.w) X.A (f v u) (EP X pins σ Q) X.xe s
def UnR (X : Cx) (f : Value → Sem Value) (r : V → Hp → VK → Prop) : Prop :=
  ∀ (pins : List (Addr × Obj)) (s : Shared) (σ : St) (H : Hp) (x : V) (v : Value) (Q : VK), Inv X pins σ H s → RelV x v → r x H Q →
    wpAny (model X.prog X.w) X.A (f v) (EP X pins σ Q) X.xe s
def CallR (X : Cx) (f : Value) (r : List V → Hp → VK → Prop) : Prop :=
  ∀ (pins : List (Addr × Obj)) (s : Shared) (σ : St) (H : Hp) (xs : List V) (us : List Value) (Q : VK), Inv X pins σ H s → Vals xs us → r xs H Q →
    wpAny (model X.prog X.w) X.A (call f us) (EP X pins σ Q) X.xe s
def rI (C : Int → Int → Prop) (g : Int → Int → V) : R2 := fun x y H Q => ∃ i j, x = .int i ∧ y = .int j ∧ C i j ∧ Q (g i j) H
def rI0 (g : Int → Int → V) : R2 := fun x y H Q => ∃ i j, x = .int i ∧ y = .int j ∧ Q (g i j) H
def rU (g : Int → V) : V → Hp → VK → Prop := fun x H Q => ∃ i, x = .int i ∧ Q (g i) H
section
variable {X : Cx} {a b c : Expr} {ta tb tc : TE} {pos : Pos}
theorem opI {f : Value → Value → Sem Value} {C : Int → Int → Prop} {g : Int → Int → Int}
    (rule : ∀ (i j : Int) (t u : Tok) (s : Shared) (Q : Value → Shared → Prop) (E : Value → Shared → Prop), C i j → Q (.int (g i j) s.toks) { s with toks := s.toks + 1 } → wpAny (model X.prog X.w) X.A (f (.int i t) (.int j u)) Q E s) :
    OpR X f (rI C fun i j => .int (g i j)) := by
  intro pins s σ H x y v u Q I rx ry h
  obtain ⟨i, j, rfl, rfl, hc, q⟩ := h
  obtain ⟨t, rfl⟩ := rx
  obtain ⟨t', rfl⟩ := ry
  exact rule i j t t' s _ _ hc ⟨.int (g i j), H, I.tok _, ⟨_, rfl⟩, q⟩
theorem opI0 {f : Value → Value → Sem Value} {g : Int → Int → Int}
    (rule : ∀ (i j : Int) (t u : Tok) (s : Shared) (Q : Value → Shared → Prop) (E : Value → Shared → Prop), Q (.int (g i j) s.toks) { s with toks := s.toks + 1 } → wpAny (model X.prog X.w) X.A (f (.int i t) (.int j u)) Q E s) :
    OpR X f (rI0 fun i j => .int (g i j)) := by
  intro pins s σ H x y v u Q I rx ry h
  obtain ⟨i, j, rfl, rfl, q⟩ := h
  obtain ⟨t, rfl⟩ := rx
  obtain ⟨t', rfl⟩ := ry
  exact rule i j t t' s _ _ ⟨.int (g i j), H, I.tok _, ⟨_, rfl⟩, q⟩
theorem opB0 {f : Value → Value → Sem Value} {g : Int → Int → Bool}
    (rule : ∀ (i j : Int) (t u : Tok) (s : Shared) (Q : Value → Shared → Prop) (E : Value → Shared → Prop), Q (.bool (g i j)) s → wpAny (model X.prog X.w) X.A (f (.int i t) (.int j u)) Q E s) :
    OpR X f (rI0 fun i j => .bl (g i j)) := by
  intro pins s σ H x y v u Q I rx ry h
  obtain ⟨i, j, rfl, rfl, q⟩ := h
  obtain ⟨t, rfl⟩ := rx
  obtain ⟨t', rfl⟩ := ry
  exact rule i j t t' s _ _ ⟨.bl (g i j), H, I, rfl, q⟩
def CPow (i j : Int) : Prop := 0 ≤ j ∧ j ≤ 1000000 ∧ i.natAbs < 2 ^ 64
def CMul (i j : Int) : Prop := (-(2 ^ 64) < i ∧ i < 2 ^ 64) ∨ (-(2 ^ 64) < j ∧ j < 2 ^ 64)
theorem CMul.ok {i j : Int} (h : CMul i j) : IntMulOk i j := by
  rcases h with ⟨h1, h2⟩ | ⟨h1, h2⟩
  · exact .of_left (intBits_le_64 h1 h2)
  · exact .of_right (intBits_le_64 h1 h2)
theorem two_pow_nn (k : Nat) : (0 : Int) ≤ 2 ^ k := by
  rw [two_pow_cast]
  exact Int.natCast_nonneg _
theorem op_add : OpR X (binaryOp .Add) (rI0 fun i j => .int (i + j)) := opI0 fun _ _ _ _ _ _ _ q => add_int q
theorem op_sub : OpR X (binaryOp .Sub) (rI0 fun i j => .int (i - j)) := opI0 fun _ _ _ _ _ _ _ q => sub_int q
theorem op_mul : OpR X (binaryOp .Mult) (rI CMul fun i j => .int (i * j)) := opI fun _ _ _ _ _ _ _ hc q => mul_int q hc.ok
theorem op_mod : OpR X (binaryOp .Mod) (rI (fun _ j => 0 < j) fun i j => .int (i % j)) := opI fun i j _ _ _ _ _ hc q => by
  have h1 : (0 : Int) < j := hc
  exact mod_int' (by omega) (by rw [Int.fmod_eq_emod_of_nonneg i (by omega)]; exact q)
theorem op_pow : OpR X (binaryOp .Pow) (rI CPow fun i j => .int (i ^ j.toNat)) := opI fun _ _ _ _ _ _ _ hc q => pow_int_small hc.1 hc.2.1 hc.2.2 q
theorem op_shr : OpR X (binaryOp .RShift) (rI (fun _ j => 0 ≤ j) fun i j => .int (i / 2 ^ j.toNat)) := opI fun i j _ _ _ _ _ hc q =>
  rshift_int hc (by rw [Int.fdiv_eq_ediv_of_nonneg i (two_pow_nn _)]; exact q)
theorem op_and : OpR X (binaryOp .BitAnd) (rI0 fun i j => .int (Builtin.bitAnd i j)) := opI0 fun _ _ _ _ _ _ _ q => and_int q
theorem unI {f : Value → Sem Value} {g : Int → Int}
    (rule : ∀ (i : Int) (t : Tok) (s : Shared) (Q : Value → Shared → Prop) (E : Value → Shared → Prop), Q (.int (g i) s.toks) { s with toks := s.toks + 1 } → wpAny (model X.prog X.w) X.A (f (.int i t)) Q E s) :
    UnR X f (rU fun i => .int (g i)) := by
  intro pins s σ H x v Q I rx h
  obtain ⟨i, rfl, q⟩ := h
  obtain ⟨t, rfl⟩ := rx
  exact rule i t s _ _ ⟨.int (g i), H, I.tok _, ⟨_, rfl⟩, q⟩
theorem un_neg : UnR X (unaryOp .USub) (rU fun i => .int (-i)) := unI fun _ _ _ _ _ q => neg_int q
end
def scal : V → V → Bool
  | .non, .non => true | .non, .int _ => true | .int _, .non => true | .non, .bl _ => true | .bl _, .non => true | .non, .str _ => true | .str _, .non => true
  | .int _, .int _ => true | .bl _, .bl _ => true | .str _, .str _ => true | .byt _, .byt _ => true
  | .int _, .str _ => true | .str _, .int _ => true | .bl _, .str _ => true | .str _, .bl _ => true
  | _, _ => false
def rEq : R2 := fun x y H Q => scal x y = true ∧ Q (.bl (decide (x = y))) H
def rNe : R2 := fun x y H Q => scal x y = true ∧ Q (.bl (!decide (x = y))) H
theorem dec_int {i j : Int} : decide (V.int i = V.int j) = (i == j) := by
  rw [Bool.eq_iff_iff]
  simp
theorem dec_bl {i j : Bool} : decide (V.bl i = V.bl j) = (i == j) := by
  rw [Bool.eq_iff_iff]
  simp
theorem dec_str {i j : Str} : decide (V.str i = V.str j) = (i == j) := by
  rw [Bool.eq_iff_iff]
  simp
theorem dec_byt {i j : Array UInt8} : decide (V.byt i = V.byt j) = (i.toList == j.toList) := by
  rw [Bool.eq_iff_iff]
  cases i
  cases j
  simp
section
variable {X : Cx} {a b c : Expr} {ta tb tc : TE} {pos : Pos}
theorem fin_bl {pins : List (Addr × Obj)} {σ : St} {H : Hp} {s : Shared} {Q : VK} {k k' : Bool} (I : Inv X pins σ H s) (q : Q (.bl k) H) (e : k = k') : EP X pins σ Q (.bool k') s := by
  subst e
  exact ⟨.bl k, H, I, rfl, q⟩
theorem op_eq : OpR X (compareOp .Eq) rEq := by
  intro pins s σ H x y v u Q I rx ry h
  obtain ⟨hs, q⟩ := h
  cases x with
  | non =>
    cases rx
    cases y with
    | non => cases ry; exact PySem.EqNone.eq_none_none (fin_bl I q (by simp))
    | bl j => cases ry; exact PySem.EqNone.eq_none_bool (fin_bl I q (by simp))
    | int j => obtain ⟨t', rfl⟩ := ry; exact PySem.EqNone.eq_none_int (fin_bl I q (by simp))
    | str j => obtain ⟨t', rfl⟩ := ry; exact PySem.EqNone.eq_none_str (fin_bl I q (by simp))
    | _ => exact absurd (show false = true from hs) Bool.false_ne_true
  | bl i =>
    cases rx
    cases y with
    | non => cases ry; exact PySem.EqNone.eq_bool_none (fin_bl I q (by simp))
    | bl j => cases ry; exact eq_bool (fin_bl I q dec_bl)
    | str j => obtain ⟨t', rfl⟩ := ry; exact PySem.EqMixed.eq_bool_str (fin_bl I q (by simp))
    | _ => exact absurd (show false = true from hs) Bool.false_ne_true
  | int i =>
    obtain ⟨t, rfl⟩ := rx
    cases y with
    | non => cases ry; exact PySem.EqNone.eq_int_none (fin_bl I q (by simp))
    | int j => obtain ⟨t', rfl⟩ := ry; exact eq_int (fin_bl I q dec_int)
    | str j => obtain ⟨t', rfl⟩ := ry; exact PySem.EqMixed.eq_int_str (fin_bl I q (by simp))
    | _ => exact absurd (show false = true from hs) Bool.false_ne_true
  | str i =>
    obtain ⟨t, rfl⟩ := rx
    cases y with
    | non => cases ry; exact PySem.EqNone.eq_str_none (fin_bl I q (by simp))
    | bl j => cases ry; exact PySem.EqMixed.eq_str_bool (fin_bl I q (by simp))
    | int j => obtain ⟨t', rfl⟩ := ry; exact PySem.EqMixed.eq_str_int (fin_bl I q (by simp))
    | str j => obtain ⟨t', rfl⟩ := ry; exact eq_str (fin_bl I q dec_str)
    | _ => exact absurd (show false = true from hs) Bool.false_ne_true
  | byt i =>
    obtain ⟨t, rfl⟩ := rx
    cases y with
    | byt j => obtain ⟨t', rfl⟩ := ry; exact PySem.W.eq_bytes (fin_bl I q dec_byt)
    | _ => exact absurd (show false = true from hs) Bool.false_ne_true
  | _ => cases y <;> exact absurd (show false = true from hs) Bool.false_ne_true
theorem op_ne : OpR X (compareOp .NotEq) rNe := by
  intro pins s σ H x y v u Q I rx ry h
  obtain ⟨hs, q⟩ := h
  cases x with
  | non =>
    cases rx
    cases y with
    | non => cases ry; exact PySem.EqNone.ne_none_none (fin_bl I q (by simp))
    | bl j => cases ry; exact PySem.EqNone.ne_none_bool (fin_bl I q (by simp))
    | int j => obtain ⟨t', rfl⟩ := ry; exact PySem.EqNone.ne_none_int (fin_bl I q (by simp))
    | str j => obtain ⟨t', rfl⟩ := ry; exact PySem.EqNone.ne_none_str (fin_bl I q (by simp))
    | _ => exact absurd (show false = true from hs) Bool.false_ne_true
  | bl i =>
    cases rx
    cases y with
    | non => cases ry; exact PySem.EqNone.ne_bool_none (fin_bl I q (by simp))
    | bl j => cases ry; exact ne_bool (fin_bl I q (congrArg not dec_bl))
    | str j => obtain ⟨t', rfl⟩ := ry; exact PySem.EqMixed.ne_bool_str (fin_bl I q (by simp))
    | _ => exact absurd (show false = true from hs) Bool.false_ne_true
  | int i =>
    obtain ⟨t, rfl⟩ := rx
    cases y with
    | non => cases ry; exact PySem.EqNone.ne_int_none (fin_bl I q (by simp))
    | int j => obtain ⟨t', rfl⟩ := ry; exact ne_int (fin_bl I q (congrArg not dec_int))
    | str j => obtain ⟨t', rfl⟩ := ry; exact PySem.EqMixed.ne_int_str (fin_bl I q (by simp))
    | _ => exact absurd (show false = true from hs) Bool.false_ne_true
  | str i =>
    obtain ⟨t, rfl⟩ := rx
    cases y with
    | non => cases ry; exact PySem.EqNone.ne_str_none (fin_bl I q (by simp))
    | bl j => cases ry; exact PySem.EqMixed.ne_str_bool (fin_bl I q (by simp))
    | int j => obtain ⟨t', rfl⟩ := ry; exact PySem.EqMixed.ne_str_int (fin_bl I q (by simp))
    | str j => obtain ⟨t', rfl⟩ := ry; exact ne_str (fin_bl I q (congrArg not dec_str))
    | _ => exact absurd (show false = true from hs) Bool.false_ne_true
  | byt i =>
    obtain ⟨t, rfl⟩ := rx
    cases y with
    | byt j => obtain ⟨t', rfl⟩ := ry; exact PySem.W.ne_bytes (fin_bl I q (congrArg not dec_byt))
    | _ => exact absurd (show false = true from hs) Bool.false_ne_true
  | _ => cases y <;> exact absurd (show false = true from hs) Bool.false_ne_true
theorem op_lt : OpR X (compareOp .Lt) (rI0 fun i j => .bl (decide (i < j))) := opB0 fun _ _ _ _ _ _ _ q => lt_int q
theorem op_le : OpR X (compareOp .LtE) (rI0 fun i j => .bl (decide (i ≤ j))) := opB0 fun _ _ _ _ _ _ _ q => le_int q
theorem op_gt : OpR X (compareOp .Gt) (rI0 fun i j => .bl (decide (j < i))) := opB0 fun _ _ _ _ _ _ _ q => gt_int q
theorem op_ge : OpR X (compareOp .GtE) (rI0 fun i j => .bl (decide (j ≤ i))) := opB0 fun _ _ _ _ _ _ _ q => ge_int q
theorem op_in_str : OpR X (compareOp .In) (fun x y H Q => ∃ i j, x = .str i ∧ y = .str j ∧ Q (.bl (!(Builtin.Str.occurrences j i 0 j.length 1).isEmpty)) H) := by
  intro pins s σ H x y v u Q I rx ry h
  obtain ⟨i, j, rfl, rfl, q⟩ := h
  obtain ⟨t, rfl⟩ := rx
  obtain ⟨t', rfl⟩ := ry
  exact in_str (fin_bl I q rfl)
theorem op_isN : OpR X (compareOp .Is) (fun x y H Q => y = .non ∧ Q (.bl (decide (x = .non))) H) := by
  intro pins s σ H x y v u Q I rx ry h
  obtain ⟨rfl, q⟩ := h
  cases ry
  refine is_none_gen (fin_bl I q ?_)
  cases x <;> first
    | (cases rx; rfl)
    | (obtain ⟨t, rfl⟩ := rx; rfl)
theorem op_notN : OpR X (compareOp .IsNot) (fun x y H Q => y = .non ∧ Q (.bl (!decide (x = .non))) H) := by
  intro pins s σ H x y v u Q I rx ry h
  obtain ⟨rfl, q⟩ := h
  cases ry
  refine isnot_none_gen (fin_bl I q ?_)
  cases x <;> first
    | (cases rx; rfl)
    | (obtain ⟨t, rfl⟩ := rx; rfl)
theorem op_notin_str : OpR X (compareOp .NotIn) (fun x y H Q => ∃ i j, x = .str i ∧ y = .str j ∧ Q (.bl (!(!(Builtin.Str.occurrences j i 0 j.length 1).isEmpty))) H) := by
  intro pins s σ H x y v u Q I rx ry h
  obtain ⟨i, j, rfl, rfl, q⟩ := h
  obtain ⟨t, rfl⟩ := rx
  obtain ⟨t', rfl⟩ := ry
  exact notIn_str (fin_bl I q rfl)
theorem nomark (b : Expr) {op : CmpOp} (h : op ≠ .In := by decide) (h2 : op ≠ .NotIn := by decide) : behindInMarks op b = false := by
  have e1 : (op == CmpOp.In) = false := by cases op <;> first | rfl | exact absurd rfl h
  have e2 : (op == CmpOp.NotIn) = false := by cases op <;> first | rfl | exact absurd rfl h2
  cases b <;> simp [behindInMarks, e1, e2]
theorem line63 : (sizeLine : Nat) < 2 ^ 63 := by rw [sizeLine_eq]; decide
theorem op_add_str : OpR X (binaryOp .Add) (fun x y H Q => ∃ i j, x = .str i ∧ y = .str j ∧ i.length + j.length ≤ sizeLine ∧ Q (.str (i ++ j)) H) := by
  intro pins s σ H x y v u Q I rx ry h
  obtain ⟨i, j, rfl, rfl, hz, q⟩ := h
  obtain ⟨t, rfl⟩ := rx
  obtain ⟨t', rfl⟩ := ry
  exact add_str (fun t' tk => ⟨.str (i ++ j), H, I.tok _, ⟨_, rfl⟩, q⟩) hz
theorem vals1 {x : V} {us : List Value} (r : Vals [x] us) : ∃ u, us = [u] ∧ RelV x u := by
  cases r with
  | cons r1 r2 => cases r2; exact ⟨_, rfl, r1⟩
theorem vals2 {x y : V} {us : List Value} (r : Vals [x, y] us) : ∃ u w', us = [u, w'] ∧ RelV x u ∧ RelV y w' := by
  cases r with
  | cons r1 r2 =>
    cases r2 with
    | cons r3 r4 => cases r4; exact ⟨_, _, rfl, r1, r3⟩
end
end L2
namespace L2
open PySem PySem.Spec PyProof.Rows
structure ObjM (h : Heap) (x dx C : Addr) (mA : Str → Option Value) : Prop where
  obj : h.get? x = some (PySem.W.instObj C dx)
  ns : h.Ns1 dx mA
  ne : dx ≠ x
theorem lookIn_ns {h : Heap} {dx : Addr} {mA : Str → Option Value} (n : h.Ns1 dx mA) : ∃ od, h.get? dx = some od ∧ ∀ name, PySem.W.lookIn name od = some (mA name) := by
  obtain ⟨o, es, ep, ho, hd, hk, _, hm⟩ := n
  refine ⟨o, ho, fun name => ?_⟩
  have e := hm name
  unfold nsFind findBy at e
  rw [← Array.find?_toList] at e
  unfold PySem.W.lookIn
  rw [hd]
  dsimp only
  split
  · rename_i y q
    rw [q] at e
    exact congrArg some e
  · rename_i q
    rw [q] at e
    have a : es.toList.any (·.refKey) = false := by
      rw [List.any_eq_false]
      intro y hy
      obtain ⟨z, t, hkey⟩ := hk y (Array.mem_toList_iff.mp hy)
      simp [DictEntry.refKey, hkey]
    have a' : ¬ es.toList.any (·.refKey) = true := by rw [a]; exact Bool.false_ne_true
    rw [if_neg a']
    exact congrArg some e
theorem ObjM.look {h : Heap} {x dx C : Addr} {mA : Str → Option Value} (I : ObjM h x dx C mA) : ∃ od, PySem.W.InstAt h x (PySem.W.instObj C dx) C (some od) ∧ ∀ name, PySem.W.lookIn name od = some (mA name) :=
  let ⟨od, ho, hl⟩ := lookIn_ns I.ns
  ⟨od, ⟨I.obj, rfl, rfl, ho⟩, hl⟩
section
variable {prog : Program} {w : World} {A : Around} {E : Value → Shared → Prop} {s : Shared} {K : PySem.W.Frag} {x dx C f : Addr} {mA : Str → Option Value} {name : Str} {v : Value}
theorem get_map {expr : Bool} {Q : Value → Shared → Prop} (X : K.In s.heap) (I : ObjM s.heap x dx C mA) (hg : PySem.W.plainGet K C name = true) (hh : PySem.W.hasDictIn K C = true)
    (ha : PySem.W.findIn K (.ref C) name = some none) (hv : mA name = some v) (hv' : PySem.W.handedIn v = true) (h : Q v { s with toks := s.toks + 1 }) :
    wpAny (model prog w) A (getAttr (.ref x) name expr) Q E s := by
  obtain ⟨od, J, hl⟩ := I.look
  exact PySem.W.get_value X J (PySem.W.plainGet_of hg).1 (PySem.W.findObj_own hh ha rfl (by rw [hl, hv])) hv' h
theorem set_map {ns : List Str} {Q : Unit → Shared → Prop} (X : K.In s.heap) (I : ObjM s.heap x dx C mA)
    (hs : PySem.W.findIn K (.ref C) "__setattr__" = some (some (.builtin "object.__setattr__"))) (hp : PySem.W.plainOver K C = true) (ht : PySem.W.takerIn K C name = some none) (hh : PySem.W.hasDictIn K C = true)
    (hw : PySem.Within mA ns) (hsz : ns.length ≤ sizeLine)
    (h : ∀ h', ObjM h' x dx C (fun y => if y = name then some v else mA y) → Heap.SameBut dx s.heap h' → Q () { s with heap := h', toks := s.toks + 2 }) :
    wpAny (model prog w) A (setAttr (.ref x) name v) Q E s := by
  obtain ⟨od, J, hl⟩ := I.look
  refine PySem.W.set_plain X J hs (PySem.W.osa_open (s := { s with toks := s.toks + 1 }) (r := none) X J hp ht fun b => ?_)
  obtain ⟨cd, hc, hd'⟩ := PySem.W.any_some hh
  have hx : s.heap.get? x = some ⟨.ref C, some dx, .plain, #[]⟩ := I.obj
  refine wpAny_bind (wpAny_pure (wpAny_bind (wpAny_bind (wpAny_loadPart hx (wpAny_bind (PySem.W.Looks.here (s := { s with toks := s.toks + 1 }) (PySem.W.looks_clsIn X hc) ?_))))))
  rw [hd']
  refine wpAny_pure (a := some dx) (wpAny_bind (wpAny_pure (wpAny_bind ?_)))
  refine wpAny_nsSet1 (s := { s with toks := s.toks + 1 }) I.ns fun h' hn2 hs2 => ?_
  obtain ⟨oD, esD, epD, hoD, hdD, hcD⟩ := hn2.count (PySem.Within.cons name v hw)
  refine wpAny_bind (wpAny_lookBehind hoD (by rw [hdD]; exact pastItsLine_dict (Nat.le_trans hcD (by rw [List.length_cons]; omega))) ?_)
  exact wpAny_pure (h _ ⟨(hs2.2 _ (Ne.symm I.ne)).trans I.obj, hn2, I.ne⟩ hs2)
theorem make_map {R : Result → Shared → Prop} {vs : List Value} {kw : List (Str × Value)} (X : K.In s.heap) (hm : PySem.W.makesIn K C = true)
    (hi : PySem.W.findIn K (.ref C) "__init__" = some (some (.ref f))) (hf : PySem.W.typeIn K (.ref f) = some (.type "function"))
    (h : codeAny (model prog w) (A.under (.builtin "type.__call__" ⟨.ref C :: vs, kw⟩)) (.call (.ref f) ⟨.ref (s.heap.objs.size + 1) :: vs, kw⟩) (PySem.W.InitBack (s.heap.objs.size + 1) R)
      { s with heap := (s.heap.push PySem.W.emptyDict).push (PySem.W.instObj C s.heap.objs.size) }) :
    codeAny (model prog w) A (.call (.ref C) ⟨vs, kw⟩) R s := by
  obtain ⟨hh, g, d, t, os⟩ := s
  exact PySem.W.make_core (PySem.W.makes_of X hm) (PySem.W.looks_findIn X hi) (fun self => PySem.W.bind_fn X self hf) (.inl rfl) h
end
def putF (f : Str) (v : V) : List (Str × V) → List (Str × V)
  | [] => [(f, v)]
  | (g, x) :: r => if g = f then (g, v) :: r else (g, x) :: putF f v r
theorem lookup_putF (f g : Str) (v : V) : ∀ fs : List (Str × V), (putF f v fs).lookup g = if g = f then some v else fs.lookup g
  | [] => by
    show List.lookup g [(f, v)] = _
    by_cases h : g = f
    · have hb : (g == f) = true := beq_iff_eq.mpr h
      simp only [List.lookup, hb, if_pos h]
    · have hb : (g == f) = false := beq_eq_false_iff_ne.mpr h
      simp only [List.lookup, hb, if_neg h]
  | (k, x) :: r => by
    have ih := lookup_putF f g v r
    rw [show putF f v ((k, x) :: r) = (if k = f then (k, v) :: r else (k, x) :: putF f v r) from rfl]
    by_cases hk : k = f
    · rw [if_pos hk]
      by_cases h : g = k
      · have hb : (g == k) = true := beq_iff_eq.mpr h
        simp only [List.lookup, hb, if_pos (h.trans hk)]
      · have hb : (g == k) = false := beq_eq_false_iff_ne.mpr h
        simp only [List.lookup, hb, if_neg (fun e : g = f => h (e.trans hk.symm))]
    · rw [if_neg hk]
      by_cases h : g = k
      · have hb : (g == k) = true := beq_iff_eq.mpr h
        simp only [List.lookup, hb, if_neg (fun e : g = f => hk (h.symm.trans e))]
      · have hb : (g == k) = false := beq_eq_false_iff_ne.mpr h
        simp only [List.lookup, hb]
        exact ih
theorem keys_putF (f : Str) (v : V) : ∀ fs : List (Str × V), f ∈ (putF f v fs).map (·.1) ∧ ∀ g, g ∈ fs.map (·.1) → g ∈ (putF f v fs).map (·.1)
  | [] => ⟨by simp [putF], fun g h => by simp at h⟩
  | (k, x) :: r => by
    obtain ⟨i1, i2⟩ := keys_putF f v r
    rw [show putF f v ((k, x) :: r) = (if k = f then (k, v) :: r else (k, x) :: putF f v r) from rfl]
    by_cases hk : k = f
    · rw [if_pos hk]
      subst hk
      exact ⟨by simp, fun g h => by simpa using h⟩
    · rw [if_neg hk]
      refine ⟨?_, fun g h => ?_⟩
      · rw [List.map_cons]
        exact List.mem_cons_of_mem _ i1
      · rw [List.map_cons] at h ⊢
        rcases List.mem_cons.mp h with e | e
        · exact List.mem_cons.mpr (.inl e)
        · exact List.mem_cons_of_mem _ (i2 g e)
theorem length_putF (f : Str) (v : V) : ∀ fs : List (Str × V), (putF f v fs).length ≤ fs.length + 1
  | [] => by simp [putF]
  | (k, x) :: r => by
    have ih := length_putF f v r
    rw [show putF f v ((k, x) :: r) = (if k = f then (k, v) :: r else (k, x) :: putF f v r) from rfl]
    by_cases hk : k = f
    · rw [if_pos hk, List.length_cons, List.length_cons]; omega
    · rw [if_neg hk, List.length_cons, List.length_cons]; omega
theorem RelO.some_of {v : V} {o : Option Value} (r : RelO (some v) o) : ∃ u, o = some u ∧ RelV v u := by
  cases o with
  | none => exact (show False from r).elim
  | some u => exact ⟨u, rfl, r⟩
theorem handed_of {v : V} {u : Value} (r : RelV v u) : PySem.W.handedIn u = true := by
  cases v with
  | non => cases (show u = Value.none from r); rfl
  | bl b => cases (show u = Value.bool b from r); rfl
  | int i => obtain ⟨t, e⟩ := (show ∃ t, u = Value.int i t from r); cases e; rfl
  | str x => obtain ⟨t, e⟩ := (show ∃ t, u = Value.str x t from r); cases e; rfl
  | byt b => obtain ⟨t, e⟩ := (show ∃ t, u = Value.bytes b t from r); cases e; rfl
  | flt b => obtain ⟨t, e⟩ := (show ∃ t, u = Value.float b t from r); cases e; rfl
  | ref a => cases (show u = Value.ref a from r); rfl
  | ty n => cases (show u = Value.type n from r); rfl
section
variable {P : Program} {w : World} {H H' : Hp} {h h' : Heap} {a C dx : Addr} {fs fs' : List (Str × V)}
theorem ins_get (hok : HOk P w H h) (e : H a = some (.ins C dx fs)) : ∃ mA, ObjM h a dx C mA ∧ (∀ f, RelO (fs.lookup f) (mA f)) ∧ PySem.Within mA (fs.map (·.1)) ∧ fs.length ≤ 1000 ∧ H dx = some (.own a) := by
  obtain ⟨d, z, ne, ob, mA, n, r, q⟩ := (show ObjOk P w H h a (.ins C dx fs) from hok a _ e)
  exact ⟨mA, ⟨ob, n, ne⟩, r, q, z, d⟩
end
structure Cls (K : PySem.W.Frag) (C : Addr) : Prop where
  pg : PySem.W.plainGet K C Str.empty = true
  hd : PySem.W.hasDictIn K C = true
  po : PySem.W.plainOver K C = true
  sa : PySem.W.findIn K (.ref C) "__setattr__" = some (some (.builtin "object.__setattr__"))
theorem Cls.get {K : PySem.W.Frag} {C : Addr} (c : Cls K C) (f : Str) : PySem.W.plainGet K C f = true := c.pg
def NoAttr (K : PySem.W.Frag) (C : Addr) (f : Str) : Prop := PySem.W.findIn K (.ref C) f = some none
theorem NoAttr.taker {K : PySem.W.Frag} {C : Addr} {f : Str} (n : NoAttr K C f) : PySem.W.takerIn K C f = some none := by
  unfold PySem.W.takerIn
  rw [show PySem.W.findIn K (.ref C) f = some none from n]
  rfl
structure Meth (K : PySem.W.Frag) (C : Addr) (m : Str) (f : Addr) : Prop where
  at_ : PySem.W.findIn K (.ref C) m = some (some (.ref f))
  fn : PySem.W.isFn K (.ref f) = true
  kp : PySem.W.keepIn K (.ref f) = true
section
variable {X : Cx} {pins : List (Addr × Obj)} {σ : St} {H : Hp} {s : Shared} {a C dx : Addr} {fs : List (Str × V)} {f : Str} {v : V} {A : Around} {E : Value → Shared → Prop}
theorem getattr_ok {b : Bool} {Q : Value → Shared → Prop} (I : Inv X pins σ H s) (e : H a = some (.ins C dx fs)) (c : Cls X.K C) (n : NoAttr X.K C f) (l : fs.lookup f = some v)
    (h : ∀ u s', Inv X pins σ H s' → RelV v u → Q u s') : wpAny (model X.prog X.w) A (getAttr (.ref a) f b) Q E s := by
  obtain ⟨mA, O, r, _, _, _⟩ := ins_get I.hok e
  obtain ⟨u, hu, ru⟩ := RelO.some_of (v := v) (o := mA f) (by rw [← l]; exact r f)
  exact get_map I.kIn O (c.get f) c.hd n hu (handed_of ru) (h u _ (I.tok _) ru)
theorem setattr_ok {y : V} {u : Value} {Q : Unit → Shared → Prop} (I : Inv X pins σ H s) (e : H a = some (.ins C dx fs)) (c : Cls X.K C) (n : NoAttr X.K C f) (hl : fs.length < 1000) (ry : RelV y u)
    (h : ∀ s', Inv X pins σ (upd H a (.ins C dx (putF f y fs))) s' → Q () s') : wpAny (model X.prog X.w) A (setAttr (.ref a) f u) Q E s := by
  obtain ⟨mA, O, r, wi, _, ho⟩ := ins_get I.hok e
  have hz : (fs.map (·.1)).length ≤ sizeLine := by rw [List.length_map, sizeLine_eq]; omega
  refine set_map I.kIn O c.sa c.po n.taker c.hd wi hz fun h' O' sb => h _ ?_
  have hd : ∃ o, h'.get? dx = some o := let ⟨o, _, _, e', _⟩ := O'.ns; ⟨o, e'⟩
  refine I.write (x := a) (e := dx) (by rw [e]; exact True.intro) (.inr ho) (fun b q hb z => (sb.2 b hb).trans z) hd ?_
  refine ⟨by rw [upd_ne O.ne]; exact ho, ?_, O.ne, O'.obj, _, O'.ns, fun g => ?_, fun g hg => ?_⟩
  · have := length_putF f y fs; omega
  · show RelO ((putF f y fs).lookup g) (if g = f then some u else mA g)
    rw [lookup_putF]
    by_cases q : g = f
    · rw [if_pos q, if_pos q]; exact ry
    · rw [if_neg q, if_neg q]; exact r g
  · by_cases q : g = f
    · rw [q]; exact (keys_putF f y fs).1
    · refine (keys_putF f y fs).2 g (wi g fun z => hg ?_)
      show (if g = f then some u else mA g) = none
      rw [if_neg q]; exact z
theorem Inv.made (I : Inv X pins σ H s) : Inv X pins σ (upd (upd H s.heap.objs.size (.own (s.heap.objs.size + 1))) (s.heap.objs.size + 1) (.ins C s.heap.objs.size []))
    { s with heap := (s.heap.push PySem.W.emptyDict).push (PySem.W.instObj C s.heap.objs.size) } := by
  have e1 : (s.heap.push PySem.W.emptyDict).get? s.heap.objs.size = some PySem.W.emptyDict := Heap.get?_push_size s.heap rfl
  have e2 : ((s.heap.push PySem.W.emptyDict).push (PySem.W.instObj C s.heap.objs.size)).get? (s.heap.objs.size + 1) = some (PySem.W.instObj C s.heap.objs.size) := by
    have := Heap.get?_push_size (s.heap.push PySem.W.emptyDict) (o := PySem.W.instObj C s.heap.objs.size) rfl
    rwa [Heap.size_push] at this
  have e3 : (s.heap.push PySem.W.emptyDict).Ns s.heap.objs.size (fun _ => none) := ⟨PySem.W.emptyDict, #[], _, e1, rfl, (fun e he => absurd he (by simp)), fun _ => rfl⟩
  have I1 := I.laid (a := s.heap.objs.size) (o := .own (s.heap.objs.size + 1)) (h' := s.heap.push PySem.W.emptyDict) (t' := s.toks) (fun b u q => Heap.get?_push_of_some _ q) (Nat.le_refl _) ⟨_, e1⟩
  refine I1.laid (a := s.heap.objs.size + 1) (o := .ins C s.heap.objs.size []) (t' := s.toks) (fun b u q => Heap.get?_push_of_some _ q) (Nat.le_of_eq (Heap.size_push _ _)) ?_
  have ne : s.heap.objs.size ≠ s.heap.objs.size + 1 := Nat.ne_of_lt (Nat.lt_succ_self _)
  refine ⟨by rw [upd_ne ne, upd_same], Nat.zero_le _, ne, e2, fun _ => none, (Heap.Ns1.of_empty e3).at fun o q => Heap.get?_push_of_some _ q, fun _ => True.intro, fun y hy => absurd rfl hy⟩
theorem attr_of {prog : Program} {w : World} {env : Env} {e : Expr} {f : Str} {pos : Pos} {s : Shared} {Q : Value → Shared → Prop} (hb : attributeBase e f env (eval e env) = eval e env)
    (h : wpAny (model prog w) A (eval e env) (fun o s₁ => wpAny (model prog w) A (getAttr o f true) Q E s₁) E s) : wpAny (model prog w) A (eval (.Attribute e f pos) env) Q E s :=
  Attribute_any_ h (by rw [arm_eval_Attribute, hb])
end
def tFld (K : PySem.W.Frag) (ta : TE) (f : Str) : TE := fun σ H Q => ta σ H fun x H1 => ∃ a C dx fs v, x = .ref a ∧ H1 a = some (.ins C dx fs) ∧ Cls K C ∧ NoAttr K C f ∧ fs.lookup f = some v ∧ Q v H1
def sFld (K : PySem.W.Frag) (ta tv : TE) (f : Str) : TS := fun D σ H => tv σ H fun y H1 => ta σ H1 fun x H2 => ∃ a C dx fs, x = .ref a ∧ H2 a = some (.ins C dx fs) ∧ Cls K C ∧ NoAttr K C f ∧ fs.length < 1000 ∧
  D.nx σ (upd H2 a (.ins C dx (putF f y fs)))
section
variable {X : Cx} {o e value : Expr} {f : Str} {pos pos' tpos : Pos} {ta tv : TE}
theorem pe_fld (he : PE X e ta) (hb : attributeBase e f X.env (eval e X.env) = eval e X.env) : PE X (.Attribute e f pos) (tFld X.K ta f) := by
  intro pins s σ H Q I h
  refine attr_of hb (thn (he pins s σ H _ I h) fun u s1 ⟨x, H1, I1, rx, a, C, dx, fs, v, ex, ea, c, n, l, q⟩ => ?_)
  subst ex
  obtain rfl : u = Value.ref a := rx
  exact getattr_ok I1 ea c n l fun u' s2 I2 ru => ⟨v, H1, I2, ru, q⟩
theorem ps_fld (ha : PE X o ta) (hv : PE X value tv) (hs : swapsWith value (some (.Attribute o f pos')) pos.line X.env = pure false) : PS X (.Assign [.Attribute o f pos'] value pos) (sFld X.K ta tv f) := by
  intro pins s σ H D I h
  refine plainObj_wpAny_Assign_Attribute (thn (hv pins s σ H _ I h) fun u s1 ⟨y, H1, I1, ry, q⟩ => thn (ha pins s1 σ H1 _ I1 q) fun ov s2 ⟨x, H2, I2, rx, a, C, dx, fs, ex, ea, c, n, l, q2⟩ => ?_) hs
  subst ex
  obtain rfl : ov = Value.ref a := rx
  exact setattr_ok I2 ea c n l ry fun s3 I3 => ⟨σ, _, I3, q2⟩
def rSub : V → V → Hp → VK → Prop := fun x y H Q => ∃ i j, x = .int i ∧ y = .int j ∧ Q (.int (i - j)) H
end
section
variable {X : Cx} {pins : List (Addr × Obj)} {σ : St} {H : Hp} {s : Shared} {A : Around} {E : Value → Shared → Prop} {Q : Value → Shared → Prop} {c : Value} {b : Bool}
end
end L2
namespace L2
open PySem PySem.Spec PyProof.Rows
structure Room (k : Nat) (A : Around) : Prop where
  hd : A.handled = none
  dp : A.depth + 3 * k + 5 < recursionLimit
  un : A.units + 16 * k + 200 < cLine
theorem Room.mono {j k : Nat} {A : Around} (r : Room k A) (h : j ≤ k) : Room j A := ⟨r.hd, by have := r.dp; omega, by have := r.un; omega⟩
theorem Room.deeper {k : Nat} {A : Around} (r : Room (k + 1) A) (env : Env) : Room k (A.deeper env) :=
  ⟨r.hd, by have := r.dp; show A.depth + 1 + 3 * k + 5 < _; omega, by have := r.un; show A.units + 3 + 16 * k + 200 < _; omega⟩
theorem make_depth {A : Around} {C : Addr} {us : List Value} {kw : List (Str × Value)} : (A.under (.builtin "type.__call__" ⟨.ref C :: us, kw⟩)).depth = A.depth + 1 := by
  first | rfl | simp [Around.under, Code.weight, Code.isCreation, Code.isGuard, Code.isCaller, Code.frames, Code.isFrame, guardIds]
theorem make_units {A : Around} {C : Addr} {us : List Value} {kw : List (Str × Value)} : (A.under (.builtin "type.__call__" ⟨.ref C :: us, kw⟩)).units = A.units + 1 := by
  first | rfl | simp [Around.under, Code.cUnits, Code.frames, Code.isFrame]
theorem Room.make {k : Nat} {A : Around} (r : Room (k + 1) A) (C : Addr) (us : List Value) (kw : List (Str × Value)) : Room k (A.under (.builtin "type.__call__" ⟨.ref C :: us, kw⟩)) :=
  ⟨r.hd, by have := r.dp; rw [make_depth]; omega, by have := r.un; rw [make_units]; omega⟩
theorem Room.depth {k : Nat} {A : Around} (r : Room k A) : A.depth < recursionLimit := by have := r.dp; omega
def tNil : TA := fun _ H Q => Q [] H
def tCons (ta : TE) (tr : TA) : TA := fun σ H Q => ta σ H fun x H1 => tr σ H1 fun xs H2 => Q (x :: xs) H2
section
variable {X : Cx} {e : Expr} {es : List Expr} {te : TE} {t : TA} {pos : Pos}
theorem pa_nil : PA X [] tNil := fun _ _ _ _ H Q I h => Calls.spliced_nil ⟨[], H, I, .nil, h⟩
theorem pa_cons (ha : PE X e te) (hr : PA X es t) (hs : starEach (e :: es) X.env = (false, eval e X.env) :: starEach es X.env := by rfl) : PA X (e :: es) (tCons te t) := by
  intro pos pins s σ H Q I h
  rw [hs]
  show wpAny _ _ (spliced ((false, eval e X.env) :: backTo pos (starEach es X.env))) _ _ s
  refine Calls.spliced_cons (thn (ha pins s σ H _ I h) fun u s1 ⟨x, H1, I1, r1, q1⟩ => ?_)
  exact thn (hr pos pins s1 σ H1 _ I1 q1) fun us s2 ⟨xs, H2, I2, r2, q2⟩ => ⟨x :: xs, H2, I2, .cons r1 r2, q2⟩
def tTup (t : TA) : TE := fun σ H Q => t σ H fun xs H1 => xs.length ≤ sizeLine ∧ ∀ p, H1 p = none → Q (.ref p) (upd H1 p (.tup xs))
def tLst (t : TA) : TE := fun σ H Q => t σ H fun xs H1 => xs.length ≤ sizeLine ∧ ∀ p, H1 p = none → Q (.ref p) (upd H1 p (.lst xs))
theorem pe_tup {x1} (h : PA X es t) : PE X (.Tuple es x1 pos) (tTup t) := by
  intro pins s σ H Q I hq
  refine wpAny_Tuple_spliced (thn (h pos pins s σ H _ I hq) fun us s1 ⟨xs, H1, I1, r, z, q⟩ => ⟨by rw [← r.length]; exact z, ?_⟩)
  have hf : H1 s1.heap.objs.size = none := I1.hok.fresh (Nat.le_refl _)
  refine ⟨.ref s1.heap.objs.size, upd H1 s1.heap.objs.size (.tup xs), I1.laid (t' := s1.toks) (fun b u e => Heap.get?_push_of_some _ e) (Nat.le_refl _) ?_, rfl, q _ hf⟩
  exact ⟨z, us, r, ⟨_, Heap.get?_push_size _ rfl, rfl, _, rfl⟩⟩
theorem pe_lst (h : PA X es t) : PE X (.List es pos) (tLst t) := by
  intro pins s σ H Q I hq
  refine wpAny_List_spliced (thn (h pos pins s σ H _ I hq) fun us s1 ⟨xs, H1, I1, r, z, q⟩ => ⟨by rw [← r.length]; exact z, ?_⟩)
  have hf : H1 s1.heap.objs.size = none := I1.hok.fresh (Nat.le_refl _)
  refine ⟨.ref s1.heap.objs.size, upd H1 s1.heap.objs.size (.lst xs), I1.laid (t' := s1.toks) (fun b u e => Heap.get?_push_of_some _ e) (Nat.le_refl _) ?_, rfl, q _ hf⟩
  exact ⟨z, us, 0, r, Heap.get?_push_size _ rfl⟩
end
abbrev Sp := List V → Hp → VK → XK → Prop
abbrev CXT := List Env → Hp → Shared → XK → Value → Shared → Prop
structure Env0 (P : Program) (w : World) (K : PySem.W.Frag) (mg : Str → Option Value) (base : Heap) (A : Around) (outer : List Env) (s : Shared) (H : Hp) : Prop where
  frames : A.frames = some outer
  mod : Mod K mg base
  bs : ∀ b o, base.get? b = some o → s.heap.get? b = some o ∧ H b = none
  bsz : base.objs.size ≤ s.heap.objs.size
  funs : s.heap.FunFrames base outer
  frf : ∀ b ∈ frs outer, H b = none
  hok : HOk P w H s.heap
  bare : AllBare s.gens
def CE (outer : List Env) (P : Program) (w : World) (H : Hp) (s : Shared) (Q : VK) (u : Value) (s' : Shared) : Prop :=
  ∃ v H', s'.os = s.os ∧ AllBare s'.gens ∧ Un (frs outer) [] H H' s.heap s'.heap ∧ HOk P w H' s'.heap ∧ RelV v u ∧ Q v H'
def CR (CX : CXT) (outer : List Env) (P : Program) (w : World) (H : Hp) (s : Shared) (Q : VK) (E : XK) (r : Result) (s' : Shared) : Prop :=
  match r with
  | .ok (.ret u) => CE outer P w H s Q u s'
  | .ok _ => False
  | .error e => CX outer H s E e s'
structure FnOk (P : Program) (w : World) (K : PySem.W.Frag) (mg : Str → Option Value) (base : Heap) (CX : CXT) (k : Nat) (f : Addr) (fd : FuncData) (ps : List Str) (sp : Sp) : Prop where
  len : ∀ vs H Q E, sp vs H Q E → vs.length = ps.length
  run : ∀ (A : Around) (outer : List Env) (s : Shared) (H : Hp) (args : Args) (us : List Value) (vs : List V) (Q : VK) (E : XK), Room k A → Env0 P w K mg base A outer s H → BindsTo s fd args (ps.zip us) → Vals vs us → sp vs H Q E →
    codeAny (model P w) A (.call (.ref f) args) (CR CX outer P w H s Q E) s
theorem FnOk.imp {P : Program} {w : World} {K : PySem.W.Frag} {mg : Str → Option Value} {base : Heap} {CX : CXT} {k : Nat} {f : Addr} {fd : FuncData} {ps : List Str} {sp sp' : Sp} (F : FnOk P w K mg base CX k f fd ps sp)
    (h : ∀ vs H Q E, sp' vs H Q E → sp vs H Q E) : FnOk P w K mg base CX k f fd ps sp' :=
  ⟨fun vs H Q E q => F.len vs H Q E (h _ _ _ _ q), fun A outer s H args us vs Q E hr he hb hv hs => F.run A outer s H args us vs Q E hr he hb hv (h _ _ _ _ hs)⟩
theorem Env0.make {P : Program} {w : World} {K : PySem.W.Frag} {mg : Str → Option Value} {base : Heap} {A : Around} {outer : List Env} {s : Shared} {H : Hp} (e : Env0 P w K mg base A outer s H) (C : Addr) (us : List Value) (kw : List (Str × Value)) :
    Env0 P w K mg base (A.under (.builtin "type.__call__" ⟨.ref C :: us, kw⟩)) outer s H := ⟨by first | exact e.frames | (simpa [Around.under, Code.envs, Code.isFrame, pushEnvs] using e.frames), e.mod, e.bs, e.bsz, e.funs, e.frf, e.hok, e.bare⟩
section
variable {X : Cx} {pins : List (Addr × Obj)} {σ : St} {H : Hp} {s s' : Shared}
theorem Inv.env0 (I : Inv X pins σ H s) : Env0 X.prog X.w X.K X.mg X.base X.A X.stack s H :=
  ⟨I.ok.frames, I.ok.mod, I.bs, Nat.le_trans I.ok.bsz I.sz, I.stack, I.stkFree, I.hok, I.bare⟩
theorem Inv.after {Q : VK} {u : Value} (I : Inv X pins σ H s) (h : CE X.stack X.prog X.w H s Q u s') : EP X pins σ Q u s' := by
  obtain ⟨v, H', os, bare, un, hok, r, q⟩ := h
  obtain ⟨hh, g, d, t, os'⟩ := s'
  obtain rfl : os' = s.os := os
  exact ⟨v, H', I.call (h' := hh) (g' := g) (d' := d) (t' := t) (ch := []) un hok bare (fun b z => absurd z (by simp)), r, q⟩
end
def Binds (K : PySem.W.Frag) (fd : FuncData) (ps : List Str) (ds : List Value) : Prop :=
  ∀ (s : Shared) (us : List Value), K.In s.heap → (us ++ ds).length = ps.length → BindsTo s fd ⟨us, []⟩ (ps.zip (us ++ ds))
theorem Binds.all {K : PySem.W.Frag} {fd : FuncData} {ps : List Str} (h : ∀ us : List Value, us.length = ps.length → bindArgs fd ⟨us, []⟩ = pure (ps.zip us)) : Binds K fd ps [] := fun s us _ hl => by
  rw [List.append_nil] at hl ⊢
  exact .of_eq (h us hl)
section
variable {X : Cx} {CX : CXT} {k : Nat} {f C : Addr} {fd : FuncData} {ps : List Str} {sp : Sp} {dvs : List V} {ds : List Value} {E : XK} {x m : Str} {p pos apos : Pos} {e o : Expr} {es : List Expr} {ta : TE} {t : TA}
structure Mk (K : PySem.W.Frag) (C f : Addr) : Prop where
  makes : PySem.W.makesIn K C = true
  init : PySem.W.findIn K (.ref C) "__init__" = some (some (.ref f))
  fn : PySem.W.isFn K (.ref f) = true
  kp : PySem.W.keepIn K (.ref C) = true
end
section
variable {X : Cx} {CX : CXT} {k : Nat} {f C : Addr} {fd : FuncData} {ps ks : List Str} {sp : Sp} {E : XK} {x m : Str} {p pos apos kpos : Pos} {e o : Expr} {es : List Expr} {kws : List Keyword} {te ta : TE} {t tk : TA} {nm : Option Str}
variable {g : List Value → List Value → List Value} {gV : List V → List V → List V}
end
structure FnScope (N P : List Str) (sc : Scope) : Prop where
  kind : sc.kind = .function
  co : sc.isCoroutine = false
  gen : sc.isGenerator = false
  nd : N.Nodup
  pre : N.take P.length = P
  par : ∀ x ∈ P, sc.names.lookup x = some .local ∨ sc.names.lookup x = some .cell
  nofree : ∀ y ∈ sc.names, y.2 ≠ .free
theorem bindL_out {kindOf : Str → Option NameKind} {x : Str} : ∀ {binds : List (Str × Value)} {m : Str → Option Value}, (∀ v, (x, v) ∉ binds) → bindL kindOf binds m x = m x
  | [], _, _ => rfl
  | (n, v) :: r, m, h => by
    unfold bindL
    rw [bindL_out fun w hw => h w (List.mem_cons_of_mem _ hw)]
    split
    · have : x ≠ n := by rintro rfl; exact h v List.mem_cons_self
      simp [this]
    · rfl
theorem bindC_out {kindOf : Str → Option NameKind} {x : Str} : ∀ {binds : List (Str × Value)} {m : Str → Option Value}, (∀ v, (x, v) ∉ binds) → bindC kindOf binds m x = m x
  | [], _, _ => rfl
  | (n, v) :: r, m, h => by
    unfold bindC
    rw [bindC_out fun w hw => h w (List.mem_cons_of_mem _ hw)]
    split
    · rfl
    · have : x ≠ n := by rintro rfl; exact h v List.mem_cons_self
      simp [this]
theorem bindL_get {kindOf : Str → Option NameKind} {x : Str} {v : Value} : ∀ {P : List Str} {vs : List Value} {i : Nat} {m : Str → Option Value}, P.Nodup → P[i]? = some x → vs[i]? = some v → kindOf x = some .local →
    bindL kindOf (P.zip vs) m x = some v
  | [], _, _, _, _, h, _, _ => by simp at h
  | _ :: _, [], _, _, _, _, h, _ => by simp at h
  | p :: P, w :: vs, 0, m, nd, h1, h2, hk => by
    simp at h1 h2; subst h1; subst h2
    show bindL kindOf ((p, w) :: P.zip vs) m p = _
    unfold bindL
    rw [bindL_out fun v hv => (List.nodup_cons.mp nd).1 (List.of_mem_zip hv).1, if_pos hk]
    simp
  | p :: P, w :: vs, i + 1, m, nd, h1, h2, hk => by
    show bindL kindOf ((p, w) :: P.zip vs) m x = _
    unfold bindL
    exact bindL_get (i := i) (List.nodup_cons.mp nd).2 (by simpa using h1) (by simpa using h2) hk
theorem bindC_get {kindOf : Str → Option NameKind} {x : Str} {v : Value} : ∀ {P : List Str} {vs : List Value} {i : Nat} {m : Str → Option Value}, P.Nodup → P[i]? = some x → vs[i]? = some v → kindOf x ≠ some .local →
    bindC kindOf (P.zip vs) m x = some v
  | [], _, _, _, _, h, _, _ => by simp at h
  | _ :: _, [], _, _, _, _, h, _ => by simp at h
  | p :: P, w :: vs, 0, m, nd, h1, h2, hk => by
    simp at h1 h2; subst h1; subst h2
    show bindC kindOf ((p, w) :: P.zip vs) m p = _
    unfold bindC
    rw [bindC_out fun v hv => (List.nodup_cons.mp nd).1 (List.of_mem_zip hv).1, if_neg hk]
    simp
  | p :: P, w :: vs, i + 1, m, nd, h1, h2, hk => by
    show bindC kindOf ((p, w) :: P.zip vs) m x = _
    unfold bindC
    exact bindC_get (i := i) (List.nodup_cons.mp nd).2 (by simpa using h1) (by simpa using h2) hk
def start (N : List Str) (vs : List V) : St := vs.map some ++ List.replicate (N.length - vs.length) none
def cxOf (CX : CXT) (P : Program) (w : World) (K : PySem.W.Frag) (mg : Str → Option Value) (base : Heap) (N : List Str) (qual : Str) (scope : Scope) (f : Addr) (cd : Value) (A : Around) (outer : List Env) (s : Shared) (H : Hp) (E : XK) : Cx where
  prog := P
  w := w
  K := K
  mg := mg
  base := base
  A := A.deeper (envOfC qual scope s.heap.objs.size f cd)
  N := N
  s₀ := s
  H₀ := H
  env := envOfC qual scope s.heap.objs.size f cd
  outer := outer
  stack := envOfC qual scope s.heap.objs.size f cd :: outer
  ex := []
  calm := true
  fn := fun _ => true
  pn := []
  xe := fun e s' => wpAny (model P w) (A.deeper (envOfC qual scope s.heap.objs.size f cd)) (leaving (envOfC qual scope s.heap.objs.size f cd) e) (fun _ s'' => CX outer H s E e s'') (fun e' s'' => CX outer H s E e' s'') s'
theorem cell_has {sc : Scope} {n : Nat} {x : Str} (h : sc.names.lookup x = some .cell) : ∃ c, (cellsFrom n sc.names []).lookup x = some c := by
  have q := PySem.W.cellsFrom_some sc.names n [] (.inl h)
  exact Option.isSome_iff_exists.mp q
theorem inv_start {CX : CXT} {P : Program} {w : World} {K : PySem.W.Frag} {mg : Str → Option Value} {base : Heap} {N ps : List Str} {qual : Str} {scope : Scope} {f : Addr} {cd : Value} {A : Around} {outer : List Env} {s s1 : Shared} {H : Hp} {E : XK} {us : List Value} {vs : List V}
    (S : FnScope N ps scope) (hd : A.handled = none) (e0 : Env0 P w K mg base A outer s H) (hl : vs.length = ps.length) (r : Vals vs us)
    (x : InCallC s s.heap.objs.size (bindL (envOfC qual scope s.heap.objs.size f cd).kindOf (ps.zip us) fun _ => none) (cellsFrom (s.heap.objs.size + 1) scope.names []) (bindC (envOfC qual scope s.heap.objs.size f cd).kindOf (ps.zip us) fun _ => none) s1) :
    Inv (cxOf CX P w K mg base N qual scope f cd A outer s H E) [] (start N vs) H s1 := by
  have hpl : ps.length ≤ N.length := by have := congrArg List.length S.pre; rw [List.length_take] at this; omega
  obtain ⟨h1, tk, rfl, hk⟩ := x.done
  have noA : ∀ b : Addr, b ∉ (cxOf CX P w K mg base N qual scope f cd A outer s H E).ex := fun b z => absurd (show b ∈ ([] : List Addr) from z) (by simp)
  refine ⟨⟨e0.mod, S.kind, rfl, rfl, Nat.le_refl _, fun y z c h1 h2 => ?_, fun y hy => ?_, fun y c _ h => ?_, fun _ => hd, Around.frames_deeper e0.frames, .inr ⟨rfl, rfl⟩, fun b z => absurd z (noA b), e0.bs, e0.bsz, fun b _ _ => noA b, fun b z => absurd z (noA b), e0.funs, e0.frf⟩,
    rfl, e0.bare, Un.kept hk, ⟨_, x.toInCall.ns, fun i y v h1 h2 h3 => ?_⟩, fun y c h => ⟨_, x.cell y c h⟩, e0.hok.fresh (Nat.le_refl _), fun y c h => ?_, fun p hp => absurd (show p ∈ ([] : List (Addr × Obj)) from hp) (by simp), e0.hok.kept hk, ?_⟩
  · exact name_of_addr x.apart (PySem.mem_of_lookup h1) (PySem.mem_of_lookup h2)
  · have hy : scope.names.lookup y = some .cell ∨ scope.names.lookup y = some .free := hy
    rcases hy with hy | hy
    · exact cell_has hy
    · exact absurd rfl (S.nofree _ (PySem.mem_of_lookup hy))
  · exact Nat.le_of_lt (x.above y c (PySem.mem_of_lookup h))
  · have hi : i < vs.length := by
      unfold start at h2
      by_cases hi : i < vs.length
      · exact hi
      · rw [List.getElem?_append_right (by simpa using hi)] at h2
        rw [List.getElem?_replicate] at h2
        split at h2 <;> cases h2
    have ha : vs[i]? = some v := by
      unfold start at h2
      rw [List.getElem?_append_left (by simpa using hi), List.getElem?_map] at h2
      cases e : vs[i]? with
      | none => rw [e] at h2; cases h2
      | some a => rw [e] at h2; cases h2; rfl
    obtain ⟨u, hu, rv⟩ := r.get ha
    have hp : ps[i]? = some y := by
      rw [← S.pre, List.getElem?_take_of_lt (by omega)]; exact h1
    have ndP : ps.Nodup := by rw [← S.pre]; exact S.nd.sublist (List.take_sublist _ _)
    refine ⟨u, rv, ?_⟩
    rcases S.par y (List.mem_of_getElem? hp) with k | k
    · exact .inl ⟨k, bindL_get ndP hp hu k⟩
    · obtain ⟨c, e⟩ := cell_has (n := s.heap.objs.size + 1) k
      refine .inr ⟨.inl k, c, e, ?_⟩
      have q := x.cell y c e
      rw [bindC_get ndP hp hu (by show scope.names.lookup y ≠ _; rw [k]; decide)] at q
      exact q
  · exact e0.hok.fresh (Nat.le_of_lt (x.above y c (PySem.mem_of_lookup h)))
  · unfold start
    show _ = N.length
    rw [List.length_append, List.length_map, List.length_replicate]
    omega
theorem fn_of {CX : CXT} {P : Program} {w : World} {K : PySem.W.Frag} {mg : Str → Option Value} {base : Heap} {k : Nat} {f : Addr} {name qual : Str} {params : Arguments} {body : List Stmt} {scope : Scope} {dV kV doc pm cdv ct oc : Value} {an od : Option Addr}
    {osl : Array (Option Value)} {N ps : List Str} {sp : Sp} (lk : K.lookup f = some ⟨oc, od, .func (PySem.W.fnOf name qual params body scope dV kV doc pm an cdv ct), osl⟩) (hcd : PySem.W.codeIn K cdv qual = true) (S : FnScope N ps scope)
    (len : ∀ vs H Q E, sp vs H Q E → vs.length = ps.length)
    (hbody : ∀ (A : Around) (outer : List Env) (s : Shared) (H : Hp) (vs : List V) (Q : VK) (E : XK), Room k (A.deeper (envOfC qual scope s.heap.objs.size f cdv)) → sp vs H Q E →
      ∃ t, PSs (cxOf CX P w K mg base N qual scope f cdv A outer s H E) body t ∧ t { nx := fun _ H' => Q .non H', rt := Q } (start N vs) H) :
    FnOk P w K mg base CX (k + 1) f (PySem.W.fnOf name qual params body scope dV kV doc pm an cdv ct) ps sp := by
  refine ⟨len, fun A outer s H args us vs Q E hr e0 hb r hsp => ?_⟩
  have hl := len _ _ _ _ hsp
  have KX : K.In s.heap := e0.mod.kin.keeps fun b o e => (e0.bs b o e).1
  have lim : s.heap.NoLimit := e0.mod.nolimit.keeps fun b o e => (e0.bs b o e).1
  have hkind : ∀ y ∈ ps.zip us, scope.names.lookup y.1 = some .local ∨ (scope.names.lookup y.1 = some .cell ∧ ((cellsFrom (s.heap.objs.size + 1) scope.names []).lookup y.1).isSome = true) := fun ⟨n, v⟩ hy => by
    rcases S.par n (List.of_mem_zip hy).1 with q | q
    · exact .inl q
    · exact .inr ⟨q, PySem.W.cellsFrom_some _ _ _ (.inl q)⟩
  refine codeAny_call_function hr.depth (KX _ _ lk) rfl S.co S.gen rfl (PySem.W.codeRec_of KX hcd) (hb _ _ _ _ ?_)
  refine wpAny_newFunctionEnv_cells S.kind hkind fun env he s1 x => ?_
  subst he
  refine ⟨lim.keeps x.toInCall.keep, codeAny_func ?_⟩
  obtain ⟨t, ht, hq⟩ := hbody A outer s H vs Q E (hr.deeper _) hsp
  have I : Inv (cxOf CX P w K mg base N qual scope f cdv A outer s H E) [] (start N vs) H s1 := inv_start S hr.hd e0 hl r x
  refine wpAny_mono (ht [] s1 (start N vs) H _ I hq) (fun fl s' hs => ?_) fun e s' hs => hs
  have fin : ∀ {σ' : St} {H' : Hp} {v : V} {u : Value}, Inv (cxOf CX P w K mg base N qual scope f cdv A outer s H E) [] σ' H' s' → RelV v u → Q v H' → CE outer P w H s Q u s' :=
    fun {σ' H' v u} J rv q => ⟨v, H', J.os, J.bare, J.base, J.hok, rv, q⟩
  cases fl with
  | ret u =>
    obtain ⟨v, σ', H', J, rv, q⟩ := hs
    exact fin J rv q
  | next =>
    obtain ⟨σ', H', J, q⟩ := hs
    exact fin (v := V.non) (u := Value.none) J rfl q
  | brk =>
    obtain ⟨_, _, _, q⟩ := hs
    exact False.elim q
  | cont =>
    obtain ⟨_, _, _, q⟩ := hs
    exact False.elim q
end L2
namespace L2
open PySem PySem.Spec PyProof.Rows
section
variable {X : Cx} {x : Str} {p pos : Pos} {e : Expr} {es : List Expr} {t : TA} {id T : String} {r : List V → Hp → VK → Prop}
end
end L2
namespace HT
open PySem PyProof.Rows
def lexLt : List Int → List Int → Bool
  | [], [] => false
  | [], _ :: _ => true
  | _ :: _, [] => false
  | x :: xs, y :: ys => if x = y then lexLt xs ys else decide (x < y)
theorem lexLt_cons (x y : Int) (xs ys : List Int) : lexLt (x :: xs) (y :: ys) = if x = y then lexLt xs ys else decide (x < y) := rfl
theorem lexLt_nil_nil : lexLt [] [] = false := rfl
theorem lexLt_nil_cons (y : Int) (ys : List Int) : lexLt [] (y :: ys) = true := rfl
theorem lexLt_cons_nil (x : Int) (xs : List Int) : lexLt (x :: xs) [] = false := rfl
theorem eqAt_int (A : Around) (s : Shared) (a : Int) (t : Tok) (c : Int) (u : Tok) : ∃ e, SeqAt.EqAt A s (.int a t) (.int c u) e ∧ (e = true ↔ a = c) :=
  ⟨(a == c), SeqAt.EqAt.int_int a t c u, by simp⟩
theorem rcLt_int (A : Around) (s : Shared) (a : Int) (t : Tok) (c : Int) (u : Tok) (prog : Program) (w : World) (E : Value → Shared → Prop) (Q : Value → Shared → Prop) (h : Q (.bool (decide (a < c))) s) :
    wpAny (model prog w) A (richCompare .Lt (.int a t) (.int c u)) Q E s :=
  (PyProof.Rows.lt_int h : wpAny (model prog w) A (compareOp .Lt (.int a t) (.int c u)) Q E s)
section
open PySem.SeqAt
open PySem.AutoSeq1 (wpAny_loadPart')
open PySem.MeetsSeq PySem.MeetsSeq2 PySem.MeetsSeq3
theorem tuple_lt_ints (l b : Addr) (items items2 : Array Value) (n n2 : Nat) (dd dd2 : Option Addr) (sl sl2 : Array (Option Value)) (ns ms : List Int) (hi : IntsAre items.toList ns) (hj : IntsAre items2.toList ms) :
    Meets (Builtin.«tuple.__lt__» ⟨[.ref l, .ref b], []⟩)
      (fun _ R s => s.heap.get? l = some { cls := .type "tuple", dict := dd, data := .seq items n, slots := sl } ∧ s.heap.get? b = some { cls := .type "tuple", dict := dd2, data := .seq items2 n2, slots := sl2 } ∧
        R (.ok (.ret (.bool (lexLt ns ms)))) s) :=
  .of_wp fun prog w A R s h => by
    obtain ⟨hp, g, d, tk, os⟩ := s; obtain ⟨hl, hb, h⟩ := h
    have f2 := AutoSeq1.sub_tuple_tuple
    have z1 : items.size = ns.length := by rw [← hi.length]; simp
    have z2 : items2.size = ms.length := by rw [← hj.length]; simp
    wp_walk using wpAny_loadPart' hl, wpAny_loadPart' hb, wpAny_forIn_list _ (fun rest b s' => b.1 = none ∧ s' = ⟨hp, g, d, tk, os⟩ ∧ ∃ (vs ws : List Value) (ns' ms' : List Int), rest = vs.zip ws ∧
      IntsAre vs ns' ∧ IntsAre ws ms' ∧ ns'.length + items2.size = ms'.length + items.size ∧ R (.ok (.ret (.bool (lexLt ns' ms')))) ⟨hp, g, d, tk, os⟩) _
    case turn =>
      rintro ⟨y, x⟩ rest b s' ⟨hb', rfl, vs, ws, ns', ms', hz, hvi, hwi, hlen, hR⟩
      cases hvi with
      | nil => rw [List.zip_nil_left] at hz; cases hz
      | cons a t hvi' =>
        cases hwi with
        | nil => rw [List.zip_nil_right] at hz; cases hz
        | cons c u hwi' =>
          rw [List.zip_cons_cons] at hz
          injection hz with hyx hrest
          injection hyx with hy hx
          subst hy hx
          rw [lexLt_cons] at hR
          simp only [List.length_cons] at hlen
          obtain ⟨e, he, hiff⟩ := eqAt_int A.in1 ⟨hp, g, d, tk, os⟩ a t c u
          refine wpAny_bind (he prog w _ _ ?_)
          cases e with
          | true =>
            rw [if_pos (hiff.mp rfl)] at hR
            wp_walk
            exact ⟨rfl, rfl, _, _, _, _, hrest, hvi', hwi', by omega, hR⟩
          | false =>
            rw [if_neg (fun q => absurd (hiff.mpr q) Bool.false_ne_true)] at hR
            have hri := rcLt_int A.in1 ⟨hp, g, d, tk, os⟩ a t c u prog w
            wp_walk using hri
            exact ⟨_, rfl, by simpa using hR⟩
    case fin =>
      rintro ⟨b1, b2⟩ s' ⟨hb', rfl, vs, ws, ns', ms', hz, hvi, hwi, hlen, hR⟩
      simp only at hb'
      subst hb'
      have hv : lexLt ns' ms' = decide (items.size < items2.size) := by
        cases hvi with
        | nil =>
          cases hwi with
          | nil =>
            simp only [List.length_nil] at hlen
            rw [lexLt_nil_nil]
            exact (decide_eq_false (by omega)).symm
          | cons c u hw =>
            simp only [List.length_nil, List.length_cons] at hlen
            rw [lexLt_nil_cons]
            exact (decide_eq_true (by omega)).symm
        | cons a t hv =>
          cases hwi with
          | nil =>
            simp only [List.length_nil, List.length_cons] at hlen
            rw [lexLt_cons_nil]
            exact (decide_eq_false (by omega)).symm
          | cons c u hw =>
            rw [List.zip_cons_cons] at hz
            cases hz
      rw [hv] at hR
      wp_walk
      exact ⟨_, rfl, by simpa [Builtin.Tuple.tupleCompareSizes] using hR⟩
    case h =>
      exact ⟨rfl, rfl, items.toList, items2.toList, ns, ms, rfl, hi, hj, by omega, h⟩
end
section
variable {prog : Program} {w : World} {A : Around} {E : Value → Shared → Prop} {s : Shared}
theorem lt_tupInts {l b : Addr} {items items2 : Array Value} {ns ms : List Int} {Q : Value → Shared → Prop} (hl : IsTup s.heap l items) (hb : IsTup s.heap b items2) (hi : IntsAre items.toList ns) (hj : IntsAre items2.toList ms)
    (hu : A.units < cLine) (h : Q (.bool (lexLt ns ms)) s) : wpAny (model prog w) A (compareOp .Lt (.ref l) (.ref b)) Q E s := by
  obtain ⟨⟨cls, dd, data, sl⟩, ho, hc, n, hd⟩ := id hl
  obtain ⟨⟨cls2, dd2, data2, sl2⟩, ho2, hc2, n2, hd2⟩ := id hb
  simp only at hc hd hc2 hd2
  subst hc hd hc2 hd2
  exact richCompare_meets_room (op := .Lt) ⟨_, ho, rfl⟩ ⟨_, ho2, rfl⟩ PySem.F.slot_tuple_lt PySem.F.entry_tuple_lt (PySem.F.args_tuple_lt_2 _ _) (tuple_lt_ints l b items items2 n n2 dd dd2 sl sl2 ns ms hi hj)
    ⟨ho, ho2, show Value.bool (lexLt ns ms) ≠ Value.notImplemented ∧ Q (.bool (lexLt ns ms)) s from ⟨(fun x => nomatch x), h⟩⟩ hu
theorem cat_tup {t b : Addr} {vs ws : List Value} {Q : Value → Shared → Prop} (ht : IsTup s.heap t vs.toArray) (hb : IsTup s.heap b ws.toArray) (hv : vs ≠ [])
    (h1 : ws = [] → Q (.ref t) s) (h2 : ws ≠ [] → Q (.ref s.heap.objs.size) { s with heap := s.heap.push { cls := .type "tuple", data := .seq (vs ++ ws).toArray } })
    (hsz : vs.length + ws.length ≤ sizeLine) : wpAny (model prog w) A (binaryOp .Add (.ref t) (.ref b)) Q E s := by
  obtain ⟨⟨cls, dd, data, sl⟩, ho, hc, n, hd⟩ := id ht
  obtain ⟨⟨cls2, dd2, data2, sl2⟩, ho2, hc2, n2, hd2⟩ := id hb
  simp only at hc hd hc2 hd2
  subst hc hd hc2 hd2
  have e : vs.toArray ++ ws.toArray = (vs ++ ws).toArray := by simp
  by_cases hw : ws = []
  · exact concat_meets ⟨_, ho, rfl⟩ ⟨_, ho2, rfl⟩ noFill_tuple_add seq_tuple_add PySem.F.slot_tuple_add PySem.F.entry_tuple_add (PySem.F.args_tuple_add_2 _ _)
      (tuple_addW1 t b vs.toArray ws.toArray n n2 dd dd2 sl sl2 (by simpa using hv) (by simp [hw])) ⟨ho, ho2, h1 hw⟩
  · refine concat_meets ⟨_, ho, rfl⟩ ⟨_, ho2, rfl⟩ noFill_tuple_add seq_tuple_add PySem.F.slot_tuple_add PySem.F.entry_tuple_add (PySem.F.args_tuple_add_2 _ _)
      (tuple_addW2 t b vs.toArray ws.toArray n n2 dd dd2 sl sl2 (by simpa using hv) (by simpa using hw) (by rw [List.size_toArray, List.size_toArray]; exact hsz)) ⟨ho, ho2, ?_⟩
    rw [e]
    exact h2 hw
def sIx (n d : Nat) : Option Int → Nat
  | none => d
  | some v => if v < 0 then (v + (n : Int)).toNat else min v.toNat n
theorem sIx_le (n d : Nat) (hd : d ≤ n) (o : Option Int) : sIx n d o ≤ n := by
  cases o with
  | none => exact hd
  | some v =>
    show (if v < 0 then (v + (n : Int)).toNat else min v.toNat n) ≤ n
    by_cases hv : v < 0
    · rw [if_pos hv]; omega
    · rw [if_neg hv]; exact Nat.min_le_right _ _
theorem clip_eq (v : Int) (n d : Nat) : (if v < 0 then max (v + (n : Int)) 0 else min v (n : Int)) = ((sIx n d (some v) : Nat) : Int) := by
  show (if v < 0 then max (v + (n : Int)) 0 else min v (n : Int)) = (((if v < 0 then (v + (n : Int)).toNat else min v.toNat n) : Nat) : Int)
  by_cases hv : v < 0
  · simp only [if_pos hv]; omega
  · simp only [if_neg hv]; omega
theorem adjust_gen (lo hi : Option Int) (n : Nat) : Builtin.Slice.sliceAdjust lo hi 1 (n : Int) = (((sIx n 0 lo : Nat) : Int), ((sIx n n hi : Nat) : Int)) := by
  have h1 : ¬ ((1 : Int) < 0) := by omega
  unfold Builtin.Slice.sliceAdjust
  simp only [h1, if_false]
  refine Prod.ext ?_ ?_
  · cases lo with
    | none => rfl
    | some v => exact clip_eq v n 0
  · cases hi with
    | none => rfl
    | some v => exact clip_eq v n n
theorem places_gen (i j : Nat) : Builtin.Slice.slicePlaces (i : Int) (j : Int) 1 = j - i := by
  unfold Builtin.Slice.slicePlaces
  have h1 : (1 : Int) > 0 := by omega
  simp only [h1, if_true, Int.ediv_one]
  split <;> omega
theorem slicePart_ {v : Value} {o : Option Int} {Q : Option Int → Shared → Prop} (p : IsPart v o) (h : Q o s) : wpAny (model prog w) A (Builtin.Slice.slicePartIndex v) Q E s := by
  cases p with
  | none => exact slicePart_none h
  | int i t => exact slicePart_int h
theorem sliceApplied_gen {sl : Addr} {vl vu : Value} {lo hi : Option Int} {n : Nat} {Q : Int × Int × Nat → Shared → Prop} (hs : s.heap.IsSliceOf sl vl vu .none) (pl : IsPart vl lo) (pu : IsPart vu hi)
    (h : Q (((sIx n 0 lo : Nat) : Int), 1, sIx n n hi - sIx n 0 lo) s) : wpAny (model prog w) A (Builtin.Slice.sliceApplied (.ref sl) (pure (n : Int))) Q E s := by
  obtain ⟨os, hos, hcs, hds⟩ := id hs
  unfold Builtin.Slice.sliceApplied Builtin.Slice.sliceFields
  refine wpAny_bind (wpAny_bind (wpAny_field hos hds (x := vl) rfl (wpAny_bind (wpAny_field hos hds (x := vu) rfl (wpAny_bind (wpAny_field hos hds (x := .none) rfl (wpAny_pure ?_)))))))
  refine wpAny_bind (slicePart_none ?_)
  show wpAny _ _ (if ((1 : Int) == 0) = true then _ else _) _ _ s
  rw [if_neg (by decide)]
  refine wpAny_bind (slicePart_ pl (wpAny_bind (slicePart_ pu (wpAny_bind (wpAny_pure ?_)))))
  show wpAny _ _ (match Builtin.Slice.sliceAdjust lo hi 1 (n : Int) with | (lo, hi) => pure (lo, (1 : Int), Builtin.Slice.slicePlaces lo hi 1)) _ _ s
  rw [adjust_gen lo hi n]
  show wpAny _ _ (pure (((sIx n 0 lo : Nat) : Int), (1 : Int), Builtin.Slice.slicePlaces ((sIx n 0 lo : Nat) : Int) ((sIx n n hi : Nat) : Int) 1)) _ _ s
  rw [places_gen]
  exact wpAny_pure h
theorem pick_gen (xs : Array Value) (i k : Nat) : ((List.range k).filterMap fun (m : Nat) => xs[((i : Int) + (m : Int) * 1).toNat]?).toArray = ((xs.toList.drop i).take k).toArray := by
  have e : (fun (m : Nat) => xs[((i : Int) + (m : Int) * 1).toNat]?) = fun m => xs[i + m]? := by
    funext m
    have : ((i : Int) + (m : Int) * 1).toNat = i + m := by omega
    rw [this]
  rw [e]
  have := pick_run xs i k
  rw [List.filterMap_map] at this
  have e2 : ((fun x => xs[x]?) ∘ fun x => i + x) = fun m => xs[i + m]? := rfl
  rw [e2] at this
  rw [this]
theorem getItem_tuple_cut {t sl : Addr} {items : Array Value} {vl vu : Value} {lo hi : Option Int} {Q : Value → Shared → Prop} (ht : IsTup s.heap t items) (hs : s.heap.IsSliceOf sl vl vu .none) (pl : IsPart vl lo) (pu : IsPart vu hi)
    (hw : ¬ (sIx items.size 0 lo = 0 ∧ sIx items.size items.size hi = items.size))
    (h : Q (.ref s.heap.objs.size) { s with heap := s.heap.push { cls := .type "tuple", data := .seq ((items.toList.drop (sIx items.size 0 lo)).take (sIx items.size items.size hi - sIx items.size 0 lo)).toArray } })
    (hsz : items.size ≤ sizeLine) : wpAny (model prog w) A (getItem (.ref t) (.ref sl)) Q E s := by
  have htake : sizeOk (.seq ((items.toList.drop (sIx items.size 0 lo)).take (sIx items.size items.size hi - sIx items.size 0 lo)).toArray) := by
    show ((items.toList.drop (sIx items.size 0 lo)).take (sIx items.size items.size hi - sIx items.size 0 lo)).toArray.size ≤ sizeLine
    rw [List.size_toArray, List.length_take, List.length_drop, Array.length_toList]
    omega
  have hj : sIx items.size items.size hi ≤ items.size := sIx_le _ _ (Nat.le_refl _) hi
  obtain ⟨os, hos, hcs, hds⟩ := id hs
  have hTs : s.TypeIs (.ref sl) "slice" := ⟨os, hos, hcs⟩
  unfold getItem
  try with_reducible refine wpAny_holding ?_
  first | refine wpAny_bind (wpAny_pure ?_) | skip
  refine wpAny_bind (wpAny_sequenceKey ht.typeIs (by decide) ?_)
  refine wpAny_bind (wpAny_callSpecial?_slot (name := Str.ofString "__getitem__") ht.typeIs PyProof.Rows.slot_tuple_getitem
    (wpAny_call_entry PyProof.Rows.slot_tuple_getitem ht.typeIs entry_tuple_getitem ?_ (args_tuple_getitem _ _)))
  show wpAny _ _ (Builtin.Tuple.tupleItemsOf (.ref t) >>= _) _ _ s
  refine wpAny_bind (tupleItemsOf_ ht ?_)
  refine wpAny_bind (wpAny_typeOf hTs ?_)
  rw [if_pos (by decide)]
  refine wpAny_bind (sliceApplied_gen hs pl pu ?_)
  have hno : ¬ ((((sIx items.size 0 lo : Nat) : Int) == 0 && (1 : Int) == 1 && (sIx items.size items.size hi - sIx items.size 0 lo) == items.size) = true) := by
    intro q
    rw [Bool.and_eq_true, Bool.and_eq_true] at q
    have q1 : ((sIx items.size 0 lo : Nat) : Int) = 0 := eq_of_beq q.1.1
    have q2 : sIx items.size items.size hi - sIx items.size 0 lo = items.size := eq_of_beq q.2
    exact hw ⟨by omega, by omega⟩
  show wpAny _ _ (if (((sIx items.size 0 lo : Nat) : Int) == 0 && (1 : Int) == 1 && (sIx items.size items.size hi - sIx items.size 0 lo) == items.size) = true then _ else _) _ _ s
  rw [if_neg hno, pick_gen]
  first
    | exact wpAny_bind (m := Builtin.Tuple.tupleExact _) (wpAny_newObj_type (wpAny_pure ⟨_, rfl, wpAny_pure h⟩) htake)
    | exact wpAny_bind (m := Builtin.Tuple.tupleExact _) (wpAny_newObj_type (wpAny_bind (wpAny_pure (wpAny_pure ⟨_, rfl, wpAny_pure h⟩))) htake)
    | exact wpAny_bind (wpAny_bind (m := Builtin.Tuple.tupleExact _) (wpAny_newObj_type (wpAny_pure (wpAny_pure ⟨_, rfl, wpAny_pure h⟩)) htake))
    | exact wpAny_bind (wpAny_bind (m := Builtin.Tuple.tupleExact _) (wpAny_newObj_type (wpAny_pure ⟨_, rfl, wpAny_pure h⟩) htake))
end
end HT
namespace L2
open PySem PySem.Spec PyProof.Rows
abbrev TO := St → Hp → (Option Int → Hp → Prop) → Prop
def PO (X : Cx) (e : Option Expr) (t : TO) : Prop :=
  ∀ (pins : List (Addr × Obj)) (s : Shared) (σ : St) (H : Hp) (Q : Option Int → Hp → Prop), Inv X pins σ H s → t σ H Q →
    wpAny (model X.prog X.w) X.A (evalPart e X.env) (fun u s' => ∃ o H', Inv X pins σ H' s' ∧ IsPart u o ∧ Q o H') X.xe s
def tNoPart : TO := fun _ H Q => Q none H
def tPart (t : TE) : TO := fun σ H Q => t σ H fun x H1 => ∃ i, x = .int i ∧ Q (some i) H1
theorem intsAre_of {ns : List Int} : ∀ {us : List Value}, Vals (ns.map V.int) us → IntsAre us ns := by
  induction ns with
  | nil => intro us r; rw [List.map_nil] at r; cases r; exact .nil
  | cons n ns ih =>
    intro us r
    rw [List.map_cons] at r
    cases r with
    | cons r1 r2 =>
      obtain ⟨t, e⟩ := r1
      subst e
      exact .cons n t (ih r2)
section
variable {X : Cx} {e : Expr} {te : TE} {lo hi : Option Expr} {tl th : TO} {pos p2 : Pos}
theorem po_none : PO X none tNoPart := by
  intro pins s σ H Q I h
  rw [evalPart_none]
  exact wpAny_pure ⟨none, H, I, .none, h⟩
theorem po_some (h : PE X e te) : PO X (some e) (tPart te) := by
  intro pins s σ H Q I hw
  rw [evalPart_some]
  refine thn (h pins s σ H _ I hw) fun u s1 ⟨x, H1, I1, r1, q1⟩ => ?_
  obtain ⟨i, rfl, q⟩ := q1
  obtain ⟨t, rfl⟩ := r1
  exact ⟨some i, H1, I1, .int i t, q⟩
def SlR (X : Cx) (r : V → Option Int → Option Int → Hp → VK → Prop) : Prop :=
  ∀ (pins : List (Addr × Obj)) (s : Shared) (σ : St) (H : Hp) (x : V) (v vl vu : Value) (lo hi : Option Int) (sl : Addr) (Q : VK), Inv X pins σ H s → RelV x v → s.heap.IsSliceOf sl vl vu .none → IsPart vl lo → IsPart vu hi → r x lo hi H Q →
    ∃ T id, typeLookup (.type T) "__getitem__" = pure (some (.builtin id)) ∧ s.TypeIs v T ∧ wpAny (model X.prog X.w) X.A (getItem v (.ref sl)) (EP X pins σ Q) X.xe s
theorem SlR.or {r r' : V → Option Int → Option Int → Hp → VK → Prop} (h : SlR X r) (h' : SlR X r') : SlR X (fun x lo hi H Q => r x lo hi H Q ∨ r' x lo hi H Q) := by
  intro pins s σ H x v vl vu lo hi sl Q I rx hs pl pu q
  rcases q with q | q
  · exact h pins s σ H x v vl vu lo hi sl Q I rx hs pl pu q
  · exact h' pins s σ H x v vl vu lo hi sl Q I rx hs pl pu q
def tSl (r : V → Option Int → Option Int → Hp → VK → Prop) (te : TE) (tl th : TO) : TE := fun σ H Q => te σ H fun x H1 => tl σ H1 fun l H2 => th σ H2 fun u H3 => r x l u H3 Q
theorem pe_slice {r : V → Option Int → Option Int → Hp → VK → Prop} (hr : SlR X r) (he : PE X e te) (hl : PO X lo tl) (hu : PO X hi th) : PE X (.Subscript e (.Slice lo hi none p2) pos) (tSl r te tl th) := by
  intro pins s σ H Q I h
  refine Subscript_ (thn (he pins s σ H _ I h) fun v s1 ⟨x, H1, I1, r1, q1⟩ => ?_)
  refine wpAny_Slice (thn (hl pins s1 σ H1 _ I1 q1) fun vl s2 ⟨l, H2, I2, pl, q2⟩ => thn (hu pins s2 σ H2 _ I2 q2) fun vu s3 ⟨u, H3, I3, pu, q3⟩ => ?_)
  rw [evalPart_none]
  refine wpAny_pure ?_
  have I4 : Inv X pins σ H3 { s3 with heap := s3.heap.push { cls := .type "slice", data := .fields #[vl, vu, .none] } } := I3.kept (t' := s3.toks) fun b ob q => Heap.get?_push_of_some _ q
  obtain ⟨T, id, hT, ht, hg⟩ := hr pins { s3 with heap := s3.heap.push { cls := .type "slice", data := .fields #[vl, vu, .none] } } σ H3 x v vl vu l u s3.heap.objs.size Q I4 r1 (Heap.IsSliceOf.new ..) pl pu q3
  show wpAny (model X.prog X.w) X.A (subscriptTail e (.Slice lo hi none p2) v (.ref s3.heap.objs.size)) (EP X pins σ Q) X.xe { s3 with heap := s3.heap.push { cls := .type "slice", data := .fields #[vl, vu, .none] } }
  exact tail_any (ops := [.ref s3.heap.objs.size, v]) ht hT hg (by with_unfolding_all rfl)
def cutV (xs : List V) (lo hi : Option Int) : List V := (xs.drop (HT.sIx xs.length 0 lo)).take (HT.sIx xs.length xs.length hi - HT.sIx xs.length 0 lo)
theorem cutV_length (xs : List V) (lo hi : Option Int) : (cutV xs lo hi).length ≤ xs.length := by
  unfold cutV
  rw [List.length_take, List.length_drop]
  omega
def rSlT (K : PySem.W.Frag) : V → Option Int → Option Int → Hp → VK → Prop := fun x lo hi H Q => ∃ a xs, x = .ref a ∧ SqT K H a xs ∧
  ¬ (HT.sIx xs.length 0 lo = 0 ∧ HT.sIx xs.length xs.length hi = xs.length) ∧ ∀ p, H p = none → Q (.ref p) (upd H p (.tup (cutV xs lo hi)))
theorem sl_tup : SlR X (rSlT X.K) := by
  intro pins s σ H x v vl vu lo hi sl Q I rx hs pl pu h
  obtain ⟨a, xs, rfl, hx, hw, q⟩ := h
  cases rx
  obtain ⟨its, r, ht, hz⟩ := I.tuple hx
  have hlen : its.toArray.size = xs.length := by rw [List.size_toArray]; exact r.length.symm
  refine ⟨"tuple", _, PyProof.Rows.slot_tuple_getitem.lookup, ht.typeIs, ?_⟩
  refine HT.getItem_tuple_cut ht hs pl pu (by rw [hlen]; exact hw) ?_ (by rw [hlen]; exact hz)
  rw [hlen]
  refine ⟨.ref s.heap.objs.size, _, I.laid (t' := s.toks) (o := .tup (cutV xs lo hi)) (fun b ob q => Heap.get?_push_of_some _ q) (Nat.le_refl _) ?_, rfl, q _ (I.hok.fresh (Nat.le_refl _))⟩
  exact ⟨Nat.le_trans (cutV_length xs lo hi) hz, _, (r.drop (HT.sIx xs.length 0 lo)).take (HT.sIx xs.length xs.length hi - HT.sIx xs.length 0 lo), IsTup.new _ _⟩
def rLtT (K : PySem.W.Frag) : R2 := fun x y H Q => ∃ a b ns ms, x = .ref a ∧ y = .ref b ∧ SqT K H a (ns.map V.int) ∧ SqT K H b (ms.map V.int) ∧ Q (.bl (HT.lexLt ns ms)) H
theorem op_ltT (hu : X.A.units < cLine) : OpR X (compareOp .Lt) (rLtT X.K) := by
  intro pins s σ H x y v u Q I rx ry h
  obtain ⟨a, b, ns, ms, rfl, rfl, ha, hb, q⟩ := h
  cases rx
  cases ry
  obtain ⟨its, r1, p1, _⟩ := I.tuple ha
  obtain ⟨its2, r2, p2, _⟩ := I.tuple hb
  have i1 : IntsAre its.toArray.toList ns := intsAre_of r1
  have i2 : IntsAre its2.toArray.toList ms := intsAre_of r2
  exact HT.lt_tupInts p1 p2 i1 i2 hu ⟨.bl (HT.lexLt ns ms), H, I, rfl, q⟩
def rCatT (K : PySem.W.Frag) : R2 := fun x y H Q => ∃ a b xs ys, x = .ref a ∧ y = .ref b ∧ SqT K H a xs ∧ SqT K H b ys ∧ xs ≠ [] ∧ xs.length + ys.length ≤ sizeLine ∧
  (ys = [] → Q (.ref a) H) ∧ (ys ≠ [] → ∀ p, H p = none → Q (.ref p) (upd H p (.tup (xs ++ ys))))
theorem Vals.nil_iff {xs : List V} {us : List Value} (r : Vals xs us) : us = [] ↔ xs = [] := by
  cases r with
  | nil => simp
  | cons _ _ => simp
theorem op_catT : OpR X (binaryOp .Add) (rCatT X.K) := by
  intro pins s σ H x y v u Q I rx ry h
  obtain ⟨a, b, xs, ys, rfl, rfl, ha, hb, hx, hz, q1, q2⟩ := h
  cases rx
  cases ry
  obtain ⟨its, r1, p1, _⟩ := I.tuple ha
  obtain ⟨its2, r2, p2, _⟩ := I.tuple hb
  refine HT.cat_tup p1 p2 (fun z => hx (r1.nil_iff.mp z)) (fun z => ⟨.ref a, H, I, rfl, q1 (r2.nil_iff.mp z)⟩) (fun z => ?_) (by rw [← r1.length, ← r2.length]; exact hz)
  refine ⟨.ref s.heap.objs.size, _, I.laid (t' := s.toks) (o := .tup (xs ++ ys)) (fun b ob q => Heap.get?_push_of_some _ q) (Nat.le_refl _) ?_, rfl, q2 (fun w => z (r2.nil_iff.mpr w)) _ (I.hok.fresh (Nat.le_refl _))⟩
  exact ⟨by rw [List.length_append]; exact hz, _, r1.append r2, IsTup.new _ _⟩
end
end L2
namespace L2
open PySem PySem.Spec PyProof.Rows
def ixN (n : Nat) (i : Int) : Option Nat := if 0 ≤ i then (if i < n then some i.toNat else none) else if -(n : Int) ≤ i then some (i + n).toNat else none
def atI {α : Type} (xs : List α) (i : Int) : Option α := (ixN xs.length i).bind fun j => xs[j]?
theorem ixN_seq {n : Nat} {i : Int} {j : Nat} (h : ixN n i = some j) : seqIndex? i n = some j ∧ j < n ∧ -(n : Int) ≤ i ∧ i < n := by
  unfold ixN at h
  by_cases h0 : 0 ≤ i
  · rw [if_pos h0] at h
    by_cases h1 : i < n
    · rw [if_pos h1] at h
      have e : i.toNat = j := Option.some.inj h
      exact ⟨by rw [seqIndex_of h0 h1, e], by omega, by omega, h1⟩
    · rw [if_neg h1] at h; cases h
  · rw [if_neg h0] at h
    by_cases h1 : -(n : Int) ≤ i
    · rw [if_pos h1] at h
      have e : (i + n).toNat = j := Option.some.inj h
      exact ⟨by rw [seqIndex_neg (by omega) h1, e], by omega, h1, by omega⟩
    · rw [if_neg h1] at h; cases h
theorem atI_get {α : Type} {xs : List α} {i : Int} {v : α} (h : atI xs i = some v) : ∃ j, seqIndex? i xs.length = some j ∧ xs[j]? = some v ∧ j < xs.length ∧ -(xs.length : Int) ≤ i ∧ i < xs.length := by
  unfold atI at h
  cases e : ixN xs.length i with
  | none => rw [e] at h; cases h
  | some j =>
    rw [e] at h
    obtain ⟨h1, h2, h3, h4⟩ := ixN_seq e
    exact ⟨j, h1, h, h2, h3, h4⟩
def PlainIx (b : Expr) : Prop := ∀ o i, subscripted b false o i = operate [o, i] (getItem o i)
def IxR (X : Cx) (r : R2) : Prop :=
  ∀ (value slice : Expr) (pins : List (Addr × Obj)) (s : Shared) (σ : St) (H : Hp) (x y : V) (v u : Value) (Q : VK), Inv X pins σ H s → RelV x v → RelV y u → r x y H Q →
    subscripted slice false v u = operate [v, u] (getItem v u) → wpAny (model X.prog X.w) X.A (subscriptTail value slice v u) (EP X pins σ Q) X.xe s
def MtR (X : Cx) (id : String) (r : V → List V → Hp → VK → Prop) : Prop :=
  ∀ (pins : List (Addr × Obj)) (s : Shared) (σ : St) (H : Hp) (x : V) (xs : List V) (v : Value) (us : List Value) (Q : VK), Inv X pins σ H s → RelV x v → Vals xs us → r x xs H Q →
    wpAny (model X.prog X.w) X.A (call (.builtin id) (v :: us)) (EP X pins σ Q) X.xe s
section
variable {X : Cx} {a b : Expr} {ta tb : TE} {pos : Pos}
def rIxL (K : PySem.W.Frag) : R2 := fun x y H Q => ∃ p xs i v, x = .ref p ∧ y = .int i ∧ SqL K H p xs ∧ atI xs i = some v ∧ Q v H
def rIxT (K : PySem.W.Frag) : R2 := fun x y H Q => ∃ p xs i v, x = .ref p ∧ y = .int i ∧ SqT K H p xs ∧ atI xs i = some v ∧ Q v H
def rIxS : R2 := fun x y H Q => ∃ z i c, x = .str z ∧ y = .int i ∧ z.length ≤ sizeLine ∧ atI z.cps.toList i = some c ∧ Q (.str ⟨#[c]⟩) H
theorem ix_list : IxR X (rIxL X.K) := by
  intro value slice pins s σ H x y v u Q I rx ry h hs
  obtain ⟨p, xs, i, z, rfl, rfl, hq, he, q⟩ := h
  cases rx
  obtain ⟨t, rfl⟩ := ry
  obtain ⟨its, r, pl, hz⟩ := I.list hq
  obtain ⟨j, h1, h2, h3, h4, h5⟩ := atI_get he
  obtain ⟨w, ew, rw'⟩ := r.get h2
  have hl := r.length
  have hn := line63
  have fin : EP X pins σ Q w s := ⟨z, H, I, rw', q⟩
  by_cases h0 : 0 ≤ i
  · have hj : i.toNat = j := by
      rw [seqIndex_of h0 h5] at h1
      exact Option.some.inj h1
    exact item_listR pl.isList h0 (by omega) (by rw [hj]; simpa using ew) fin hs
  · have hj : (i + (its.toArray.size : Int)).toNat = j := by
      rw [seqIndex_neg (by omega) h4] at h1
      rw [List.size_toArray, ← hl]
      exact Option.some.inj h1
    exact subscriptTail_builtinR (x := w) pl.isList.typeIs slot_list_getitem.lookup
      (wpAny_getItem_list_neg (Q := fun r s' => r = w ∧ EP X pins σ Q r s') pl.isList (by omega) (by rw [List.size_toArray] <;> omega) (by omega) (by rw [hj]; simpa using ew) ⟨rfl, fin⟩) hs
theorem ix_tup : IxR X (rIxT X.K) := by
  intro value slice pins s σ H x y v u Q I rx ry h hs
  obtain ⟨p, xs, i, z, rfl, rfl, hq, he, q⟩ := h
  cases rx
  obtain ⟨t, rfl⟩ := ry
  obtain ⟨its, r, pl, hz⟩ := I.tuple hq
  obtain ⟨j, h1, h2, h3, h4, h5⟩ := atI_get he
  obtain ⟨w, ew, rw'⟩ := r.get h2
  have hl := r.length
  have hn := line63
  have fin : EP X pins σ Q w s := ⟨z, H, I, rw', q⟩
  exact subscriptTail_builtinR (x := w) pl.typeIs slot_tuple_getitem.lookup
    (getItem_tuple (j := j) (Q := fun r s' => r = w ∧ EP X pins σ Q r s') pl (by omega) (by omega) (by rw [List.size_toArray, ← hl]; exact h1) (by simpa using ew) ⟨rfl, fin⟩) hs
theorem ix_str : IxR X rIxS := by
  intro value slice pins s σ H x y v u Q I rx ry h hs
  obtain ⟨z, i, c, rfl, rfl, hz, he, q⟩ := h
  obtain ⟨t, rfl⟩ := rx
  obtain ⟨t', rfl⟩ := ry
  obtain ⟨j, h1, h2, h3, h4, h5⟩ := atI_get he
  have hl : z.cps.toList.length = z.length := by simp [Str.length]
  rw [hl] at h1 h4 h5
  have hn := line63
  exact tail_any (typeIs_str s z t) slot_str_getitem.lookup (getItem_str (c := c) (by
    have e1 : decide (i < -(2 ^ 63 : Int)) = false := decide_eq_false (by omega)
    have e2 : decide (i ≥ 2 ^ 63) = false := decide_eq_false (by omega)
    rw [e1, e2, Bool.or_false]) (by rw [h1]; simpa using h2) ⟨.str ⟨#[c]⟩, H, I.tok _, ⟨_, rfl⟩, q⟩) hs
theorem slice_bounds (lo hi : Option Int) (n : Nat) : (sliceBounds lo hi none n).1 = ((HT.sIx n 0 lo : Nat) : Int) ∧ (sliceBounds lo hi none n).2.1 = ((HT.sIx n n hi : Nat) : Int) ∧ (sliceBounds lo hi none n).2.2 = 1 := by
  refine ⟨?_, ?_, rfl⟩
  · cases lo with
    | none => simp [sliceBounds, HT.sIx]
    | some i =>
      simp only [sliceBounds, HT.sIx, Option.getD_none, show (1 : Int) > 0 by decide, if_true]
      by_cases h : i < 0
      · simp only [h, if_true] <;> omega
      · simp only [h, if_false] <;> omega
  · cases hi with
    | none => simp [sliceBounds, HT.sIx]
    | some i =>
      simp only [sliceBounds, HT.sIx, Option.getD_none, show (1 : Int) > 0 by decide, if_true]
      by_cases h : i < 0
      · simp only [h, if_true] <;> omega
      · simp only [h, if_false] <;> omega
theorem slicePick_cut (its : List Value) (lo hi : Option Int) : slicePick its.toArray lo hi none = ((its.drop (HT.sIx its.length 0 lo)).take (HT.sIx its.length its.length hi - HT.sIx its.length 0 lo)).toArray := by
  obtain ⟨h1, h2, h3⟩ := slice_bounds lo hi its.toArray.size
  unfold slicePick
  rw [h1, h2, h3]
  simp only [sliceRange_one, pick_run, List.size_toArray] <;> rfl
def rSlL (K : PySem.W.Frag) : V → Option Int → Option Int → Hp → VK → Prop := fun x lo hi H Q => ∃ a xs, x = .ref a ∧ SqL K H a xs ∧ ∀ p, H p = none → Q (.ref p) (upd H p (.lst (cutV xs lo hi)))
theorem sl_list : SlR X (rSlL X.K) := by
  intro pins s σ H x v vl vu lo hi sl Q I rx hs pl pu h
  obtain ⟨a, xs, rfl, hx, q⟩ := h
  cases rx
  obtain ⟨its, r, ht, hz⟩ := I.list hx
  have hlen := r.length
  refine ⟨"list", _, slot_list_getitem.lookup, ht.isList.typeIs, ?_⟩
  refine wpAny_getItem_list_slice ht.isList hs pl pu .none (by simp) ?_ (by rw [List.size_toArray] <;> omega)
  rw [slicePick_cut, ← hlen]
  refine ⟨.ref s.heap.objs.size, _, I.laid (t' := s.toks) (o := .lst (cutV xs lo hi)) (fun b ob q => Heap.get?_push_of_some _ q) (Nat.le_refl _) ?_, rfl, q _ (I.hok.fresh (Nat.le_refl _))⟩
  exact ⟨Nat.le_trans (cutV_length xs lo hi) hz, _, 0, (r.drop (HT.sIx xs.length 0 lo)).take (HT.sIx xs.length xs.length hi - HT.sIx xs.length 0 lo), Heap.get?_push_size _ rfl⟩
theorem call_len_seq : CallR X (.builtin "len") (fun xs H Q => ∃ p ys, xs = [.ref p] ∧ (SqL X.K H p ys ∨ SqT X.K H p ys) ∧ Q (.int ys.length) H) := by
  intro pins s σ H xs us Q I r h
  obtain ⟨p, ys, rfl, hq, q⟩ := h
  obtain ⟨u, rfl, rx⟩ := vals1 r
  cases rx
  have hn := line63
  rcases hq with hq | hq
  · obtain ⟨its, r', pl, hz⟩ := I.list hq
    have hlen := r'.length
    exact Calls.call_len_list pl.isList (by simp only [List.size_toArray] <;> omega) ⟨.int ys.length, H, I.tok _, ⟨s.toks + 1, by rw [List.size_toArray, hlen]⟩, q⟩
  · obtain ⟨its, r', pl, hz⟩ := I.tuple hq
    have hlen := r'.length
    exact len_tuple pl (by simp only [List.size_toArray] <;> omega) ⟨.int ys.length, H, I.tok _, ⟨s.toks + 1, by rw [List.size_toArray, hlen]⟩, q⟩
theorem call_len_str : CallR X (.builtin "len") (fun xs H Q => ∃ z, xs = [.str z] ∧ z.length ≤ sizeLine ∧ Q (.int z.length) H) := by
  intro pins s σ H xs us Q I r h
  obtain ⟨z, rfl, hz, q⟩ := h
  obtain ⟨u, rfl, t, rfl⟩ := vals1 r
  have hn := line63
  exact len_str (by omega) ⟨.int z.length, H, I.tok _, ⟨_, rfl⟩, q⟩
theorem call_list_of : CallR X (.type "list") (fun xs H Q => ∃ p ys, xs = [.ref p] ∧ (SqL X.K H p ys ∨ SqT X.K H p ys) ∧ ∀ l, H l = none → Q (.ref l) (upd H l (.lst ys))) := by
  intro pins s σ H xs us Q I r h
  obtain ⟨p, ys, rfl, hq, q⟩ := h
  obtain ⟨u, rfl, rx⟩ := vals1 r
  cases rx
  have fin : ∀ (its : List Value), Vals ys its → ys.length ≤ sizeLine → ∀ (h' : Heap) (c' : Nat), (∀ b o', s.heap.get? b = some o' → h'.get? b = some o') →
      h'.get? s.heap.objs.size = some { cls := .type "list", dict := none, data := .seq its.toArray c', slots := #[] } → EP X pins σ Q (.ref s.heap.objs.size) { s with heap := h' } := fun its r' hz h' c' kp e =>
    ⟨.ref s.heap.objs.size, _, I.laid (t' := s.toks) kp (Nat.le_refl _) (show ObjOk X.prog X.w _ h' _ (.lst ys) from ⟨hz, its, c', r', e⟩), rfl, q _ (I.hok.fresh (Nat.le_refl _))⟩
  rcases hq with hq | hq
  · obtain ⟨its, r', pl, hz⟩ := I.list hq
    have hlen := r'.length
    obtain ⟨o, ho, hc, n, hd⟩ := pl.isList
    exact call_list_seq p (.inl rfl) ho hc hd (fun h' c' kp e => fin its r' hz h' c' kp e) (by simp only [List.size_toArray] <;> omega)
  · obtain ⟨its, r', pl, hz⟩ := I.tuple hq
    have hlen := r'.length
    obtain ⟨o, ho, hc, n, hd⟩ := pl
    exact call_list_seq p (.inr rfl) ho hc hd (fun h' c' kp e => fin its r' hz h' c' kp e) (by simp only [List.size_toArray] <;> omega)
def tyV (K : PySem.W.Frag) (T : String) (x : V) (H : Hp) : Prop := match x with
  | .str _ => T = "str"
  | .int _ => T = "int"
  | .ref p => (T = "list" ∧ ∃ xs, SqL K H p xs) ∨ (T = "tuple" ∧ ∃ o, K.lookup p = some o ∧ o.cls = .type "tuple" ∧ o.dict = none) ∨
      (T = "dict" ∧ ((∃ kvs, H p = some (.dK kvs)) ∨ ∃ kvs, H p = some (.dT kvs))) ∨ (T = "set" ∧ ∃ S n, H p = some (.set S n))
  | _ => False
theorem tyV_is {pins : List (Addr × Obj)} {σ : St} {H : Hp} {s : Shared} {T : String} {x : V} {v : Value} (I : Inv X pins σ H s) (r : RelV x v) (ty : tyV X.K T x H) :
    s.TypeIs v T ∧ ∀ a, v = .ref a → ∃ ob, s.heap.get? a = some ob ∧ ob.dict = none := by
  cases x with
  | str z =>
    obtain ⟨t, rfl⟩ := r
    cases (show T = "str" from ty)
    exact ⟨typeIs_str s z t, fun _ e => nomatch e⟩
  | int i =>
    obtain ⟨t, rfl⟩ := r
    cases (show T = "int" from ty)
    exact ⟨typeIs_int s i t, fun _ e => nomatch e⟩
  | ref p =>
    cases r
    rcases ty with ⟨rfl, xs, hq⟩ | ⟨rfl, o, hk, hc, hd⟩ | ⟨rfl, hk⟩ | ⟨rfl, S, n, hk⟩
    · obtain ⟨its, _, pl, _⟩ := I.list hq
      refine ⟨pl.isList.typeIs, fun a e => ?_⟩
      cases e
      obtain ⟨o, n, e, c, hd, _⟩ := pl
      exact ⟨o, e, hd⟩
    · refine ⟨⟨o, I.kIn p o hk, hc⟩, fun a e => ?_⟩
      cases e
      exact ⟨o, I.kIn _ o hk, hd⟩
    · have z : ∃ o, s.heap.get? p = some o ∧ o.ExactDict := by
        rcases hk with ⟨kvs, hk⟩ | ⟨kvs, hk⟩
        · obtain ⟨_, _, _, _, o, _, _, e, ex, _⟩ := I.hok p _ hk
          exact ⟨o, e, ex⟩
        · obtain ⟨_, _, _, _, o, _, _, e, ex, _⟩ := I.hok p _ hk
          exact ⟨o, e, ex⟩
      obtain ⟨o, e, ex⟩ := z
      refine ⟨⟨o, e, ex.1⟩, fun a e2 => ?_⟩
      cases e2
      exact ⟨o, e, ex.2.1⟩
    · obtain ⟨o, _, _, _, e, ex, _⟩ := I.hok p _ hk
      refine ⟨⟨o, e, ex.1⟩, fun a e2 => ?_⟩
      cases e2
      exact ⟨o, e, ex.2.1⟩
  | _ => exact False.elim ty
def tBM (K : PySem.W.Frag) (T : String) (r : V → List V → Hp → VK → Prop) (to : TE) (t : TA) : TE := fun σ H Q => to σ H fun x H1 => tyV K T x H1 ∧ t σ H1 fun xs H2 => r x xs H2 Q
variable {o e : Expr} {es : List Expr} {to : TE} {t : TA} {name : Str} {apos cpos : Pos} {T id : String} {r : V → List V → Hp → VK → Prop}
theorem pe_bm (pa : PlainAttrs T) (slot : Slot T name id) (hty : typeOf (.builtin id) = pure (.type "method_descriptor")) (hm : MtR X id r) (ho : PE X o to) (ha : PA X (e :: es) t)
    (hbase : attributeBase o name X.env (eval o X.env) = eval o X.env := by rfl)
    (hfew : ((backTo cpos (starEach (e :: es) X.env)).all (fun x => !x.1) && (backToKw cpos (keywordEach [] X.env)).all (fun x => x.1.isSome)
      && decide ((e :: es).length + ([] : List Keyword).length + (if ([] : List Keyword).isEmpty then 0 else 1) < 30)) = true := by rfl)
    (hline : (apos.endLine == cpos.line) = true := by rfl) (hs : starEach (e :: es) X.env = (false, eval e X.env) :: starEach es X.env := by rfl) (hplain : (backTo cpos (starEach es X.env)).any (·.1) = false := by rfl) :
    PE X (.Call (.Attribute o name apos) (e :: es) [] cpos) (tBM X.K T r to t) := by
  intro pins s σ H Q I h
  refine wpAny_Call_method_late hbase hfew hline rfl (thn (ho pins s σ H _ I h) fun v s1 ⟨x, H1, I1, r1, ty, q1⟩ => ?_)
  obtain ⟨h1, h2⟩ := tyV_is I1 r1 ty
  refine ⟨T, id, pa, slot, hty, h1, h2, ?_⟩
  have hA := ha cpos pins s1 σ H1 _ I1 q1
  rw [hs] at hA ⊢
  refine Calls.callWith_builtin (by show (false || (backTo cpos (starEach es X.env)).any (·.1)) = false; rw [hplain] <;> rfl) (Calls.evalArgs_plain ?_)
  exact thn hA fun us s2 ⟨vs, H2, I2, r2, q2⟩ => hm pins s2 σ H2 x vs v us Q I2 r1 r2 q2
end
end L2
namespace L2
open PySem PySem.Spec PyProof.Rows
def MtM (X : Cx) (id : String) (r : V → List V → Hp → VK → Prop) : Prop :=
  ∀ (pins : List (Addr × Obj)) (s : Shared) (σ : St) (H : Hp) (x : V) (xs : List V) (v : Value) (us : List Value) (Q : VK), Inv X pins σ H s → RelV x v → Vals xs us → r x xs H Q →
    wpAny (model X.prog X.w) X.A (call (.builtin id) (v :: us)) (EP X pins σ Q) X.xe s
theorem Vals.one : ∀ {x : V} {us : List Value}, Vals [x] us → ∃ u, us = [u] ∧ RelV x u
  | _, _, .cons r .nil => ⟨_, rfl, r⟩
section
variable {X : Cx} {pins : List (Addr × Obj)} {σ : St} {H : Hp} {s : Shared} {l b : Addr} {xs ys zs : List V}
theorem Inv.lset {its its' : List Value} {n : Nat} {f : Array Value → Array Value} {t' : Nat} (I : Inv X pins σ H s) (hH : H l = some (.lst xs))
    (e : s.heap.get? l = some { cls := .type "list", data := .seq its.toArray n }) (hf : f its.toArray = its'.toArray) (hv : Vals ys its') (hz : ys.length ≤ sizeLine) :
    Inv X pins σ (upd H l (.lst ys)) { s with heap := s.heap.update l (Obj.mapSeq f), toks := t' } := by
  have q := PySem.IsL.update e f
  rw [hf] at q
  refine I.write (x := l) (e := l) (by rw [hH]; exact trivial) (.inl rfl) (fun b' u hb hu => (Heap.get?_update_other s.heap (Obj.mapSeq f) (Ne.symm hb)).trans hu) ⟨_, q⟩ ?_
  exact ⟨hz, its', _, hv, q⟩
theorem Inv.lnew {its : List Value} {t' : Nat} (I : Inv X pins σ H s) (hv : Vals ys its) (hz : ys.length ≤ sizeLine) :
    Inv X pins σ (upd H s.heap.objs.size (.lst ys)) { s with heap := s.heap.push { cls := .type "list", data := .seq its.toArray }, toks := t' } :=
  I.laid (fun _ _ q => Heap.get?_push_of_some _ q) (Nat.le_refl _) ⟨hz, its, 0, hv, Heap.get?_push_size _ rfl⟩
theorem Inv.fresh (I : Inv X pins σ H s) : H s.heap.objs.size = none := I.hok.fresh (Nat.le_refl _)
theorem Inv.lstM (I : Inv X pins σ H s) (hH : H l = some (.lst xs)) : xs.length ≤ sizeLine ∧ ∃ (its : List Value) (n : Nat), Vals xs its ∧ xs.length = its.length ∧ s.heap.get? l = some { cls := .type "list", data := .seq its.toArray n } := by
  obtain ⟨z, its, n, r, e⟩ := I.hok l _ hH
  exact ⟨z, its, n, r, r.length, e⟩
end
section
variable {X : Cx}
def rAppend : V → List V → Hp → VK → Prop := fun x vs H Q => ∃ l xs y, x = .ref l ∧ vs = [y] ∧ H l = some (.lst xs) ∧ xs.length < sizeLine ∧ Q .non (upd H l (.lst (xs ++ [y])))
theorem mt_append : MtM X "list.append" rAppend := by
  intro pins s σ H x vs v us Q I rx rv h
  obtain ⟨l, xs, y, rfl, rfl, hH, hz, q⟩ := h
  cases rx
  obtain ⟨u, rfl, ru⟩ := rv.one
  obtain ⟨z, its, n, r, hl, e⟩ := I.lstM hH
  refine call_meets F.slot_list_append ⟨_, e, rfl⟩ F.entry_list_append (F.args_list_append_2 _ _) (PySem.list_append l its.toArray n u (by rw [List.size_toArray]; omega)) ⟨e, ?_⟩
  refine ⟨.non, _, I.lset (its' := its ++ [u]) hH e (by simp) (r.append (.cons ru .nil)) ?_, rfl, q⟩
  rw [List.length_append, List.length_singleton]
  omega
end
section
variable {prog : Program} {w : World} {A : Around} {E : Value → Shared → Prop} {s : Shared}
end
section
variable {X : Cx}
end
end L2
namespace Att
open PySem PySem.W PySem.Calls PyProof.Rows
theorem ints_of_wellAll {P : Params} {h : Heap} : ∀ (ns : List Int) (vs : List Value), WellAll P h vs (ns.map WData.int) → IntsAre vs ns := by
  intro ns
  induction ns with
  | nil =>
    intro vs w
    rw [List.map_nil] at w
    cases w
    exact .nil
  | cons n ns ih =>
    intro vs w
    rw [List.map_cons] at w
    cases w with
    | cons a b =>
      cases a
      exact .cons _ _ (ih _ b)
theorem script_of {l : OpenLaw} {n : Nat} (hn : l.most = some n) {P : Params} {h : Heap} {args : List WData} {vals : List Value}
    (hpre : l.row.toRowW.claim.pre args = true) (hwl : WellAll P h vals args) :
    ∃ a vs ns, vals = [Value.ref a] ∧ args = [WData.list (ns.map WData.int)] ∧ h.get? a = some { cls := .type "list", data := .seq vs.toArray } ∧ IntsAre vs ns ∧ ns.length ≤ n := by
  have hsh : WShape.hasAll [] args [.list .int] = true := (pre_splitW hpre).1
  have hc : l.pre.holds [] { args := args } = true := (pre_splitW hpre).2
  obtain ⟨d, r, rfl, h1, h2⟩ := hasAllW_cons hsh
  obtain rfl := hasAllW_nil h2
  obtain ⟨xs, rfl, h3⟩ := hasW_list h1
  obtain ⟨ns, rfl⟩ := items_int h3
  have hlen : ns.length ≤ n := by
    unfold OpenLaw.pre at hc
    have h4 : (WTm.not (.lt (.lit (.int (n : Int))) (.len (.arg 0)))).holds [] { args := [.list (ns.map .int)] } = true := by
      have h4 := (holds_andW hc).1
      rw [hn] at h4
      exact h4
    have h5 := condW_of h4 (w_not (w_lt w_lit (w_len_list (w_arg rfl))))
    rw [List.length_map] at h5
    refine Nat.le_of_not_lt fun q => ?_
    have q' : (n : Int) < ((ns.length : Nat) : Int) := by omega
    first
      | (rw [decide_eq_true q'] at h5; exact absurd h5 (by decide))
      | (simp at h5; omega)
  cases hwl with
  | cons w1 w2 =>
    cases w2
    cases w1 with
    | list ho hall => exact ⟨_, _, ns, rfl, rfl, ho, ints_of_wellAll ns _ hall, hlen⟩
theorem post_true (l : OpenLaw) (args : List WData) : l.row.toRowW.claim.post args (.bool true) args = true :=
  postW_of (r := l.row.toRowW) (X := (true == true))
    (show WShape.has [] (.bool true) .bool = true by first | rfl | decide | simp [WShape.has, WShape.arms, WShape.armsAll])
    (show (WTm.eq .res (.lit (.bool true))).value [] { args := args, res := some (.bool true), after := args } = some (.bool (true == true)) from w_eq_bool (w_res rfl) w_lit) rfl
theorem attach_call {l : OpenLaw} {n : Nat} {q : Program} {loose : List Str} {XP : (Str → Option Value) → Heap → Prop} {YP : World → Heap → Prop} {d : DefRec}
    (hn : l.most = some n) (hdf : d.params.defaults = [])
    (call : ∀ (w : World) (s₀ s₁ : Shared) (mg mb : Str → Option Value) (fa : Addr) (o : Obj) (pm cd doc : Value) (a : Addr) (vs : List Value) (ns : List Int),
      Ground q loose [] XP w s₀ mg mb s₁.heap → YP w s₁.heap →
      s₁.heap.get? fa = some o → o.data = .func (docDef d.name d.params d.body d.scope pm cd doc) → s₁.heap.CodeRec cd d.name → mg d.name = some (.ref fa) →
      s₁.heap.get? a = some { cls := .type "list", data := .seq vs.toArray } → IntsAre vs ns → ns.length ≤ n → s₁.gens = #[] →
      codeAny (model l.prog w) callerA (.call (.ref fa) ⟨[.ref a], []⟩) (fun r s' => r = .ok (.ret (.bool true)) ∧ OldK s₁.heap s'.heap ∧ s'.os = s₁.os ∧ AllBare s'.gens) s₁) :
    WalkO q loose XP YP l.row.toRowW d [] (fun f vs => PySem.call f vs) := by
  intro w s₀ s₁ mg mb G Y fa o pm cd doc dV kV ho hd hcd hD hmg hg args vals as hpre hlay hrd hwl hlo
  obtain rfl : dV = .none := Dflts.none hD hdf
  obtain rfl : kV = .none := Dflts.noKw hD
  obtain ⟨a, vs, ns, rfl, rfl, hobj, hints, hlen⟩ := script_of hn hpre hwl
  refine enter_call (codeAny_mono (call w s₀ s₁ mg mb fa o pm cd doc a vs ns G Y ho (fd_plain hd) hcd hmg hobj hints hlen hg) fun r s' hq => ?_)
  obtain ⟨rfl, h2, h3, h4⟩ := hq
  exact ⟨.inl ⟨.bool true, .bool true, [], rfl, fun _ => rfl, .bool true, post_true l _, fun _ => ⟨List.Pairwise.nil, fun _ hm => (nomatch hm)⟩⟩, h2, h3, h4⟩
section
variable {prog : Program} {w : World} {A : Around} {E : Value → Shared → Prop} {s : Shared} {K : Frag}
def ledger (h : Heap) (L d : Addr) : List (Addr × Obj) := (List.range h.objs.size).filterMap fun a => if a = L ∨ a = d then none else (h.get? a).map fun o => (a, o)
end
end Att
namespace L2
open PySem PySem.Spec PyProof.Rows
theorem vals_ints : ∀ {vs : List Value} {ns : List Int}, IntsAre vs ns → Vals (ns.map V.int) vs
  | _, _, .nil => .nil
  | _, _, .cons n t h => .cons ⟨t, rfl⟩ (vals_ints h)
def Only (H : Hp) : Prop := ∀ b, H b = none ∨ ∃ o xs, H b = some (.frz o (.lst xs))
theorem law_call {P : Program} {w : World} {K : PySem.W.Frag} {mg mb : Str → Option Value} {CX : CXT} {k : Nat} {fa a : Addr} {fd : FuncData} {x : Str} {sp : Sp} {s₁ : Shared} {vs : List Value} {ns : List Int}
    (KX : K.In s₁.heap) (hns : s₁.heap.Ns mainGlobals mg) (hb : s₁.heap.Ns builtinsNs mb) (hbb : ∀ x : Str, x ≠ "__name__" → mb x = bootBuiltins x) (hlim : s₁.heap.NoLimit) (hg : s₁.gens = #[])
    (ha : s₁.heap.get? a = some { cls := .type "list", data := .seq vs.toArray }) (hi : IntsAre vs ns) (hl : ns.length ≤ sizeLine) (hr : Room k callerA)
    (F : ∀ base : Heap, K.In base → base.Ns mainGlobals mg → FnOk P w K mg base CX k fa fd [x] sp) (hbind : ∀ (s : Shared) (u : Value), BindsTo s fd ⟨[u], []⟩ [(x, u)])
    (hsp : ∀ H : Hp, Only H → SqL K H a (ns.map V.int) → sp [.ref a] H (fun v _ => v = .bl true) fun _ _ _ => False)
    (hCX : ∀ H e s', CX [] H s₁ (fun _ _ _ => False) e s' → False) :
    codeAny (model P w) callerA (.call (.ref fa) ⟨[.ref a], []⟩) (fun r s' => r = .ok (.ret (.bool true)) ∧ OldK s₁.heap s'.heap ∧ s'.os = s₁.os ∧ AllBare s'.gens) s₁ := by
  have rv := vals_ints hi
  have lenV := hi.length
  have core : ∀ H : Hp, Only H → SqL K H a (ns.map V.int) → HOk P w H s₁.heap → (∀ b, H b ≠ none → b = a) → (H a ≠ none → K.lookup a = none) →
      codeAny (model P w) callerA (.call (.ref fa) ⟨[.ref a], []⟩) (fun r s' => r = .ok (.ret (.bool true)) ∧ OldK s₁.heap s'.heap ∧ s'.os = s₁.os ∧ AllBare s'.gens) s₁ := by
    intro H hO hS hok hA hK
    have base_of : ∀ {b : Addr} {o : Obj}, s₁.heap.get? b = some o → H b = none → (hidT s₁.heap H).get? b = some o := fun e n => hidT_get e n
    have noA : ∀ {b : Addr} {o : Obj} {es : Array DictEntry} {ep : Nat}, s₁.heap.get? b = some o → o.data = .dict es ep → H b = none := fun {b o es ep} e d => by
      cases q : H b with
      | none => rfl
      | some u =>
        have e' : b = a := hA b (by rw [q]; simp)
        subst e'
        rw [ha] at e; cases e
        have d' : Data.seq vs.toArray _ = Data.dict es ep := d
        cases d'
    have nsK : ∀ {b : Addr} {m : Str → Option Value}, s₁.heap.Ns b m → (hidT s₁.heap H).Ns b m := fun {b m} ⟨o, es, ep, e, d, r⟩ => ⟨o, es, ep, base_of e (noA e d), d, r⟩
    have hKb : K.In (hidT s₁.heap H) := fun b o e => base_of (KX b o e) (by
      cases q : H b with
      | none => rfl
      | some u =>
        have e' : b = a := hA b (by rw [q]; simp)
        subst e'
        rw [hK (by rw [q]; simp)] at e; cases e)
    have hM : Mod K mg (hidT s₁.heap H) := ⟨hKb, nsK hns, ⟨mb, nsK hb, hbb⟩, let ⟨mc, h1, h2⟩ := hlim; ⟨mc, nsK h1, h2⟩⟩
    have e0 : Env0 P w K mg (hidT s₁.heap H) callerA [] s₁ H := ⟨rfl, hM, fun b o e => of_hidT e, Nat.le_of_eq (hidT_size _ _), trivial, fun b hb => absurd (show b ∈ ([] : List Addr) from hb) (by simp), hok, .of_eq hg⟩
    refine codeAny_mono ((F _ hKb (nsK hns)).run callerA [] s₁ H ⟨[.ref a], []⟩ [.ref a] [.ref a] _ _ hr e0 (hbind s₁ (.ref a)) (.cons rfl .nil) (hsp H hO hS)) fun r s' h => ?_
    cases r with
    | error e => exact (hCX H e s' h).elim
    | ok fl =>
      cases fl with
      | next => exact False.elim h
      | brk => exact False.elim h
      | cont => exact False.elim h
      | ret u =>
        obtain ⟨v, H', os, bare, un, hok', r', q⟩ := h
        have q' : v = .bl true := q
        subst q'
        obtain rfl : u = Value.bool true := r'
        refine ⟨rfl, OldK.of_keep fun b o e => ?_, os, bare⟩
        cases q : H b with
        | none => exact un.keep b o e q (by intro z; exact absurd (show b ∈ ([] : List Addr) from z) (by simp)) (by simp)
        | some u =>
          rcases hO b with z | ⟨ob, xs, z⟩
          · rw [q] at z; cases z
          · have z2 := un.frzs b ob _ z
            obtain ⟨e1, _⟩ := hok b _ z
            obtain ⟨e2, _⟩ := hok' b _ z2
            rw [e] at e1; cases e1
            exact e2
  cases hk : K.lookup a with
  | some o =>
    have e := KX a o hk
    rw [ha] at e
    cases e
    refine core (fun _ => none) (fun _ => .inl rfl) (.inr ⟨_, vs.toArray, _, hk, rfl, rfl, rfl, by rw [List.size_toArray, lenV]; exact hl, by simpa using rv⟩) (fun b u z => by have z' : (none : Option HO) = some u := z; cases z') (fun b z => absurd rfl z) fun z => absurd rfl z
  | none =>
    refine core (fun b => if b = a then some (.frz { cls := .type "list", data := .seq vs.toArray } (.lst (ns.map V.int))) else none) (fun b => ?_) (.inl (.inr ⟨{ cls := .type "list", data := .seq vs.toArray }, if_pos rfl⟩)) (fun b u z => ?_) (fun b z => ?_) fun _ => hk
    · by_cases hb : b = a
      · exact .inr ⟨_, _, if_pos hb⟩
      · exact .inl (if_neg hb)
    · by_cases hb : b = a
      · have z' := (if_pos hb).symm.trans z
        cases z'
        subst hb
        exact ⟨ha, by rw [List.length_map]; exact hl, vs, _, rv, ha⟩
      · have z' := (if_neg hb).symm.trans z
        cases z'
    · by_cases hb : b = a
      · exact hb
      · exact absurd (if_neg hb) z
end L2
namespace L2
open PySem PySem.Spec PyProof.Rows
abbrev KOf {K : PySem.W.Frag} {h : Heap} (_ : K.In h) : PySem.W.Frag := K
theorem walk_of {l : PySem.W.OpenLaw} {n k : Nat} {q : Program} {loose : List Str} {XP : (Str → Option Value) → Heap → Prop} {YP : World → Heap → Prop} {d : DefRec} {K : Params → PySem.W.Frag} {CX : World → CXT} {sp : World → Sp} {x : Str}
    (hn : l.most = some n) (hn2 : n ≤ sizeLine) (hdf : d.params.defaults = []) (hr : Room k callerA)
    (hY : ∀ (w : World) (h : Heap), YP w h → (K w.params).In h)
    (F : ∀ (w : World) (mg : Str → Option Value) (fa : Addr) (h : Heap), (K w.params).In h → h.Ns mainGlobals mg → mg d.name = some (.ref fa) →
      ∃ fd : FuncData, (∀ (s : Shared) (u : Value), BindsTo s fd ⟨[u], []⟩ [(x, u)]) ∧
        ∀ base : Heap, (K w.params).In base → base.Ns mainGlobals mg → FnOk l.prog w (K w.params) mg base (CX w) k fa fd [x] (sp w))
    (hsp : ∀ (w : World) (H : Hp) (a : Addr) (ns : List Int), ns.length ≤ n → Only H → SqL (K w.params) H a (ns.map V.int) → sp w [.ref a] H (fun v _ => v = .bl true) fun _ _ _ => False)
    (hCX : ∀ (w : World) (H : Hp) (s : Shared) (e : Value) (s' : Shared), CX w [] H s (fun _ _ _ => False) e s' → False) :
    PySem.W.WalkO q loose XP YP l.row.toRowW d [] (fun f vs => PySem.call f vs) := by
  refine Att.attach_call hn hdf fun w s₀ s₁ mg mb fa o pm cd doc a vs ns G Y ho hd hcd hmg hobj hints hlen hg => ?_
  have KX := hY w _ Y
  obtain ⟨fd, hb, hF⟩ := F w mg fa _ KX G.T.g hmg
  exact law_call KX G.T.g G.T.b G.T.builtins G.T.nolimit hg hobj hints (Nat.le_trans hlen hn2) hr hF hb (fun H hO hS => hsp w H a ns hlen hO hS) fun H e s' => hCX w H s₁ e s'
end L2
namespace L2
open PySem PySem.Spec PyProof.Rows
def inClass (s : Stmt) (j : Nat) : Stmt := match s with
  | .ClassDef _ _ _ body _ _ _ _ _ _ _ => body.getD j (.Pass ⟨0, 0, 0, 0⟩)
  | _ => .Pass ⟨0, 0, 0, 0⟩
def defArgs (s : Stmt) : Arguments := match s with
  | .FunctionDef _ a _ _ _ _ _ _ _ _ => a
  | _ => { posonlyargs := [], args := [], vararg := none, kwonlyargs := [], kw_defaults := [], kwarg := none, defaults := [] }
def defBody (s : Stmt) : List Stmt := match s with
  | .FunctionDef _ _ b _ _ _ _ _ _ _ => b
  | _ => []
def defScope (s : Stmt) : Scope := match s with
  | .FunctionDef _ _ _ _ _ _ sc _ _ _ => sc
  | _ => { kind := .function, names := [], isGenerator := false, isCoroutine := false }
structure Fun (K : PySem.W.Frag) (x qual : Str) (st : Stmt) (f : Addr) (fd : FuncData) : Prop where
  ex : ∃ (oc : Value) (od : Option Addr) (kV doc pm : Value) (an : Option Addr) (cdv ct : Value) (osl : Array (Option Value)),
    fd = PySem.W.fnOf x qual (defArgs st) (defBody st) (defScope st) .none kV doc pm an cdv ct ∧ K.lookup f = some ⟨oc, od, .func fd, osl⟩ ∧ PySem.W.codeIn K cdv qual = true
  kp : PySem.W.keepIn K (.ref f) = true
section
variable {P : Program} {w : World} {K : PySem.W.Frag} {mg : Str → Option Value} {base : Heap}
theorem Fun.binds {x qual : Str} {st : Stmt} {f : Addr} {fd : FuncData} {ps : List Str} (F : Fun K x qual st f fd)
    (h : ∀ (kV doc pm : Value) (an : Option Addr) (cdv ct : Value) (us : List Value), us.length = ps.length → bindArgs (PySem.W.fnOf x qual (defArgs st) (defBody st) (defScope st) .none kV doc pm an cdv ct) ⟨us, []⟩ = pure (ps.zip us)) : Binds K fd ps [] := by
  obtain ⟨oc, od, kV, doc, pm, an, cdv, ct, osl, rfl, lk, hcd⟩ := F.ex
  exact .all (h kV doc pm an cdv ct)
theorem fun_mk {x qual : Str} {st : Stmt} {f : Addr} {oc : Value} {od an : Option Addr} {osl : Array (Option Value)} {kV doc pm cdv ct : Value} (l : K.lookup f = some ⟨oc, od, .func (PySem.W.fnOf x qual (defArgs st) (defBody st) (defScope st) .none kV doc pm an cdv ct), osl⟩)
    (c : PySem.W.codeIn K cdv qual = true) (k : PySem.W.keepIn K (.ref f) = true) : Fun K x qual st f (PySem.W.fnOf x qual (defArgs st) (defBody st) (defScope st) .none kV doc pm an cdv ct) := ⟨⟨oc, od, kV, doc, pm, an, cdv, ct, osl, rfl, l, c⟩, k⟩
end
section
variable {X : Cx}
end
def Same (H H' : Hp) : Prop := ∀ b o, H b = some o → H' b = some o
end L2
end
section
set_option linter.all false
set_option maxRecDepth 100000
namespace NH
open PySem
def XNew (h : Heap) (x : Addr) (cls : Value) (d : Option Addr) : Prop := ∃ oe vs a0, h.get? x = some oe ∧ (oe.cls = cls ∧ oe.dict = d) ∧ oe.data = .fields vs ∧ vs[0]? = some a0 ∧ vs[1]? = some .none
def XTr (h : Heap) (x T : Addr) (cls : Value) (d : Option Addr) (fl : Value) : Prop := ∃ oe vs a0 oT ts, h.get? x = some oe ∧ (oe.cls = cls ∧ oe.dict = d) ∧ oe.data = .fields vs ∧ vs[0]? = some a0 ∧ vs[1]? = some (.ref T) ∧ T ≠ x ∧ h.get? T = some oT ∧ oT.data = .fields ts ∧ ts[3]? = some fl
def XRec (h : Heap) (x : Addr) (cls : Value) (d : Option Addr) : Option Addr → Value → Prop
  | none, fl => XNew h x cls d ∧ fl = .none
  | some T, fl => XTr h x T cls d fl
structure XMove (fs : List Addr) (x : Addr) (T T' : Option Addr) (h h' : Heap) : Prop where
  keep : ∀ b o, h.get? b = some o → b ∉ fs → b ≠ x → b ∉ T.toList → h'.get? b = some o
  slot : ∀ b o, h.get? b = some o → b ∈ fs → b ≠ x → b ∉ T.toList → ∃ sl, h'.get? b = some { o with slots := sl }
  newT : ∀ t ∈ T'.toList, t ∈ T.toList ∨ h.objs.size ≤ t
theorem XMove.refl (fs : List Addr) (x : Addr) (T : Option Addr) (h : Heap) : XMove fs x T T h h := ⟨fun _ _ e _ _ _ => e, fun _ o e _ _ _ => ⟨o.slots, e⟩, fun _ ht => .inl ht⟩
theorem dict_mapFields (o : Obj) (f : Array Value → Array Value) : (Obj.mapFields f o).dict = o.dict := by
  obtain ⟨c, d, dt, sl⟩ := o
  cases dt <;> rfl
section
variable {M : Model} {A : Around} {E : Value → Shared → Prop} {s : Shared}
theorem frame_of {base : Heap} {env e0 : Env} {outer : List Env} {L : Addr} {Q : Value → Shared → Prop} (hfr : A.frames = some (e0 :: outer)) (hl : s.heap.FunFrames base (e0 :: outer))
    (hf : env.frame = some L) (h0 : e0.frame = some L) (h : ∀ h', Heap.SlotsOnly ((e0 :: outer).filterMap (·.frame)) s.heap h' → Q (.ref L) { s with heap := h' }) : wpAny M A (frameOf env) Q E s := by
  unfold frameOf
  refine wpAny_bind (wpAny_frameEnvs hfr ?_)
  have hw : ((e0 :: outer).dropWhile fun y => y.frame != env.frame) = e0 :: outer := by simp [List.dropWhile, hf, h0]
  rw [hw]
  unfold frameObject
  refine wpAny_bind (wpAny_bind (wpAny_readyFrames_fun hl fun h1 q1 => wpAny_pure ?_))
  rw [h0]
  exact wpAny_pure (h h1 q1)
theorem entry_laid {base : Heap} {env e0 : Env} {outer : List Env} {L x : Addr} {cls head : Value} {d T : Option Addr} {had : Bool} {oe : Obj} {vs : Array Value} {a0 : Value} {Q : Unit → Shared → Prop}
    (hfr : A.frames = some (e0 :: outer)) (hl : s.heap.FunFrames base (e0 :: outer)) (hf : env.frame = some L) (h0 : e0.frame = some L)
    (ho : s.heap.get? x = some oe) (hc : oe.cls = cls ∧ oe.dict = d) (hd : oe.data = .fields vs) (hv0 : vs[0]? = some a0) (hsz : 1 < vs.size)
    (h : ∀ h' t, XTr h' x t cls d (rawInt L) → XMove ((e0 :: outer).filterMap (·.frame)) x T (some t) s.heap h' → s.heap.objs.size ≤ t → Q () { s with heap := h' }) :
    wpAny M A (do let a ← frameOf env; let pl ← entryPlaceOf L had; let b ← EntryCells.newEntry head a .none (rawInt L) .none pl; setField (.ref x) 1 b) Q E s := by
  have nin : x ∉ (e0 :: outer).filterMap (·.frame) := fun hm => by
    obtain ⟨_, o, ho', nf⟩ := hl.mem hm
    rw [ho] at ho'; cases ho'; exact nf vs hd
  refine wpAny_bind (frame_of hfr hl hf h0 fun h1 q1 => ?_)
  refine wpAny_bind (wpAny_entryPlaceOf fun pl hpl => ?_)
  unfold EntryCells.newEntry newFields
  refine wpAny_bind (wpAny_newObj_type ?_ (hpl.sizeOk5 _ _ _ _ _))
  have e1 : h1.get? x = some oe := (q1.2.1 x nin).trans ho
  generalize hob : ({ cls := .type "traceback", dict := none, data := .fields ([head, .ref L, .none, rawInt L, .none] ++ (if pl.isEmpty then List.replicate 6 Value.none else pl)).toArray } : Obj) = ob
  have e2 := Heap.get?_push_of_some (h := h1) ob e1
  have hdata : ob.data = .fields ([head, .ref L, .none, rawInt L, .none] ++ (if pl.isEmpty then List.replicate 6 Value.none else pl)).toArray := by rw [← hob]
  have hfree : ob.isFreed = false := by rw [← hob]; rfl
  refine wpAny_setField e2 hd hsz ?_
  have tx : h1.objs.size ≠ x := Nat.ne_of_gt (Heap.lt_size e1)
  have d3 := Obj.data_mapFields hd (·.setIfInBounds 1 (Value.ref h1.objs.size))
  have e3 := Heap.get?_update_self (Obj.mapFields (·.setIfInBounds 1 (Value.ref h1.objs.size))) e2 (Obj.isFreed_of_fields d3)
  have other : ∀ b o, b ≠ x → h1.get? b = some o → ((h1.push ob).update x (Obj.mapFields (·.setIfInBounds 1 (Value.ref h1.objs.size)))).get? b = some o := fun b o hb e => by
    rw [Heap.get?_update_other _ _ (Ne.symm hb)]; exact Heap.get?_push_of_some _ e
  refine h _ h1.objs.size ⟨_, _, a0, ob, _, e3, ⟨(Obj.cls_mapFields _ _).trans hc.1, (dict_mapFields _ _).trans hc.2⟩, d3, by rw [Array.getElem?_setIfInBounds_ne (by decide)]; exact hv0, by simp [hsz], tx, ?_, hdata, ?_⟩ ⟨fun b o e nb nx _ => ?_, fun b o e _ nx _ => ?_, fun t ht => .inr ?_⟩ (Nat.le_of_eq q1.1.symm)
  · rw [Heap.get?_update_other _ _ (Ne.symm tx)]; exact Heap.get?_push_size _ hfree
  · first | (simp; done) | (rcases hpl with rfl | ⟨_, _, _, _, _, _, _, rfl⟩ <;> simp)
  · exact other b o nx ((q1.2.1 b nb).trans e)
  · obtain ⟨sl, e'⟩ := q1.2.2 b o e
    exact ⟨sl, other b _ nx e'⟩
  · have : t = h1.objs.size := by simpa using ht
    rw [this]; exact Nat.le_of_eq q1.1.symm
theorem note_any {base : Heap} {env e0 : Env} {outer : List Env} {L x : Addr} {cls : Value} {d T : Option Addr} {fl : Value} {Q : Unit → Shared → Prop}
    (hfr : A.frames = some (e0 :: outer)) (hl : s.heap.FunFrames base (e0 :: outer)) (hf : env.frame = some L) (h0 : e0.frame = some L) (hx : XRec s.heap x cls d T fl) (hfl : fl = .none ∨ fl = rawInt L)
    (h : ∀ h' t, XTr h' x t cls d (rawInt L) → XMove ((e0 :: outer).filterMap (·.frame)) x T (some t) s.heap h' → Q () { s with heap := h' }) : wpAny M A (noteFrame (.ref x) env) Q E s := by
  unfold noteFrame
  simp only [hf]
  cases T with
  | none =>
    obtain ⟨⟨oe, vs, a0, ho, hc, hd, hv0, hv1⟩, _⟩ := hx
    refine wpAny_bind (wpAny_field ho hd hv1 ?_)
    rw [if_neg (by decide)]
    exact entry_laid (T := none) hfr hl hf h0 ho hc hd hv0 (Array.getElem?_eq_some_iff.mp hv1).1 fun h' t a b _ => h h' t a b
  | some T =>
    obtain ⟨oe, vs, a0, oT, ts, ho, hc, hd, hv0, hv1, hT, hoT, hdT, h3⟩ := hx
    refine wpAny_bind (wpAny_field ho hd hv1 ?_)
    rw [if_pos (show (Value.ref T != Value.none) = true from by simp)]
    refine wpAny_bind (wpAny_field hoT hdT h3 ?_)
    by_cases hq : fl = rawInt L
    · subst hq
      rw [if_pos (show (rawInt L == rawInt L) = true from by simp)]
      exact wpAny_pure (h s.heap T ⟨oe, vs, a0, oT, ts, ho, hc, hd, hv0, hv1, hT, hoT, hdT, h3⟩ (XMove.refl _ _ _ _))
    · obtain rfl : fl = .none := hfl.resolve_right hq
      rw [if_neg (show ¬ ((Value.none == rawInt L) = true) from by simp [rawInt])]
      refine wpAny_bind (wpAny_setField hoT hdT (Array.getElem?_eq_some_iff.mp h3).1 ?_)
      have oth : ∀ b, b ≠ T → (s.heap.update T (Obj.mapFields (·.setIfInBounds 3 Value.none))).get? b = s.heap.get? b := fun b hb => Heap.get?_update_other _ _ (Ne.symm hb)
      have fr : ∀ b ∈ (e0 :: outer).filterMap (·.frame), b ≠ T := fun b hb z => by
        obtain ⟨_, o, ho', nf⟩ := hl.mem hb
        rw [z, hoT] at ho'; cases ho'; exact nf ts hdT
      refine entry_laid (T := some T) (s := { s with heap := s.heap.update T (Obj.mapFields (·.setIfInBounds 3 Value.none)) }) (base := base) hfr (hl.of_keeps fun b o e nf => ⟨o, (oth b fun z => ?_).trans e, rfl⟩) hf h0 ((oth x (Ne.symm hT)).trans ho) hc hd hv0 (Array.getElem?_eq_some_iff.mp hv1).1 fun h' t a b c => h h' t a ⟨?_, ?_, ?_⟩
      · rw [z, hoT] at e; cases e; exact nf ts hdT
      · exact fun d o e n1 n2 n3 => b.keep d o ((oth d fun z => n3 (by simp [z])).trans e) n1 n2 n3
      · exact fun d o e n1 n2 n3 => b.slot d o ((oth d fun z => n3 (by simp [z])).trans e) n1 n2 n3
      · intro t' ht'
        rcases b.newT t' ht' with z | z
        · exact .inl z
        · refine .inr (Nat.le_trans (Nat.le_of_eq ?_) z)
          exact (Heap.size_after_update ..).symm
theorem flight_any {x T : Addr} {cls fl : Value} {d fr : Option Addr} {fs : List Addr} {Q : Unit → Shared → Prop} (hx : XTr s.heap x T cls d fl)
    (h : ∀ h', XTr h' x T cls d (fr.elim .none fun f => rawInt f) → XMove fs x (some T) (some T) s.heap h' → Q () { s with heap := h' }) : wpAny M A (setFlight (.ref x) fr) Q E s := by
  obtain ⟨oe, vs, a0, oT, ts, ho, hc, hd, hv0, hv1, hT, hoT, hdT, h3⟩ := hx
  have sz : 3 < ts.size := (Array.getElem?_eq_some_iff.mp h3).1
  unfold setFlight
  refine wpAny_bind (wpAny_field ho hd hv1 ?_)
  rw [if_pos (show (Value.ref T != Value.none) = true from by simp)]
  refine wpAny_setField hoT hdT sz ?_
  have oth : ∀ b, b ≠ T → (s.heap.update T (Obj.mapFields (·.setIfInBounds 3 (fr.elim .none fun f => rawInt f)))).get? b = s.heap.get? b := fun b hb => Heap.get?_update_other _ _ (Ne.symm hb)
  have dT := Obj.data_mapFields hdT (·.setIfInBounds 3 (fr.elim Value.none fun f => rawInt f))
  exact h _ ⟨oe, vs, a0, _, _, (oth x (Ne.symm hT)).trans ho, hc, hd, hv0, hv1, hT, Heap.get?_update_self _ hoT (Obj.isFreed_of_fields dT), dT, by simp [sz]⟩
    ⟨fun b o e _ _ n => (oth b fun z => n (by simp [z])).trans e, fun b o e _ _ n => ⟨o.slots, (oth b fun z => n (by simp [z])).trans e⟩, fun t ht => .inl ht⟩
end
end NH
end
section
set_option linter.all false
set_option maxRecDepth 100000
set_option maxHeartbeats 4000000
namespace NH
open PySem PySem.Spec PyProof.Rows L2
abbrev St := L2.St
theorem objOk_get {P : Program} {w : World} {H : Hp} {h : Heap} {a : Addr} {o : HO} (x : ObjOk P w H h a o) : ∃ ob, h.get? a = some ob := by
  cases o with
  | lst xs => obtain ⟨_, _, _, _, e⟩ := x; exact ⟨_, e⟩
  | tup xs => obtain ⟨_, _, _, ob, e, _⟩ := x; exact ⟨ob, e⟩
  | dK kvs => obtain ⟨_, _, _, _, o, _, _, e, _⟩ := x; exact ⟨o, e⟩
  | dT kvs => obtain ⟨_, _, _, _, o, _, _, e, _⟩ := x; exact ⟨o, e⟩
  | set S n => obtain ⟨o, _, _, _, e, _⟩ := x; exact ⟨o, e⟩
  | ins C dx fs => obtain ⟨_, _, _, e, _⟩ := x; exact ⟨_, e⟩
  | own y => obtain ⟨o, e⟩ := x; exact ⟨o, e⟩
  | xd fs => obtain ⟨_, ⟨o, _, _, e, _⟩, _⟩ := x; exact ⟨o, e⟩
  | rng lo hi => obtain ⟨_, _, _, e⟩ := x; exact ⟨_, e⟩
  | frz ob u => obtain ⟨e, _⟩ := x; exact ⟨_, e⟩
  | tbl ps => exact ⟨_, (show h.get? a = some _ from x)⟩
  | met f y => exact ⟨_, (show h.get? a = some _ from x)⟩
  | ext φ => obtain ⟨_, ⟨o, e⟩, _⟩ := x; exact ⟨o, e⟩
structure XOk (X : Cx) (H : Hp) (b : Addr) : Prop where
  free : H b = none
  loc : b ≠ X.env.locals
  nfs : b ∉ X.fs
  new : b ∈ X.ex ∨ X.s₀.heap.get? b = none
  cel : ∀ x c, X.env.cells.lookup x = some c → c ≠ b
  pin : ∀ p ∈ X.pn, p.1 ≠ b
section
variable {X : Cx} {pins : List (Addr × Obj)} {σ : St} {H H' : Hp} {s : Shared} {h' : Heap}
theorem inv_tracked (I : Inv X pins σ H s) {b : Addr} (e : s.heap.get? b = none) : H b = none := by
  cases q : H b with
  | none => rfl
  | some o =>
    obtain ⟨ob, z⟩ := objOk_get (I.hok b o q)
    rw [e] at z; cases z
theorem inv_xok (I : Inv X pins σ H s) {b : Addr} (e : s.heap.get? b = none) : XOk X H b := by
  refine ⟨inv_tracked I e, fun z => ?_, fun z => ?_, ?_, fun x c q z => ?_, fun p hp z => ?_⟩
  · obtain ⟨m, ⟨o, _, _, ho, _⟩, _⟩ := I.loc
    rw [← z, e] at ho; cases ho
  · obtain ⟨_, o, ho, _⟩ := I.funs.mem z
    rw [e] at ho; cases ho
  · by_cases hx : b ∈ X.ex
    · exact .inl hx
    · refine .inr ?_
      cases q : X.s₀.heap.get? b with
      | none => rfl
      | some o =>
        obtain ⟨o', z⟩ := I.base.there b o q hx
        rw [e] at z; cases z
  · obtain ⟨v, o, ho, _⟩ := I.cell x c q
    rw [z, e] at ho; cases ho
  · have := (I.pin p (List.mem_append_left _ hp)).1
    rw [z, e] at this; cases this
theorem inv_step {ch : List Addr} (I : Inv X pins σ H s) (hch : ∀ b ∈ ch, XOk X H b ∧ ∀ p ∈ pins, p.1 ≠ b)
    (keep : ∀ b o, b ∉ frs X.stack → b ∉ ch → s.heap.get? b = some o → h'.get? b = some o)
    (slot : ∀ b o, b ∈ frs X.stack → b ∉ ch → s.heap.get? b = some o → ∃ sl, h'.get? b = some { o with slots := sl }) :
    Inv X pins σ H { s with heap := h' } := by
  have tr : ∀ b u, H b = some u → b ∉ ch := fun b u e z => by rw [(hch b z).1.free] at e; cases e
  have trf : ∀ b u, H b = some u → b ∉ frs X.stack := fun b u e z => by rw [I.stkFree b z] at e; cases e
  have any : ∀ b o, b ∉ ch → s.heap.get? b = some o → ∃ sl, h'.get? b = some { o with slots := sl } := fun b o hb e => by
    by_cases hf : b ∈ frs X.stack
    · exact slot b o hf hb e
    · exact ⟨o.slots, keep b o hf hb e⟩
  have inf : ∀ b, b ≠ X.env.locals → b ∉ X.fs → b ∉ frs X.stack := fun b h1 h2 z => (List.mem_cons.mp (I.stkSub b z)).elim h1 h2
  have nec : ∀ b o, X.s₀.heap.get? b = some o → b ∉ X.ex → b ∉ ch := fun b o e hx z => by
    rcases (hch b z).1.new with q | q
    · exact hx q
    · rw [e] at q; cases q
  have neL : ∀ b o, X.s₀.heap.get? b = some o → b ≠ X.env.locals := fun b o e => Nat.ne_of_lt (Nat.lt_of_lt_of_le (Heap.lt_size e) I.ok.above)
  have cellK : ∀ x c, X.env.cells.lookup x = some c → ∀ v, s.heap.IsCell c v → h'.IsCell c v := fun x c e v ⟨o, ho, hd⟩ => by
    obtain ⟨sl, q⟩ := any c o (fun z => (hch c z).1.cel x c e rfl) ho
    exact ⟨_, q, hd⟩
  refine ⟨I.ok, I.os, I.bare, ⟨fun b o e n hb hx => ?_, fun b o e n hb hx => ?_, fun b o e n hx => I.base.free b o e n hx, fun b o e hx => ?_, fun b xs e => I.base.tups b xs e, fun b o xs e => I.base.frzs b o xs e, fun b ps e => I.base.tbls b ps e⟩, ?_, fun x c e => ?_, I.free, fun x c e => I.freeC x c e, fun p hp => ?_, fun b u e => ?_, I.len⟩
  · exact keep b o (inf b (neL b o e) hb) (nec b o e hx) (I.base.keep b o e n hb hx)
  · obtain ⟨sl, e1⟩ := I.base.slot b o e n hb hx
    obtain ⟨sl', e2⟩ := any b _ (nec b o e hx) e1
    exact ⟨sl', e2⟩
  · obtain ⟨o', e1⟩ := I.base.there b o e hx
    obtain ⟨sl, e2⟩ := any b o' (nec b o e hx) e1
    exact ⟨_, e2⟩
  · obtain ⟨m, ⟨o, es, ep, ho, r⟩, hl⟩ := I.loc
    obtain ⟨sl, hL⟩ := any X.env.locals o (fun z => (hch _ z).1.loc rfl) ho
    refine ⟨m, ⟨_, es, ep, hL, r⟩, fun i x v e1 e2 e3 => ?_⟩
    obtain ⟨u, ru, l⟩ := hl i x v e1 e2 e3
    refine ⟨u, ru, ?_⟩
    rcases l with l | ⟨k, c, e, z⟩
    · exact .inl l
    · exact .inr ⟨k, c, e, cellK x c e _ z⟩
  · obtain ⟨v, z⟩ := I.cell x c e
    exact ⟨v, cellK x c e v z⟩
  · obtain ⟨e, n, ne, nf, d⟩ := I.pin p hp
    have nch : p.1 ∉ ch := fun z => by
      rcases List.mem_append.mp hp with q | q
      · exact (hch p.1 z).1.pin p q rfl
      · exact (hch p.1 z).2 p q rfl
    exact ⟨keep p.1 p.2 (inf p.1 ne nf) nch e, n, ne, nf, d⟩
  · refine (I.hok b u e).stay (fun c v hc q => ?_) (fun _ q => q) fun _ _ q => q
    rcases hc with z | z
    · subst z; exact keep c v (trf c u e) (tr c u e) q
    · exact keep c v (trf c _ z) (tr c _ z) q
structure Frm (X : Cx) (e0 : Env) (out : List Env) (L : Addr) : Prop where
  stk : X.stack = e0 :: out
  f0 : e0.frame = some L
  fe : X.env.frame = some L
abbrev XW := Value → Option Addr → St → Hp → Prop
def XP (X : Cx) (W : XW) (e : Value) (s : Shared) : Prop :=
  ∃ (x : Addr) (cls : Value) (d : Option Addr) (σ : St) (H : Hp) (T : Option Addr) (fl : Value), e = .ref x ∧ Inv X [] σ H s ∧ XOk X H x ∧ (∀ t ∈ T.toList, XOk X H t) ∧ XRec s.heap x cls d T fl ∧ (fl = .none ∨ ∃ L, X.env.frame = some L ∧ fl = rawInt L) ∧ W cls d σ H
theorem xp_move {x : Addr} {T : Option Addr} {t : Addr} (I : Inv X [] σ H s) (ox : XOk X H x) (ot : ∀ t ∈ T.toList, XOk X H t) (mv : XMove (frs X.stack) x T (some t) s.heap h') :
    Inv X [] σ H { s with heap := h' } ∧ XOk X H t := by
  refine ⟨inv_step (ch := x :: T.toList) I (fun b hb => ⟨?_, fun p hp => absurd hp (by simp)⟩) (fun b o hf hc e => ?_) (fun b o hf hc e => ?_), ?_⟩
  · rcases List.mem_cons.mp hb with z | z
    · rw [z]; exact ox
    · exact ot b z
  · exact mv.keep b o e hf (fun z => hc (by simp [z])) (fun z => hc (List.mem_cons_of_mem _ z))
  · exact mv.slot b o e hf (fun z => hc (by simp [z])) (fun z => hc (List.mem_cons_of_mem _ z))
  · rcases mv.newT t (by simp) with z | z
    · exact ot t z
    · exact inv_xok I (Heap.get?_none_of_le z)
theorem xp_note {M : Model} {A : Around} {E : Value → Shared → Prop} {W : XW} {e : Value} {e0 : Env} {out : List Env} {L : Addr} {Q : Unit → Shared → Prop} (F : Frm X e0 out L) (hfr : A.frames = some X.stack) (p : XP X W e s)
    (h : ∀ x cls d σ H T h', e = .ref x → Inv X [] σ H { s with heap := h' } → XOk X H x → XOk X H T → XTr h' x T cls d (rawInt L) → W cls d σ H → Q () { s with heap := h' }) : wpAny M A (noteFrame e X.env) Q E s := by
  obtain ⟨x, cls, d, σ, H, T, fl, rfl, I, ox, ot, hr, hfl, w⟩ := p
  have hst := I.stack
  rw [F.stk] at hfr hst
  refine note_any hfr hst F.fe F.f0 hr (hfl.imp_right fun ⟨L', e1, e2⟩ => by rw [F.fe] at e1; cases e1; exact e2) fun h' t tr mv => ?_
  have mv' : XMove (frs X.stack) x T (some t) s.heap h' := by rw [F.stk]; exact mv
  obtain ⟨I', o'⟩ := xp_move I ox ot mv'
  exact h x cls d σ H t h' rfl I' ox o' tr w
theorem xp_flight {M : Model} {A : Around} {E : Value → Shared → Prop} {x T : Addr} {cls fl : Value} {d fr : Option Addr} {Q : Unit → Shared → Prop} (I : Inv X [] σ H s) (ox : XOk X H x) (oT : XOk X H T) (tr : XTr s.heap x T cls d fl)
    (h : ∀ h', Inv X [] σ H { s with heap := h' } → XTr h' x T cls d (fr.elim .none fun f => rawInt f) → Q () { s with heap := h' }) : wpAny M A (setFlight (.ref x) fr) Q E s := by
  refine flight_any (fs := frs X.stack) tr fun h' tr' mv => h h' (xp_move (T := some T) I ox (fun t ht => ?_) mv).1 tr'
  have : t = T := by simpa using ht
  rw [this]; exact oT
theorem xp_passes {W : XW} {M : Model} {e0 : Env} {out : List Env} {L : Addr} (F : Frm X e0 out L) (hfr : X.A.frames = some X.stack) : PassesOwn M X.A X.env (XP X W) := by
  intro e s p
  unfold notedBy
  refine xp_note F hfr p fun x cls d σ H T h' ee I ox oT tr w => ?_
  subst ee
  unfold cameBackBy
  obtain ⟨oe, vs, a0, oT', ts, ho, hc, hd, hv0, hv1, hT, hoT, hdT, h3⟩ := id tr
  refine wpAny_bind (wpAny_field ho hd hv1 ?_)
  rw [if_neg (show ¬ ((Value.ref T == Value.none) = true) from by simp)]
  rw [F.fe]
  have go : wpAny M X.A (setFlight (.ref x) (some L)) (fun _ s'' => XP X W (.ref x) s'') (XP X W) { s with heap := h' } :=
    xp_flight (s := { s with heap := h' }) I ox oT tr fun h2 I2 tr2 => ⟨x, cls, d, σ, H, some T, rawInt L, rfl, I2, ox, fun t ht => by
      have : t = T := by simpa using ht
      rw [this]; exact oT, tr2, .inr ⟨L, F.fe, rfl⟩, w⟩
  first | exact go | exact wpAny_bind (wpAny_pure go)
def CX1 (P : Program) (w : World) : CXT := fun outer H s E e s' =>
  ∃ (x T : Addr) (cls : Value) (d : Option Addr) (H' : Hp), e = .ref x ∧ s'.os = s.os ∧ AllBare s'.gens ∧ Un (frs outer) [] H H' s.heap s'.heap ∧ HOk P w H' s'.heap ∧ s.heap.get? x = none ∧ s.heap.get? T = none ∧ H' x = none ∧ H' T = none ∧ XTr s'.heap x T cls d .none ∧ E cls d H'
def wOf (E : XK) : XW := fun c d _ H => E c d H
theorem xp_leave {M : Model} {E : XK} {e : Value} {e0 : Env} {out : List Env} {L : Addr} {F2 : Value → Shared → Prop} (F : Frm X e0 out L) (hfr : X.A.frames = some X.stack) (hex : X.ex = []) (p : XP X (wOf E) e s) :
    wpAny M X.A (leaving X.env e) (fun _ s'' => CX1 X.prog X.w X.outer X.H₀ X.s₀ E e s'') F2 s := by
  unfold leaving
  refine wpAny_bind (xp_note F hfr p fun x cls d σ H T h' ee I ox oT tr w => ?_)
  subst ee
  refine xp_flight (s := { s with heap := h' }) I ox oT tr fun h2 I2 tr2 => ?_
  have nw : ∀ b, XOk X H b → X.s₀.heap.get? b = none := fun b o => o.new.resolve_left (by rw [hex]; simp)
  refine ⟨x, T, cls, d, H, rfl, I2.os, I2.bare, ?_, I2.hok, nw x ox, nw T oT, ox.free, oT.free, tr2, w⟩
  have := I2.base
  rw [hex] at this
  exact this
theorem xp_call {E : XK} {W : XW} {e : Value} {s' : Shared} (I : Inv X pins σ H s) (c : CX1 X.prog X.w X.stack H s E e s') (h : ∀ cls d H', E cls d H' → W cls d σ H') : XP X W e s' := by
  obtain ⟨x, T, cls, d, H', rfl, os, bare, un, hok, nx, nT, fx, fT, tr, w⟩ := c
  have J : Inv X pins σ H' s' := I.call' (ch := []) os un hok bare fun b z => absurd z (by simp)
  have k : ∀ b, s.heap.get? b = none → H' b = none → XOk X H' b := fun b e f => by
    have o := inv_xok I e
    exact ⟨f, o.loc, o.nfs, o.new, o.cel, o.pin⟩
  refine ⟨x, cls, d, σ, H', some T, .none, rfl, J.pins_of (fun p hp => absurd hp (by simp)), k x nx fx, fun t ht => ?_, tr, .inl rfl, h cls d H' w⟩
  have : t = T := by simpa using ht
  rw [this]; exact k T nT fT
theorem xp_made {W : XW} {x : Addr} {cls : Value} {args : List Value} {h2 : Heap} (I : Inv X pins σ H s) (mk : Heap.MadeExcOf s.heap h2 x cls args) (w : W cls none σ H) : XP X W (.ref x) { s with heap := h2 } := by
  have J : Inv X pins σ H { s with heap := h2, toks := s.toks } := I.kept mk.keeps
  obtain ⟨t, ho, _, _⟩ := mk.there
  exact ⟨x, cls, none, σ, H, none, .none, rfl, J.pins_of (fun p hp => absurd hp (by simp)), inv_xok I mk.new, fun t ht => absurd ht (by simp), ⟨⟨_, _, .ref t, ho, ⟨rfl, rfl⟩, rfl, rfl, rfl⟩, rfl⟩, .inl rfl, w⟩
abbrev Cx.pin' (X : Cx) (pins : List (Addr × Obj)) : Cx := { X with pn := X.pn ++ pins }
abbrev Cx.han (X : Cx) (x : Addr) : Cx := { X with A := X.A.mark (some (.ref x)), calm := false, xe := fun _ _ => False }
theorem ok_pin (ok : X.Ok) : (Cx.pin' X pins).Ok := ⟨ok.mod, ok.kind, ok.glob, ok.blt, ok.above, ok.inj, ok.has, ok.cab, ok.hd, ok.frames, ok.stk, ok.exf, ok.bs, ok.bsz, ok.noex, ok.exfs, ok.funs, ok.frf⟩
theorem ok_unpin (ok : (Cx.pin' X pins).Ok) : X.Ok := ⟨ok.mod, ok.kind, ok.glob, ok.blt, ok.above, ok.inj, ok.has, ok.cab, ok.hd, ok.frames, ok.stk, ok.exf, ok.bs, ok.bsz, ok.noex, ok.exfs, ok.funs, ok.frf⟩
theorem ok_han {x : Addr} (ok : X.Ok) : (Cx.han X x).Ok := ⟨ok.mod, ok.kind, ok.glob, ok.blt, ok.above, ok.inj, ok.has, ok.cab, (fun h => by cases h), ok.frames, ok.stk, ok.exf, ok.bs, ok.bsz, ok.noex, ok.exfs, ok.funs, ok.frf⟩
theorem inv_pin' (I : Inv X pins σ H s) : Inv (Cx.pin' X pins) [] σ H s := ⟨ok_pin I.ok, I.os, I.bare, I.base, I.loc, I.cell, I.free, I.freeC, fun p hp => I.pin p (by simpa using hp), I.hok, I.len⟩
theorem inv_unpin' (I : Inv (Cx.pin' X pins) [] σ H s) : Inv X pins σ H s := ⟨ok_unpin I.ok, I.os, I.bare, I.base, I.loc, I.cell, I.free, I.freeC, fun p hp => I.pin p (by simpa using hp), I.hok, I.len⟩
theorem inv_han {x : Addr} (I : Inv X pins σ H s) : Inv (Cx.han X x) pins σ H s := ⟨ok_han I.ok, I.os, I.bare, I.base, I.loc, I.cell, I.free, I.freeC, I.pin, I.hok, I.len⟩
theorem inv_unhan {x : Addr} (ok : X.Ok) (I : Inv (Cx.han X x) pins σ H s) : Inv X pins σ H s := ⟨ok, I.os, I.bare, I.base, I.loc, I.cell, I.free, I.freeC, I.pin, I.hok, I.len⟩
theorem xp_unwish {E : Value → Shared → Prop} {W : XW} {e : Value} (p : XP (X.wish E) W e s) : XP X W e s := by
  obtain ⟨x, cls, d, σ, H, T, fl, a, I, b, c, r⟩ := p
  exact ⟨x, cls, d, σ, H, T, fl, a, I.unwish, ⟨b.free, b.loc, b.nfs, b.new, b.cel, b.pin⟩, fun t ht => let b := c t ht; ⟨b.free, b.loc, b.nfs, b.new, b.cel, b.pin⟩, r⟩
end
end NH
end
section
set_option linter.all false
namespace NH
open PySem
inductive T where
  | non | bl (b : Bool) | int (i : Int) | str (x : Str)
  | tup (ts : List T) | lst (ts : List T) | obj (c : Nat) (fs : List (Nat × T))
  | mut (i : Nat)
  | exc (c : Nat) (fs : List (Nat × T))
  | dic (kvs : List (L2.Key × T))
  | clo (j : Nat) (cs : List T)
inductive MO where
  | lst (ts : List T) | obj (c : Nat) (fs : List (Nat × T)) | dic (kvs : List (L2.Key × T))
  | tab (j : Nat)
abbrev isTab : MO → Bool
  | .tab _ => true
  | _ => false
abbrev Mem := List MO
abbrev Sl := List (Option T)
mutual
def pureT : T → Bool
  | .mut _ => false
  | .tup ts => pureL ts
  | .lst ts => pureL ts
  | .obj _ fs => pureF fs
  | .exc _ fs => pureF fs
  | .dic kvs => pureK kvs
  | .clo _ cs => pureL cs
  | _ => true
def pureL : List T → Bool
  | [] => true
  | t :: r => pureT t && pureL r
def pureF : List (Nat × T) → Bool
  | [] => true
  | p :: r => pureT p.2 && pureF r
def pureK : List (L2.Key × T) → Bool
  | [] => true
  | p :: r => pureT p.2 && pureK r
end
abbrev Xp := Nat → List (Nat × T) → Mem → Prop
abbrev RE (β : Type) := (β → Mem → Prop) → Xp → Prop
abbrev RE.ok {β : Type} (a : β) (μ : Mem) : RE β := fun K _ => K a μ
abbrev RE.st {β : Type} : RE β := fun _ _ => False
abbrev RE.bind {β γ : Type} (r : RE γ) (k : γ → Mem → RE β) : RE β := fun K Z => r (fun a μ => k a μ K Z) Z
abbrev RE.grd {β : Type} (p : Prop) (r : RE β) : RE β := fun K Z => p ∧ r K Z
abbrev RE.som {β γ : Type} (o : Option γ) (k : γ → RE β) : RE β := fun K Z => ∃ a, o = some a ∧ k a K Z
@[reducible] def brW (b : Bool) (A B : Prop) : Prop := match b with
  | true => A
  | false => B
abbrev RE.br {β : Type} (b : Bool) (r s : RE β) : RE β := fun K Z => brW b (r K Z) (s K Z)
structure En where
  nx : Sl → Mem → Prop
  rt : T → Mem → Prop
  bk : Sl → Mem → Prop
  ct : Sl → Mem → Prop
  ex : Nat → List (Nat × T) → Sl → Mem → Prop
abbrev Out := En → Prop
abbrev En.nxt (E : En) (f : Sl → Mem → Prop) : En := ⟨f, E.rt, E.bk, E.ct, E.ex⟩
abbrev En.turn (E : En) (N : Sl → Mem → Prop) : En := ⟨N, E.rt, E.nx, N, E.ex⟩
abbrev En.tri (E : En) (X : Nat → List (Nat × T) → Sl → Mem → Prop) : En := ⟨E.nx, E.rt, E.bk, E.ct, X⟩
abbrev En.fn (K : T → Mem → Prop) (Z : Xp) : En := ⟨fun _ μ1 => K .non μ1, K, fun _ _ => False, fun _ _ => False, fun c fs _ μ1 => Z c fs μ1⟩
abbrev Out.nx (τ : Sl) (μ : Mem) : Out := fun E => E.nx τ μ
abbrev Out.rt (t : T) (μ : Mem) : Out := fun E => E.rt t μ
abbrev Out.ex (c : Nat) (fs : List (Nat × T)) (τ : Sl) (μ : Mem) : Out := fun E => E.ex c fs τ μ
abbrev Out.st : Out := fun _ => False
abbrev Out.grd (p : Prop) (o : Out) : Out := fun E => p ∧ o E
abbrev Out.som {γ : Type} (o : Option γ) (k : γ → Out) : Out := fun E => ∃ a, o = some a ∧ k a E
abbrev Out.br (b : Bool) (r s : Out) : Out := fun E => brW b (r E) (s E)
abbrev Out.seq (o : Out) (f : Sl → Mem → Out) : Out := fun E => o (E.nxt fun τ μ => f τ μ E)
abbrev RE.out {β : Type} (r : RE β) (τ : Sl) (f : β → Mem → Out) : Out := fun E => r (fun a μ => f a μ E) (fun c fs μ => E.ex c fs τ μ)
abbrev Fn := List T → Mem → RE T
abbrev De := Sl → Mem → RE T
abbrev Dt := Sl → Mem → RE Bool
abbrev Da := Sl → Mem → RE (List T)
abbrev Ds := Sl → Mem → Out
abbrev RI := (List T → (Mem → Prop) → Mem → Prop) → Xp → Prop
abbrev RI.ok (xs : List T) (o : Mem → Prop) (μ : Mem) : RI := fun K _ => K xs o μ
abbrev RI.st : RI := fun _ _ => False
abbrev RI.grd (p : Prop) (r : RI) : RI := fun K Z => p ∧ r K Z
abbrev RI.go {β : Type} (r : RI) (k : List T → (Mem → Prop) → Mem → RE β) : RE β := fun K Z => r (fun xs o μ => k xs o μ K Z) Z
abbrev RI.out (r : RI) (τ : Sl) (f : List T → (Mem → Prop) → Mem → Out) : Out := fun E => r (fun xs o μ => f xs o μ E) (fun c fs μ => E.ex c fs τ μ)
abbrev RI.re (r : RI) : RE (List T × (Mem → Prop)) := fun K Z => r (fun xs o μ => K (xs, o) μ) Z
abbrev RE.it {β : Type} (r : RE β) (k : β → Mem → RI) : RI := fun K Z => r (fun a μ => k a μ K Z) Z
abbrev Di := Sl → Mem → RI
abbrev lvT : Mem → Prop := fun _ => True
abbrev lvM (i : Nat) (xs : List T) : Mem → Prop := fun μ => μ[i]? = some (.lst xs)
inductive GM where
  | fn (f : Fn)
  | fnh (nm : Str) (f : Fn)
  | met (c : Nat) (nm : Str) (f : Fn)
  | mk (c : Nat) (frozen : Bool) (f : Fn)
  | cst (t : T)
  | xcl (c : Nat)
  | xcf (c : Nat) (f : Nat)
  | xin (c f : Nat) (nm fl : Str)
  | mkd (c : Nat) (nm : Str) (n : Nat) (f : Fn)
  | metd (c : Nat) (nm : Str) (n : Nat) (d : T) (f : Fn)
  | kpr
  | none
  | bad
noncomputable abbrev getS (τ : Sl) : Nat → Option T := List.rec (motive := fun _ => Nat → Option T) (fun _ => none) (fun o _ ih i => Nat.rec (motive := fun _ => Option T) o (fun n _ => ih n) i) τ
noncomputable abbrev setS (τ : Sl) : Nat → Option T → Sl := List.rec (motive := fun _ => Nat → Option T → Sl) (fun _ _ => []) (fun o r ih i t => Nat.rec (motive := fun _ => Sl) (t :: r) (fun n _ => o :: ih n t) i) τ
theorem getS_eq : ∀ {τ : Sl} {i : Nat} {t : T}, getS τ i = some t ↔ τ[i]? = some (some t)
  | [], _, _ => by simp
  | o :: r, 0, t => by show o = some t ↔ _; simp
  | o :: r, n + 1, t => by
    show getS r n = some t ↔ _
    rw [getS_eq (τ := r) (i := n)]; simp
theorem setS_eq : ∀ {τ : Sl} {i : Nat} {t : Option T}, setS τ i t = τ.set i t
  | [], _, _ => by simp
  | o :: r, 0, t => rfl
  | o :: r, n + 1, t => by
    show o :: setS r n t = _
    rw [setS_eq (τ := r) (i := n)]; simp
noncomputable abbrev getF (fs : List (Nat × T)) : Nat → Option T := List.rec (motive := fun _ => Nat → Option T) (fun _ => none) (fun p _ ih i => Bool.rec (motive := fun _ => Option T) (ih i) (some p.2) (Nat.beq p.1 i)) fs
noncomputable abbrev putT (f : Nat) (v : T) (fs : List (Nat × T)) : List (Nat × T) := List.rec (motive := fun _ => List (Nat × T)) [(f, v)] (fun p r ih => Bool.rec (motive := fun _ => List (Nat × T)) (p :: ih) ((p.1, v) :: r) (Nat.beq p.1 f)) fs
theorem getF_cons {p : Nat × T} {r : List (Nat × T)} {i : Nat} : getF (p :: r) i = match Nat.beq p.1 i with
    | true => some p.2
    | false => getF r i := by
  show (Bool.rec (getF r i) (some p.2) (Nat.beq p.1 i) : Option T) = _
  cases Nat.beq p.1 i <;> rfl
theorem putT_cons {f : Nat} {v : T} {p : Nat × T} {r : List (Nat × T)} : putT f v (p :: r) = match Nat.beq p.1 f with
    | true => (p.1, v) :: r
    | false => p :: putT f v r := by
  show (Bool.rec (p :: putT f v r) ((p.1, v) :: r) (Nat.beq p.1 f) : List (Nat × T)) = _
  cases Nat.beq p.1 f <;> rfl
def idx : List Str → Str → Option Nat
  | [], _ => none
  | y :: r, x => if y = x then some 0 else (idx r x).map (· + 1)
abbrev tyN : T → Mem → Option Nat
  | .non, _ => some 0
  | .bl _, _ => some 1
  | .int _, _ => some 2
  | .str _, _ => some 3
  | .tup _, _ => some 4
  | .lst _, _ => some 5
  | .dic _, _ => some 6
  | .exc c _, _ => some c
  | .obj c _, _ => some c
  | _, _ => none
abbrev tyO : MO → Nat
  | .lst _ => 5
  | .obj c _ => c
  | .dic _ => 6
  | .tab _ => 99
abbrev bAnd (a b : Bool) : Bool := match a with
  | true => b
  | false => false
abbrev bOr (a b : Bool) : Bool := match a with
  | true => true
  | false => b
abbrev isinN (a c : Nat) : Bool := bOr (Nat.beq a c) (bOr (bAnd (Nat.beq a 1) (Nat.beq c 2)) (bAnd (Nat.ble 10 a) (bAnd (Nat.ble a 39) (bOr (Nat.beq c 11) (bAnd (Nat.beq c 10) (Nat.ble 12 a))))))
noncomputable abbrev isAny (t : Nat) (cs : List Nat) : Bool := List.rec (motive := fun _ => Bool) false (fun c _ ih => bOr (isinN t c) ih) cs
theorem isAny_cons {t c : Nat} {r : List Nat} : isAny t (c :: r) = bOr (isinN t c) (isAny t r) := rfl
def big : Int := 18446744073709551616
def room : Nat := 1000000
abbrev binT : Operator → T → T → Mem → RE T
  | .Add, .int i, .int j, μ => .ok (.int (i + j)) μ
  | .Sub, .int i, .int j, μ => .ok (.int (i - j)) μ
  | .Mult, .int i, .int j, μ => .grd ((-big < i ∧ i < big) ∨ (-big < j ∧ j < big)) (.ok (.int (i * j)) μ)
  | .FloorDiv, .int i, .int j, μ => .grd (0 < j ∧ j < 1606938044258990275541962092341162602522202993782792835301376) (.ok (.int (i / j)) μ)
  | .Mod, .int i, .int j, μ => .grd (0 < j) (.ok (.int (i % j)) μ)
  | .Pow, .int i, .int j, μ => .grd (0 ≤ j ∧ j ≤ 1000000 ∧ i.natAbs < 18446744073709551616) (.ok (.int (i ^ j.toNat)) μ)
  | .RShift, .int i, .int j, μ => .grd (0 ≤ j) (.ok (.int (i / 2 ^ j.toNat)) μ)
  | .Add, .str x, .str y, μ => .grd (x.length + y.length ≤ room) (.ok (.str (x ++ y)) μ)
  | .BitAnd, .int i, .int j, μ => .ok (.int (Builtin.bitAnd i j)) μ
  | .Add, .lst xs, .lst ys, μ => .grd (xs.length + ys.length ≤ room) (.ok (.lst (xs ++ ys)) μ)
  | .Add, .tup xs, .tup ys, μ => .grd (xs.length + ys.length ≤ room) (.ok (.tup (xs ++ ys)) μ)
  | .Add, .mut i, .lst ys, μ => fun K _ => ∃ xs, μ[i]? = some (.lst xs) ∧ xs.length + ys.length ≤ room ∧ K (.lst (xs ++ ys)) μ
  | .Add, .lst xs, .mut j, μ => fun K _ => ∃ ys, μ[j]? = some (.lst ys) ∧ xs.length + ys.length ≤ room ∧ K (.lst (xs ++ ys)) μ
  | .Add, .mut i, .mut j, μ => fun K _ => ∃ p : List T × List T, (μ[i]? = some (.lst p.1) ∧ μ[j]? = some (.lst p.2)) ∧ p.1.length + p.2.length ≤ room ∧ K (.lst (p.1 ++ p.2)) μ
  | _, _, _, _ => .st
mutual
def eqT : T → T → Option Bool
  | .int i, b => match b with
    | .int j => some (i == j)
    | .bl k => some (i == (if k then 1 else 0))
    | .str _ => some false
    | .non => some false
    | .tup _ => some false
    | .lst _ => some false
    | _ => none
  | .bl k, b => match b with
    | .int j => some ((if k then 1 else 0) == j)
    | .bl j => some (k == j)
    | .str _ => some false
    | .non => some false
    | .tup _ => some false
    | .lst _ => some false
    | _ => none
  | .str x, b => match b with
    | .str y => some (x == y)
    | .int _ => some false
    | .bl _ => some false
    | .non => some false
    | .tup _ => some false
    | .lst _ => some false
    | _ => none
  | .non, b => match b with
    | .non => some true
    | .int _ => some false
    | .bl _ => some false
    | .str _ => some false
    | .tup _ => some false
    | .lst _ => some false
    | _ => none
  | .tup xs, b => match b with
    | .tup ys => eqL xs ys
    | .non => some false
    | .int _ => some false
    | .bl _ => some false
    | .str _ => some false
    | .lst _ => some false
    | _ => none
  | .lst xs, b => match b with
    | .lst ys => eqL xs ys
    | .non => some false
    | .int _ => some false
    | .bl _ => some false
    | .str _ => some false
    | .tup _ => some false
    | _ => none
  | _, _ => none
def eqL : List T → List T → Option Bool
  | [], [] => some true
  | [], _ :: _ => some false
  | _ :: _, [] => some false
  | x :: xs, y :: ys => match eqT x y, eqL xs ys with
    | some a, some b => some (a && b)
    | _, _ => none
end
mutual
def depT : T → Nat
  | .tup ts => depL ts + 1
  | .lst ts => depL ts + 1
  | _ => 0
def depL : List T → Nat
  | [] => 0
  | t :: r => max (depT t) (depL r)
end
abbrev scT : T → T → Option Bool
  | .non, .non => some true
  | .non, .int _ => some false | .int _, .non => some false | .non, .bl _ => some false | .bl _, .non => some false | .non, .str _ => some false | .str _, .non => some false
  | .int i, .int j => some (decide (i = j)) | .bl i, .bl j => some (decide (i = j)) | .str i, .str j => some (decide (i = j))
  | .int _, .str _ => some false | .str _, .int _ => some false | .bl _, .str _ => some false | .str _, .bl _ => some false
  | _, _ => none
abbrev eqW (x y : T) (μ : Mem) (k : Bool → RE T) : RE T := match x, y with
  | .tup xs, .tup ys => .grd (depL xs ≤ 40) (.som (eqL xs ys) k)
  | .lst xs, .lst ys => .grd (depL xs ≤ 40) (.som (eqL xs ys) k)
  | .mut i, .lst ys => fun K Z => ∃ xs, μ[i]? = some (.lst xs) ∧ RE.grd (depL xs ≤ 40) (.som (eqL xs ys) k) K Z
  | .lst xs, .mut j => fun K Z => ∃ ys, μ[j]? = some (.lst ys) ∧ RE.grd (depL xs ≤ 40) (.som (eqL xs ys) k) K Z
  | .mut i, .mut j => fun K Z => ∃ p : List T × List T, (μ[i]? = some (.lst p.1) ∧ μ[j]? = some (.lst p.2)) ∧ RE.grd (depL p.1 ≤ 40) (.som (eqL p.1 p.2) k) K Z
  | x, y => match scT x y with
    | some b => k b
    | none => .st
def intsOf : List T → Option (List Int)
  | [] => some []
  | .int i :: r => (intsOf r).map (i :: ·)
  | _ :: _ => none
abbrev ltW (x y : T) (k : Bool → RE T) : RE T := match x, y with
  | .int i, .int j => k (decide (i < j))
  | .tup xs, .tup ys => .som (intsOf xs) fun ns => .som (intsOf ys) fun ms => k (HT.lexLt ns ms)
  | .str a, .str b => k (decide (a.cps.toList < b.cps.toList))
  | _, _ => .st
abbrev cmpT (op : CmpOp) (x y : T) (μ : Mem) : RE T :=
  match op with
  | .Eq => eqW x y μ fun b => .ok (.bl b) μ
  | .NotEq => eqW x y μ fun b => .ok (.bl (!b)) μ
  | .Lt => ltW x y fun b => .ok (.bl b) μ
  | .LtE => match x, y with | .int i, .int j => .ok (.bl (decide (i ≤ j))) μ | _, _ => .st
  | .Gt => match x, y with | .int i, .int j => .ok (.bl (decide (j < i))) μ | _, _ => .st
  | .GtE => match x, y with | .int i, .int j => .ok (.bl (decide (j ≤ i))) μ | _, _ => .st
  | .Is => (match y with
    | .non => .ok (.bl (match x with | .non => true | _ => false)) μ
    | .bl b => (match x with | .bl a => .ok (.bl (decide (a = b))) μ | _ => .st)
    | _ => .st)
  | .IsNot => (match y with
    | .non => .ok (.bl (match x with | .non => false | _ => true)) μ
    | .bl b => (match x with | .bl a => .ok (.bl (!decide (a = b))) μ | _ => .st)
    | _ => .st)
  | .In => (match x, y with | .str i, .str j => .ok (.bl (!(Builtin.Str.occurrences j i 0 j.length 1).isEmpty)) μ | _, _ => .st)
  | .NotIn => (match x, y with | .str i, .str j => .ok (.bl (!(!(Builtin.Str.occurrences j i 0 j.length 1).isEmpty))) μ | _, _ => .st)
abbrev truT : T → Mem → RE Bool
  | .bl b, μ => .ok b μ
  | _, _ => .st
abbrev eC (t : T) : De := fun _ μ => .ok t μ
noncomputable abbrev eV (i : Nat) : De := fun τ μ => match getS τ i with
  | some t => .ok t μ
  | none => .st
abbrev eBin (op : Operator) (f g : De) : De := fun τ μ => (f τ μ).bind fun x μ1 => (g τ μ1).bind fun y μ2 => binT op x y μ2
abbrev eNeg (f : De) : De := fun τ μ => (f τ μ).bind fun x μ1 => match x with | .int i => .ok (.int (-i)) μ1 | _ => .st
abbrev eNot (f : De) : De := fun τ μ => (f τ μ).bind fun x μ1 => match x with | .bl b => .ok (.bl (!b)) μ1 | _ => .st
abbrev eAnd (f g : De) : De := fun τ μ => (f τ μ).bind fun x μ1 => match x with | .bl b => .br b (g τ μ1) (.ok (.bl false) μ1) | _ => .st
abbrev eOr (f g : De) : De := fun τ μ => (f τ μ).bind fun x μ1 => match x with | .bl b => .br b (.ok (.bl true) μ1) (g τ μ1) | _ => .st
abbrev eCmp (op : CmpOp) (f g : De) : De := fun τ μ => (f τ μ).bind fun x μ1 => (g τ μ1).bind fun y μ2 => cmpT op x y μ2
abbrev chS (op : CmpOp) (last : Bool) (ih : T → Sl → Mem → RE T) (x y : T) (τ : Sl) (μ1 : Mem) : RE T := match last with
  | true => cmpT op x y μ1
  | false => (cmpT op x y μ1).bind fun k μ2 => match k with
    | .bl b => .br b (ih y τ μ2) (.ok (.bl false) μ2)
    | _ => .st
noncomputable abbrev eChn (ps : List (CmpOp × De)) : T → Sl → Mem → RE T := List.rec (motive := fun _ => T → Sl → Mem → RE T) (fun _ _ _ => .st) (fun p r ih x τ μ => (p.2 τ μ).bind fun y μ1 => chS p.1 r.isEmpty ih x y τ μ1) ps
noncomputable abbrev eCh (f : De) (ps : List (CmpOp × De)) : De := fun τ μ => (f τ μ).bind fun x μ1 => eChn ps x τ μ1
abbrev tE (f : De) : Dt := fun τ μ => (f τ μ).bind truT
abbrev tAnd (f g : Dt) : Dt := fun τ μ => (f τ μ).bind fun b μ1 => .br b (g τ μ1) (.ok false μ1)
abbrev tOr (f g : Dt) : Dt := fun τ μ => (f τ μ).bind fun b μ1 => .br b (.ok true μ1) (g τ μ1)
abbrev tNot (f : Dt) : Dt := fun τ μ => (f τ μ).bind fun b μ1 => .ok (!b) μ1
noncomputable abbrev fieldT (t : T) (f : Nat) (μ : Mem) : RE T := match t with
  | .obj _ fs => (match getF fs f with | some v => .ok v μ | none => .st)
  | .mut i => fun K _ => ∃ c fs v, μ[i]? = some (.obj c fs) ∧ getF fs f = some v ∧ K v μ
  | _ => .st
noncomputable abbrev eFld (f : De) (n : Nat) : De := fun τ μ => (f τ μ).bind fun t μ1 => fieldT t n μ1
def ixNo (n : Nat) (i : Int) : Option Nat := if 0 ≤ i then (if i < n then some i.toNat else none) else if -(n : Int) ≤ i then some (i + n).toNat else none
def ixAt {α : Type} (xs : List α) (i : Int) : Option α := (ixNo xs.length i).bind fun j => xs[j]?
abbrev itemT (t i : T) (μ : Mem) : RE T := match i with
  | .int k => (match t with
    | .lst ts => .som (ixAt ts k) fun v => .ok v μ
    | .tup ts => .som (ixAt ts k) fun v => .ok v μ
    | .mut j => fun K _ => ∃ ts v, μ[j]? = some (.lst ts) ∧ ixAt ts k = some v ∧ K v μ
    | .str z => .grd (z.length ≤ room) (.som (ixAt z.cps.toList k) fun c => .ok (.str ⟨#[c]⟩) μ)
    | _ => .st)
  | _ => .st
abbrev eIx (f g : De) : De := fun τ μ => (f τ μ).bind fun x μ1 => (g τ μ1).bind fun y μ2 => itemT x y μ2
def sIxN (n d : Nat) : Option Int → Nat
  | none => d
  | some v => if v < 0 then (v + (n : Int)).toNat else min v.toNat n
def cutL {α : Type} (xs : List α) (lo hi : Option Int) : List α := (xs.drop (sIxN xs.length 0 lo)).take (sIxN xs.length xs.length hi - sIxN xs.length 0 lo)
abbrev Dp := Sl → Mem → RE (Option Int)
abbrev pN : Dp := fun _ μ => .ok none μ
abbrev pS (f : De) : Dp := fun τ μ => (f τ μ).bind fun t μ1 => match t with | .int i => .ok (some i) μ1 | _ => .st
abbrev cutT (x : T) (l h : Option Int) (μ : Mem) : RE T := match x with
  | .lst xs => .ok (.lst (cutL xs l h)) μ
  | .tup xs => .ok (.tup (cutL xs l h)) μ
  | .str z => .grd (z.length ≤ room) (.ok (.str (Txt.slice z l h)) μ)
  | .mut i => fun K _ => ∃ ts, μ[i]? = some (.lst ts) ∧ K (.lst (cutL ts l h)) μ
  | _ => .st
abbrev eSl (f : De) (lo hi : Dp) : De := fun τ μ => (f τ μ).bind fun x μ1 => (lo τ μ1).bind fun l μ2 => (hi τ μ2).bind fun h μ3 => cutT x l h μ3
noncomputable abbrev evs (fs : List De) : Da := List.rec (motive := fun _ => Da) (fun _ μ => .ok [] μ) (fun f _ ih τ μ => (f τ μ).bind fun t μ1 => (ih τ μ1).bind fun ts μ2 => .ok (t :: ts) μ2) fs
noncomputable abbrev eLst (fs : List De) : De := fun τ μ => (evs fs τ μ).bind fun ts μ1 => .ok (.lst ts) μ1
noncomputable abbrev eTup (fs : List De) : De := fun τ μ => (evs fs τ μ).bind fun ts μ1 => .ok (.tup ts) μ1
noncomputable abbrev eLay (fs : List De) : De := fun τ μ => (evs fs τ μ).bind fun ts μ1 => .ok (.mut μ1.length) (μ1 ++ [.lst ts])
noncomputable abbrev eCall (g : Fn) (fs : List De) : De := fun τ μ => (evs fs τ μ).bind g
abbrev frozenMk (c : Nat) (g : Fn) (ts : List T) (μ : Mem) : RE T := fun K Z =>
  pureL ts = true ∧ g (.mut 0 :: ts) [.obj c []] (fun r μ1 => r = .non ∧ ∃ fs, μ1[0]? = some (.obj c fs) ∧ pureF fs = true ∧ K (.obj c fs) μ) (fun k fs _ => pureF fs = true ∧ Z k fs μ)
noncomputable abbrev eMk (c : Nat) (g : Fn) (fs : List De) : De := fun τ μ => (evs fs τ μ).bind (frozenMk c g)
abbrev pureFn (f : Fn) : Fn := fun ts μ K Z => pureL ts = true ∧ f ts [] (fun t _ => pureT t = true ∧ K t μ) (fun c fs _ => pureF fs = true ∧ Z c fs μ)
noncomputable abbrev isiT (cs : List Nat) (x : T) (μ : Mem) : RE T := match x with
  | .mut i => .som μ[i]? fun o => .br (isTab o) .st (.ok (.bl (isAny (tyO o) cs)) μ)
  | x => match tyN x μ with
    | some t => .ok (.bl (isAny t cs)) μ
    | none => .st
noncomputable abbrev eIsi (cs : List Nat) (f : De) : De := fun τ μ => (f τ μ).bind (isiT cs)
abbrev eB1 (op : T → Mem → RE T) (f : De) : De := fun τ μ => (f τ μ).bind op
abbrev lenT (t : T) (μ : Mem) : RE T := match t with
  | .lst xs => .ok (.int xs.length) μ
  | .tup xs => .ok (.int xs.length) μ
  | .str s => .grd (s.length ≤ room) (.ok (.int s.length) μ)
  | .mut i => fun K _ => ∃ xs, μ[i]? = some (.lst xs) ∧ K (.int xs.length) μ
  | _ => .st
abbrev tupleT (t : T) (μ : Mem) : RE T := match t with
  | .lst xs => .ok (.tup xs) μ
  | .mut i => fun K _ => ∃ xs, μ[i]? = some (.lst xs) ∧ K (.tup xs) μ
  | _ => .st
abbrev listT (t : T) (μ : Mem) : RE T := match t with
  | .lst xs => .ok (.lst xs) μ
  | .tup xs => .ok (.lst xs) μ
  | .mut i => fun K _ => ∃ xs, μ[i]? = some (.lst xs) ∧ K (.lst xs) μ
  | _ => .st
def bools : List T → Option (List Bool)
  | [] => some []
  | .bl b :: r => (bools r).map (b :: ·)
  | _ :: _ => none
abbrev allT (t : T) (μ : Mem) : RE T := match t with
  | .lst xs => .som (bools xs) fun bs => .ok (.bl (bs.all id)) μ
  | _ => .st
abbrev eApp (o f : De) : De := fun τ μ => (o τ μ).bind fun ot μ1 => match ot with
  | .mut i => fun K Z => (∃ ts, μ1[i]? = some (.lst ts)) ∧ f τ μ1 (fun t μ2 => ∃ ts, μ2[i]? = some (.lst ts) ∧ ts.length < room ∧ K .non (μ2.set i (.lst (ts ++ [t])))) Z
  | _ => .st
def strsOf : List T → Option (List Str)
  | [] => some []
  | .str x :: r => (strsOf r).map (x :: ·)
  | _ :: _ => none
abbrev joinRT (sep : Str) (t : T) (μ : Mem) : RE T := match t with
  | .lst ts => .som (strsOf ts) fun ys => .grd (JoinOk sep ys.reverse = true ∧ ys.length ≤ room) (.ok (.str (Txt.join sep ys.reverse)) μ)
  | .mut i => fun K _ => ∃ ts ys, μ[i]? = some (.lst ts) ∧ strsOf ts = some ys ∧ (JoinOk sep ys.reverse = true ∧ ys.length ≤ room) ∧ K (.str (Txt.join sep ys.reverse)) μ
  | _ => .st
abbrev eIndex (o f : De) : De := fun τ μ => (o τ μ).bind fun ot μ1 => match ot with
  | .str x => (f τ μ1).bind fun t μ2 => match t with
    | .str y => fun K _ => ∃ i r, Builtin.Str.occurrences x y 0 x.length 1 = i :: r ∧ K (.int i) μ2
    | _ => .st
  | _ => .st
abbrev signsT (z : Str) : List T := z.cps.toList.map fun c => T.str ⟨#[c]⟩
abbrev itemsT (t : T) (μ : Mem) : RI := match t with
  | .lst xs => .ok xs lvT μ
  | .tup xs => .ok xs lvT μ
  | .str z => .ok (signsT z) lvT μ
  | .mut i => fun K _ => ∃ xs, μ[i]? = some (.lst xs) ∧ K xs (lvM i xs) μ
  | _ => .st
abbrev iE (f : De) : Di := fun τ μ => (f τ μ).it itemsT
def rangeT (n : Int) : List T := (List.range n.toNat).map fun (i : Nat) => T.int i
def rangeS (a b c : Int) : List T := (List.range (if a < b then (b - a - 1) / c + 1 else 0 : Int).toNat).map fun (i : Nat) => T.int (a + i * c)
abbrev inL (a : Int) : Prop := -1606938044258990275541962092341162602522202993782792835301376 ≤ a ∧ a < 1606938044258990275541962092341162602522202993782792835301376
abbrev iRng (f : De) : Di := fun τ μ => (f τ μ).it fun t μ1 => match t with
  | .int n => .grd (inL n) (.ok (rangeT n) lvT μ1)
  | _ => .st
abbrev rangeAll (x y z : T) (μ : Mem) : RI := match x, y, z with
  | .int a, .int b, .int c => .grd (inL a ∧ inL b ∧ 0 < c ∧ c < 1073741824) (.ok (rangeS a b c) lvT μ)
  | _, _, _ => .st
abbrev iRng3 (f g h : De) : Di := fun τ μ => (f τ μ).it fun x μ1 => (g τ μ1).it fun y μ2 => (h τ μ2).it fun z μ3 => rangeAll x y z μ3
abbrev iRng2 (f g : De) : Di := fun τ μ => (f τ μ).it fun x μ1 => (g τ μ1).it fun y μ2 => match x, y with
  | .int a, .int b => .grd (inL a ∧ inL b) (.ok (rangeS a b 1) lvT μ2)
  | _, _ => .st
inductive Tg where
  | one (i : Nat) | tup (is : List Nat)
noncomputable abbrev asgs (is : List Nat) : List T → Sl → Option Sl := List.rec (motive := fun _ => List T → Sl → Option Sl) (fun ts τ => List.rec (motive := fun _ => Option Sl) (some τ) (fun _ _ _ => none) ts) (fun i _ ih ts τ => List.rec (motive := fun _ => Option Sl) none (fun t ts' _ => ih ts' (setS τ i (some t))) ts) is
noncomputable abbrev asg : Tg → T → Sl → Option Sl
  | .one i, t, τ => some (setS τ i (some t))
  | .tup is, .tup ts, τ => asgs is ts τ
  | _, _, _ => none
noncomputable def compO (tg : Tg) (g : Sl → Mem → RE (Option T)) (lv : Mem → Prop) (τ : Sl) : List T → Mem → RE (List T)
  | [], μ => .ok [] μ
  | x :: r, μ => .som (asg tg x τ) fun τ' => (g τ' μ).bind fun o μ1 => .grd (lv μ1) (match o with
    | some y => (compO tg g lv τ r μ1).bind fun ys μ2 => .ok (y :: ys) μ2
    | none => compO tg g lv τ r μ1)
noncomputable abbrev cElt (cs : List Dt) (f : De) : Sl → Mem → RE (Option T) := List.rec (motive := fun _ => Sl → Mem → RE (Option T)) (fun τ μ => (f τ μ).bind fun y μ1 => .ok (some y) μ1) (fun c _ ih τ μ => (c τ μ).bind fun b μ1 => .br b (ih τ μ1) (.ok none μ1)) cs
noncomputable abbrev selS (is : List Nat) (τ : Sl) : Sl := List.rec (motive := fun _ => Sl) [] (fun i _ ih => getS τ i :: ih) is
noncomputable abbrev blk (n : Nat) (fs : List Nat) (τ : Sl) : Sl := Nat.rec (motive := fun _ => Sl) (selS fs τ) (fun _ ih => none :: ih) n
noncomputable abbrev eComp (n : Nat) (fs : List Nat) (tg : Tg) (it : Di) (cs : List Dt) (f : De) : De := fun τ μ => (it τ μ).go fun xs o μ1 => .grd (xs.length ≤ room) ((compO tg (cElt cs f) o (blk n fs τ) xs μ1).bind fun ys μ2 => .ok (.lst ys) μ2)
noncomputable abbrev eCompL (n : Nat) (fs : List Nat) (tg : Tg) (it : Di) (cs : List Dt) (f : De) : De := fun τ μ => (it τ μ).go fun xs o μ1 => .grd (xs.length ≤ room) ((compO tg (cElt cs f) o (blk n fs τ) xs μ1).bind fun ys μ2 => .ok (.mut μ2.length) (μ2 ++ [.lst ys]))
abbrev sRet (f : De) : Ds := fun τ μ => (f τ μ).out τ fun t μ1 => .rt t μ1
abbrev sRetN : Ds := fun _ μ => .rt .non μ
abbrev sExpr (f : De) : Ds := fun τ μ => (f τ μ).out τ fun _ μ1 => .nx τ μ1
noncomputable abbrev blks (ss : List Ds) : Ds := List.rec (motive := fun _ => Ds) (fun τ μ => .nx τ μ) (fun s _ ih τ μ => (s τ μ).seq ih) ss
noncomputable abbrev sIf (c : Dt) (a b : List Ds) : Ds := fun τ μ => (c τ μ).out τ fun k μ1 => .br k (blks a τ μ1) (blks b τ μ1)
noncomputable abbrev sSet (i : Nat) (f : De) : Ds := fun τ μ => (f τ μ).out τ fun t μ1 => .nx (setS τ i (some t)) μ1
noncomputable abbrev sTup (is : List Nat) (f : De) : Ds := fun τ μ => (f τ μ).out τ fun t μ1 => .som (asg (.tup is) t τ) fun τ' => .nx τ' μ1
noncomputable abbrev sFld (o : De) (n : Nat) (f : De) : Ds := fun τ μ => (f τ μ).out τ fun t μ1 => (o τ μ1).out τ fun ot μ2 => match ot with
  | .mut i => fun E => ∃ c fs, μ2[i]? = some (.obj c fs) ∧ fs.length < 900 ∧ E.nx τ (μ2.set i (.obj c (putT n t fs)))
  | _ => .st
abbrev sPut (o b f : De) : Ds := fun τ μ => (f τ μ).out τ fun t μ1 => (o τ μ1).out τ fun ot μ2 => (b τ μ2).out τ fun it μ3 => match ot, it with
  | .mut i, .int k => fun E => ∃ ts, μ3[i]? = some (.lst ts) ∧ (0 ≤ k ∧ k < ts.length ∧ k < 9223372036854775808) ∧ E.nx τ (μ3.set i (.lst (ts.set k.toNat t)))
  | _, _ => .st
noncomputable def forM (tg : Tg) (body : Ds) (lv : Mem → Prop) : List T → Ds
  | [], τ, μ => .nx τ μ
  | x :: r, τ, μ => .som (asg tg x τ) fun τ' => fun E => body τ' μ (E.turn fun τ2 μ2 => lv μ2 ∧ forM tg body lv r τ2 μ2 E)
noncomputable abbrev sFor (tg : Tg) (it : Di) (body : List Ds) : Ds := fun τ μ => (it τ μ).out τ fun xs o μ1 => forM tg (blks body) o xs τ μ1
noncomputable def sWhile (c : Dt) (body : List Ds) : Ds := fun τ μ E => ∃ I : Nat → Sl → Mem → Prop, (∃ n, I n τ μ) ∧ ∀ n τ μ, I n τ μ →
  c τ μ (fun b μ1 => brW b (blks body τ μ1 (E.turn fun τ2 μ2 => ∃ m, m < n ∧ I m τ2 μ2)) (E.nx τ μ1)) (fun k fs μ1 => E.ex k fs τ μ1)
noncomputable abbrev sRaise (c : Nat) (fs : List De) : Ds := fun τ μ => (evs fs τ μ).out τ fun ts μ1 => .grd (ts.length ≤ room) (.ex c [] τ μ1)
abbrev sRaiseF (c f : Nat) (g : De) : Ds := fun τ μ => (g τ μ).out τ fun t μ1 => match t with
  | .int i => .grd (i.natAbs.log2 < 1920) (.ex c [(f, .int i)] τ μ1)
  | _ => .st
noncomputable abbrev hanI (i : Option Nat) (v : List Ds) (k : Nat) (fs : List (Nat × T)) (τ : Sl) (μ : Mem) : Out := fun E => match i with
  | some j => blks v (setS τ j (some (.exc k fs))) μ { nx := fun τ2 μ2 => E.nx (setS τ2 j none) μ2, rt := E.rt, bk := fun _ _ => False, ct := fun _ _ => False, ex := fun _ _ _ _ => False }
  | none => blks v τ μ { nx := E.nx, rt := E.rt, bk := fun _ _ => False, ct := fun _ _ => False, ex := fun _ _ _ _ => False }
noncomputable abbrev hanS (hs : List (List Nat × Option Nat × List Ds)) : Nat → List (Nat × T) → Sl → Mem → Out := List.rec (motive := fun _ => Nat → List (Nat × T) → Sl → Mem → Out) (fun k fs τ μ => .ex k fs τ μ) (fun p _ ih k fs τ μ => .br (isAny k p.1) (hanI p.2.1 p.2.2 k fs τ μ) (ih k fs τ μ)) hs
noncomputable abbrev sTry (b : List Ds) (hs : List (List Nat × Option Nat × List Ds)) : Ds := fun τ μ E => blks b τ μ (E.tri fun k fs τ1 μ1 => hanS hs k fs τ1 μ1 E)
noncomputable abbrev pad (n : Nat) : Sl := Nat.rec (motive := fun _ => Sl) [] (fun _ ih => none :: ih) n
noncomputable abbrev argS (ts : List T) (n : Nat) : Sl := List.rec (motive := fun _ => Sl) (pad n) (fun t _ ih => some t :: ih) ts
noncomputable abbrev fnW (n m : Nat) (body : List Ds) : Fn := fun ts μ K Z => ts.length = n ∧ blks body (argS ts m) μ (En.fn K Z)
end NH
end
section
set_option linter.all false
set_option maxRecDepth 100000
set_option maxHeartbeats 4000000
namespace NH
open PySem PySem.Spec PyProof.Rows L2
structure DP where
  K : PySem.W.Frag
  adr : Nat → Option Addr
  cad : Nat → Option Addr
  fn : Nat → Option Str
  inj : ∀ i j x, fn i = some x → fn j = some x → i = j
  clo : Nat → Addr → Option HO → List V → Prop
  tabs : Nat → Option (Addr × List Pos × Str)
def XcAt (a C : Addr) (d : Option Addr) : Heap → Prop := fun h => ∃ oe vs, h.get? a = some oe ∧ oe.cls = .ref C ∧ oe.data = .fields vs ∧ oe.dict = d
def CodeIs (c : Addr) (qn : Str) : Heap → Prop := fun h => h.CodeRec (.ref c) qn
mutual
def Den (D : DP) (φ α : List Addr) (H : Hp) : T → V → Prop
  | .non, v => v = .non
  | .bl b, v => v = .bl b
  | .int i, v => v = .int i
  | .str x, v => v = .str x
  | .mut i, v => ∃ a, α[i]? = some a ∧ v = .ref a
  | .tup ts, v => ∃ a xs, v = .ref a ∧ a ∉ φ ∧ a ∉ α ∧ Rd H a (.tup xs) ∧ DenL D φ α H ts xs
  | .lst ts, v => ∃ a xs, v = .ref a ∧ a ∉ φ ∧ a ∉ α ∧ Rd H a (.lst xs) ∧ DenL D φ α H ts xs
  | .obj c fs, v => ∃ a C dx gs, v = .ref a ∧ a ∉ φ ∧ a ∉ α ∧ D.cad c = some C ∧ H a = some (.ins C dx gs) ∧ DenF D φ α H fs gs
  | .exc c fs, v => ∃ a C d, v = .ref a ∧ a ∉ φ ∧ a ∉ α ∧ D.adr c = some C ∧ H a = some (.ext (XcAt a C d)) ∧ (match d with
    | none => fs = []
    | some dx => ∃ gs, dx ∉ φ ∧ dx ∉ α ∧ H dx = some (.xd gs) ∧ DenF D φ α H fs gs)
  | .dic kvs, v => ∃ a gs, v = .ref a ∧ a ∉ φ ∧ a ∉ α ∧ H a = some (.dK gs) ∧ DenK D φ α H kvs gs
  | .clo j cs, v => ∃ a ob xs, v = .ref a ∧ D.clo j a ob xs ∧ (∀ o, ob = some o → a ∉ φ ∧ a ∉ α ∧ H a = some o) ∧ DenL D φ α H cs xs
def DenL (D : DP) (φ α : List Addr) (H : Hp) : List T → List V → Prop
  | [], vs => vs = []
  | t :: ts, vs => ∃ v r, vs = v :: r ∧ Den D φ α H t v ∧ DenL D φ α H ts r
def DenF (D : DP) (φ α : List Addr) (H : Hp) : List (Nat × T) → List (Str × V) → Prop
  | [], gs => gs = []
  | p :: fs, gs => ∃ x v r, D.fn p.1 = some x ∧ gs = (x, v) :: r ∧ Den D φ α H p.2 v ∧ DenF D φ α H fs r
def DenK (D : DP) (φ α : List Addr) (H : Hp) : List (Key × T) → List (Key × V) → Prop
  | [], gs => gs = []
  | p :: fs, gs => ∃ v r, gs = (p.1, v) :: r ∧ Den D φ α H p.2 v ∧ DenK D φ α H fs r
end
def XDict (D : DP) (φ α : List Addr) (H : Hp) (fs : List (Nat × T)) : Option Addr → Prop
  | none => fs = []
  | some dx => ∃ gs, dx ∉ φ ∧ dx ∉ α ∧ H dx = some (.xd gs) ∧ DenF D φ α H fs gs
def DenO (D : DP) (φ α : List Addr) (H : Hp) : MO → Addr → Prop
  | .lst ts, a => ∃ xs, H a = some (.lst xs) ∧ DenL D φ α H ts xs
  | .obj c fs, a => ∃ C dx gs, D.cad c = some C ∧ H a = some (.ins C dx gs) ∧ DenF D φ α H fs gs
  | .dic kvs, a => ∃ gs, H a = some (.dK gs) ∧ DenK D φ α H kvs gs
  | .tab j, a => ∃ poss qn ps, D.tabs j = some (a, poss, qn) ∧ H a = some (.tbl ps) ∧ TriplesOk ps.toList ∧ ∀ pos ∈ poss, codeAmong pos ps.toList = none ∨ ∃ c, codeAmong pos ps.toList = some (.ref c) ∧ c ∉ φ ∧ c ∉ α ∧ H c = some (.ext (CodeIs c qn))
structure Stp (α : List Addr) (H : Hp) (α' : List Addr) (H' : Hp) : Prop where
  ext : ∃ β, α' = α ++ β ∧ ∀ b ∈ β, H b = none
  keep : ∀ b o, b ∉ α → H b = some o → H' b = some o
  live : ∀ b, H' b = none → H b = none
theorem Stp.refl (α : List Addr) (H : Hp) : Stp α H α H := ⟨⟨[], by simp, by simp⟩, fun _ _ _ e => e, fun _ e => e⟩
theorem Stp.trans {α α1 α2 : List Addr} {H H1 H2 : Hp} (a : Stp α H α1 H1) (b : Stp α1 H1 α2 H2) : Stp α H α2 H2 := by
  obtain ⟨β, rfl, hβ⟩ := a.ext
  obtain ⟨γ, rfl, hγ⟩ := b.ext
  refine ⟨⟨β ++ γ, by simp, fun c hc => ?_⟩, fun c o n e => ?_, fun c e => a.live c (b.live c e)⟩
  · rcases List.mem_append.mp hc with h | h
    · exact hβ c h
    · exact a.live c (hγ c h)
  · refine b.keep c o (fun h => ?_) (a.keep c o n e)
    rcases List.mem_append.mp h with h | h
    · exact n h
    · rw [hβ c h] at e; cases e
theorem Stp.new {α : List Addr} {H H' : Hp} (s : Same H H') : Stp α H α H' := ⟨⟨[], by simp, by simp⟩, fun b o _ e => s b o e, fun b e => by
  cases q : H b with
  | none => rfl
  | some o => rw [s b o q] at e; cases e⟩
theorem same_upd {H : Hp} {p : Addr} {o : HO} (h : H p = none) : Same H (upd H p o) := fun b u e => by rw [upd_ne (ne_of_none e h)]; exact e
theorem Stp.out {α α' : List Addr} {H H' : Hp} (s : Stp α H α' H') {a : Addr} {o : HO} (n : a ∉ α) (e : H a = some o) : a ∉ α' := by
  obtain ⟨β, rfl, hβ⟩ := s.ext
  intro h
  rcases List.mem_append.mp h with h | h
  · exact n h
  · rw [hβ a h] at e; cases e
section
variable {D : DP} {φ φ' α α' : List Addr} {H H' : Hp}
structure Lk (φ α : List Addr) (H : Hp) (φ' α' : List Addr) (H' : Hp) : Prop where
  ob : ∀ a o, a ∉ φ → a ∉ α → H a = some o → a ∉ φ' ∧ a ∉ α' ∧ H' a = some o
  st : ∀ (i : Nat) (a : Addr), α[i]? = some a → α'[i]? = some a
mutual
theorem Den.lk (h : Lk φ α H φ' α' H') : ∀ {t : T} {v : V}, Den D φ α H t v → Den D φ' α' H' t v
  | .non, _, d => d
  | .bl _, _, d => d
  | .int _, _, d => d
  | .str _, _, d => d
  | .mut i, _, d => by obtain ⟨a, e, q⟩ := d; exact ⟨a, h.st i a e, q⟩
  | .tup ts, _, d => by
    obtain ⟨a, xs, rfl, n1, n2, r, l⟩ := d
    rcases r with r | ⟨o, r⟩
    · obtain ⟨m1, m2, e⟩ := h.ob a _ n1 n2 r
      exact ⟨a, xs, rfl, m1, m2, .inl e, DenL.lk h l⟩
    · obtain ⟨m1, m2, e⟩ := h.ob a _ n1 n2 r
      exact ⟨a, xs, rfl, m1, m2, .inr ⟨o, e⟩, DenL.lk h l⟩
  | .lst ts, _, d => by
    obtain ⟨a, xs, rfl, n1, n2, r, l⟩ := d
    rcases r with r | ⟨o, r⟩
    · obtain ⟨m1, m2, e⟩ := h.ob a _ n1 n2 r
      exact ⟨a, xs, rfl, m1, m2, .inl e, DenL.lk h l⟩
    · obtain ⟨m1, m2, e⟩ := h.ob a _ n1 n2 r
      exact ⟨a, xs, rfl, m1, m2, .inr ⟨o, e⟩, DenL.lk h l⟩
  | .obj c fs, _, d => by
    obtain ⟨a, C, dx, gs, rfl, n1, n2, ad, e, l⟩ := d
    obtain ⟨m1, m2, e⟩ := h.ob a _ n1 n2 e
    exact ⟨a, C, dx, gs, rfl, m1, m2, ad, e, DenF.lk h l⟩
  | .exc c fs, _, d => by
    obtain ⟨a, C, d, rfl, n1, n2, ad, e, l⟩ := d
    obtain ⟨m1, m2, e⟩ := h.ob a _ n1 n2 e
    refine ⟨a, C, d, rfl, m1, m2, ad, e, ?_⟩
    cases d with
    | none => exact l
    | some dx =>
      obtain ⟨gs, k1, k2, e2, l⟩ := l
      obtain ⟨k1, k2, e2⟩ := h.ob dx _ k1 k2 e2
      exact ⟨gs, k1, k2, e2, DenF.lk h l⟩
  | .dic kvs, _, d => by
    obtain ⟨a, gs, rfl, n1, n2, e, l⟩ := d
    obtain ⟨m1, m2, e⟩ := h.ob a _ n1 n2 e
    exact ⟨a, gs, rfl, m1, m2, e, DenK.lk h l⟩
  | .clo j cs, _, d => by
    obtain ⟨a, ob, xs, rfl, c, e, l⟩ := d
    exact ⟨a, ob, xs, rfl, c, fun o z => let ⟨n1, n2, q⟩ := e o z; h.ob a o n1 n2 q, DenL.lk h l⟩
theorem DenL.lk (h : Lk φ α H φ' α' H') : ∀ {ts : List T} {vs : List V}, DenL D φ α H ts vs → DenL D φ' α' H' ts vs
  | [], _, l => l
  | t :: ts, _, l => by
    obtain ⟨v, r, rfl, a, b⟩ := l
    exact ⟨v, r, rfl, Den.lk h a, DenL.lk h b⟩
theorem DenF.lk (h : Lk φ α H φ' α' H') : ∀ {fs : List (Nat × T)} {gs : List (Str × V)}, DenF D φ α H fs gs → DenF D φ' α' H' fs gs
  | [], _, l => l
  | p :: fs, _, l => by
    obtain ⟨x, v, r, e, rfl, a, b⟩ := l
    exact ⟨x, v, r, e, rfl, Den.lk h a, DenF.lk h b⟩
theorem DenK.lk (h : Lk φ α H φ' α' H') : ∀ {fs : List (Key × T)} {gs : List (Key × V)}, DenK D φ α H fs gs → DenK D φ' α' H' fs gs
  | [], _, l => l
  | p :: fs, _, l => by
    obtain ⟨v, r, rfl, a, b⟩ := l
    exact ⟨v, r, rfl, Den.lk h a, DenK.lk h b⟩
end
theorem Stp.lk (s : Stp α H α' H') : Lk φ α H φ α' H' := ⟨fun a o n1 n2 e => ⟨n1, s.out n2 e, s.keep a o n2 e⟩, fun i a e => by
  obtain ⟨β, rfl, _⟩ := s.ext
  rw [List.getElem?_append_left (List.getElem?_eq_some_iff.mp e).1]; exact e⟩
theorem Den.step (s : Stp α H α' H') {t : T} {v : V} (d : Den D φ α H t v) : Den D φ α' H' t v := d.lk s.lk
theorem DenL.step (s : Stp α H α' H') {t : List T} {v : List V} (d : DenL D φ α H t v) : DenL D φ α' H' t v := d.lk s.lk
theorem DenF.step (s : Stp α H α' H') {t : List (Nat × T)} {v : List (Str × V)} (d : DenF D φ α H t v) : DenF D φ α' H' t v := d.lk s.lk
theorem XDict.lk {fs : List (Nat × T)} {d : Option Addr} (h : Lk φ α H φ' α' H') (x : XDict D φ α H fs d) : XDict D φ' α' H' fs d := by
  cases d with
  | none => exact x
  | some dx =>
    obtain ⟨gs, k1, k2, e2, l⟩ := x
    obtain ⟨k1, k2, e2⟩ := h.ob dx _ k1 k2 e2
    exact ⟨gs, k1, k2, e2, DenF.lk h l⟩
mutual
theorem Den.hide {β : List Addr} : ∀ {t : T} {v : V}, pureT t = true → Den D φ α H t v → (∀ a, a ∉ φ → a ∉ α → a ∉ φ' ∧ a ∉ β) → Den D φ' β H t v
  | .non, _, _, h, _ => h
  | .bl _, _, _, h, _ => h
  | .int _, _, _, h, _ => h
  | .str _, _, _, h, _ => h
  | .mut i, _, p, _, _ => by simp [pureT] at p
  | .tup ts, _, p, h, k => by
    obtain ⟨a, xs, rfl, n1, n2, r, l⟩ := h
    exact ⟨a, xs, rfl, (k a n1 n2).1, (k a n1 n2).2, r, DenL.hide (by simpa [pureT] using p) l k⟩
  | .lst ts, _, p, h, k => by
    obtain ⟨a, xs, rfl, n1, n2, r, l⟩ := h
    exact ⟨a, xs, rfl, (k a n1 n2).1, (k a n1 n2).2, r, DenL.hide (by simpa [pureT] using p) l k⟩
  | .obj c fs, _, p, h, k => by
    obtain ⟨a, C, dx, gs, rfl, n1, n2, ad, e, l⟩ := h
    exact ⟨a, C, dx, gs, rfl, (k a n1 n2).1, (k a n1 n2).2, ad, e, DenF.hide (by simpa [pureT] using p) l k⟩
  | .exc c fs, _, p, h, k => by
    obtain ⟨a, C, d, rfl, n1, n2, ad, e, l⟩ := h
    refine ⟨a, C, d, rfl, (k a n1 n2).1, (k a n1 n2).2, ad, e, ?_⟩
    cases d with
    | none => exact l
    | some dx =>
      obtain ⟨gs, k1, k2, e2, l⟩ := l
      exact ⟨gs, (k dx k1 k2).1, (k dx k1 k2).2, e2, DenF.hide (by simpa [pureT] using p) l k⟩
  | .dic kvs, _, p, h, k => by
    obtain ⟨a, gs, rfl, n1, n2, e, l⟩ := h
    exact ⟨a, gs, rfl, (k a n1 n2).1, (k a n1 n2).2, e, DenK.hide (by simpa [pureT] using p) l k⟩
  | .clo j cs, _, p, h, k => by
    obtain ⟨a, ob, xs, rfl, c, e, l⟩ := h
    exact ⟨a, ob, xs, rfl, c, fun o z => let ⟨n1, n2, q⟩ := e o z; ⟨(k a n1 n2).1, (k a n1 n2).2, q⟩, DenL.hide (by simpa [pureT] using p) l k⟩
theorem DenL.hide {β : List Addr} : ∀ {ts : List T} {vs : List V}, pureL ts = true → DenL D φ α H ts vs → (∀ a, a ∉ φ → a ∉ α → a ∉ φ' ∧ a ∉ β) → DenL D φ' β H ts vs
  | [], _, _, h, _ => h
  | t :: ts, _, p, h, k => by
    obtain ⟨v, r, rfl, a, b⟩ := h
    simp only [pureL, Bool.and_eq_true] at p
    exact ⟨v, r, rfl, Den.hide p.1 a k, DenL.hide p.2 b k⟩
theorem DenF.hide {β : List Addr} : ∀ {fs : List (Nat × T)} {gs : List (Str × V)}, pureF fs = true → DenF D φ α H fs gs → (∀ a, a ∉ φ → a ∉ α → a ∉ φ' ∧ a ∉ β) → DenF D φ' β H fs gs
  | [], _, _, h, _ => h
  | q :: fs, _, p, h, k => by
    obtain ⟨x, v, r, e, rfl, a, b⟩ := h
    simp only [pureF, Bool.and_eq_true] at p
    exact ⟨x, v, r, e, rfl, Den.hide p.1 a k, DenF.hide p.2 b k⟩
theorem DenK.hide {β : List Addr} : ∀ {fs : List (Key × T)} {gs : List (Key × V)}, pureK fs = true → DenK D φ α H fs gs → (∀ a, a ∉ φ → a ∉ α → a ∉ φ' ∧ a ∉ β) → DenK D φ' β H fs gs
  | [], _, _, h, _ => h
  | q :: fs, _, p, h, k => by
    obtain ⟨v, r, rfl, a, b⟩ := h
    simp only [pureK, Bool.and_eq_true] at p
    exact ⟨v, r, rfl, Den.hide p.1 a k, DenK.hide p.2 b k⟩
end
theorem XDict.hide {fs : List (Nat × T)} {d : Option Addr} {β : List Addr} (p : pureF fs = true) (x : XDict D φ α H fs d) (k : ∀ a, a ∉ φ → a ∉ α → a ∉ φ' ∧ a ∉ β) : XDict D φ' β H fs d := by
  cases d with
  | none => exact x
  | some dx =>
    obtain ⟨gs, k1, k2, e2, l⟩ := x
    exact ⟨gs, (k dx k1 k2).1, (k dx k1 k2).2, e2, DenF.hide p l k⟩
theorem hide_in : ∀ a : Addr, a ∉ φ → a ∉ α → a ∉ φ ++ α ∧ a ∉ ([] : List Addr) := fun a n1 n2 => ⟨fun z => (List.mem_append.mp z).elim n1 n2, by simp⟩
theorem hide_out {β : List Addr} : ∀ a : Addr, a ∉ φ ++ α → a ∉ β → a ∉ φ ∧ a ∉ α := fun a n1 _ => ⟨fun z => n1 (List.mem_append_left _ z), fun z => n1 (List.mem_append_right _ z)⟩
theorem DenL.length : ∀ {ts : List T} {vs : List V}, DenL D φ α H ts vs → ts.length = vs.length
  | [], _, h => by have : _ = [] := h; subst this; rfl
  | t :: ts, _, h => by
    obtain ⟨v, r, rfl, _, b⟩ := h
    simp [DenL.length b]
theorem DenL.get : ∀ {ts : List T} {vs : List V} {i : Nat} {t : T}, DenL D φ α H ts vs → ts[i]? = some t → ∃ v, vs[i]? = some v ∧ Den D φ α H t v
  | [], _, _, _, _, e => by simp at e
  | t :: ts, _, 0, _, h, e => by
    obtain ⟨v, r, rfl, a, b⟩ := h
    simp at e; subst e
    exact ⟨v, rfl, a⟩
  | t :: ts, _, i + 1, u, h, e => by
    obtain ⟨v, r, rfl, a, b⟩ := h
    obtain ⟨w, e', d⟩ := DenL.get (i := i) (t := u) b (by simpa using e)
    exact ⟨w, by simpa using e', d⟩
theorem DenL.append : ∀ {ts us : List T} {vs ws : List V}, DenL D φ α H ts vs → DenL D φ α H us ws → DenL D φ α H (ts ++ us) (vs ++ ws)
  | [], us, _, ws, h, k => by have : _ = [] := h; subst this; exact k
  | t :: ts, us, _, ws, h, k => by
    obtain ⟨v, r, rfl, a, b⟩ := h
    exact ⟨v, r ++ ws, rfl, a, DenL.append b k⟩
theorem DenL.drop : ∀ (n : Nat) {ts : List T} {vs : List V}, DenL D φ α H ts vs → DenL D φ α H (ts.drop n) (vs.drop n)
  | 0, _, _, h => h
  | n + 1, [], _, h => by have : _ = [] := h; subst this; exact rfl
  | n + 1, t :: ts, _, h => by
    obtain ⟨v, r, rfl, a, b⟩ := h
    exact DenL.drop n b
theorem DenL.take : ∀ (n : Nat) {ts : List T} {vs : List V}, DenL D φ α H ts vs → DenL D φ α H (ts.take n) (vs.take n)
  | 0, _, _, h => by simp [DenL]
  | n + 1, [], _, h => by have : _ = [] := h; subst this; exact rfl
  | n + 1, t :: ts, _, h => by
    obtain ⟨v, r, rfl, a, b⟩ := h
    exact ⟨v, r.take n, rfl, a, DenL.take n b⟩
theorem DenL.set : ∀ {ts : List T} {vs : List V} {i : Nat} {t : T} {v : V}, DenL D φ α H ts vs → Den D φ α H t v → DenL D φ α H (ts.set i t) (vs.set i v)
  | [], vs, i, t, v, l, d => by have l : vs = [] := l; subst l; exact rfl
  | x :: ts, _, 0, t, v, l, d => by
    obtain ⟨w, r, rfl, dw, l⟩ := l
    exact ⟨v, r, rfl, d, l⟩
  | x :: ts, _, i + 1, t, v, l, d => by
    obtain ⟨w, r, rfl, dw, l⟩ := l
    exact ⟨w, r.set i v, rfl, dw, DenL.set l d⟩
theorem DenF.look : ∀ {fs : List (Nat × T)} {gs : List (Str × V)} {f : Nat} {t : T}, DenF D φ α H fs gs → getF fs f = some t → ∃ x v, D.fn f = some x ∧ gs.lookup x = some v ∧ Den D φ α H t v
  | [], _, _, _, _, e => by simp [getF] at e
  | p :: fs, _, f, t, h, e => by
    obtain ⟨x, v, r, ex, rfl, a, b⟩ := h
    rw [getF_cons] at e
    cases q : Nat.beq p.1 f with
    | true =>
      have q' := Nat.eq_of_beq_eq_true q
      rw [q] at e
      have e : some p.2 = some t := e
      cases e
      exact ⟨x, v, by rw [← q']; exact ex, by simp [List.lookup_cons], a⟩
    | false =>
      rw [q] at e
      obtain ⟨y, w, h1, h2, h3⟩ := DenF.look b e
      refine ⟨y, w, h1, ?_, h3⟩
      rw [List.lookup_cons]
      have ne : (y == x) = false := by
        refine beq_eq_false_iff_ne.mpr fun z => ?_
        subst z
        have := D.inj _ _ _ ex h1
        rw [this] at q
        simp at q
      rw [ne]; exact h2
theorem DenF.put {f : Nat} {x : Str} {t : T} {w : V} (hx : D.fn f = some x) : ∀ {fs : List (Nat × T)} {gs : List (Str × V)}, DenF D φ α H fs gs → Den D φ α H t w → DenF D φ α H (putT f t fs) (putF x w gs)
  | [], gs, h, d => by
    have : gs = [] := h
    subst this
    exact ⟨x, w, [], hx, rfl, d, rfl⟩
  | p :: fs, gs, h, d => by
    obtain ⟨z, y, r, ez, rfl, dy, l⟩ := h
    rw [putT_cons]
    show DenF D φ α H _ (if z = x then (z, w) :: r else (z, y) :: putF x w r)
    cases q : Nat.beq p.1 f with
    | true =>
      have q' := Nat.eq_of_beq_eq_true q
      have : z = x := by rw [q', hx] at ez; exact (Option.some.inj ez).symm
      rw [if_pos this]
      exact ⟨z, w, r, ez, rfl, d, l⟩
    | false =>
      have : z ≠ x := fun e => by
        subst e
        have := D.inj _ _ _ ez hx
        rw [this] at q
        simp at q
      rw [if_neg this]
      exact ⟨z, y, putF x w r, ez, rfl, dy, DenF.put hx l d⟩
theorem DenF.length : ∀ {fs : List (Nat × T)} {gs : List (Str × V)}, DenF D φ α H fs gs → fs.length = gs.length
  | [], _, h => by have : _ = [] := h; subst this; rfl
  | p :: fs, _, h => by
    obtain ⟨x, v, r, _, rfl, _, b⟩ := h
    simp [DenF.length b]
structure MRel (D : DP) (φ α : List Addr) (H : Hp) (μ : Mem) : Prop where
  len : α.length = μ.length
  nd : α.Nodup
  dis : ∀ b ∈ α, b ∉ φ
  phi : ∀ b ∈ φ, ∃ o, H b = some o
  ob : ∀ (i : Nat) (a : Addr) (o : MO), α[i]? = some a → μ[i]? = some o → DenO D φ α H o a
theorem MRel.nil (D : DP) {φ : List Addr} {H : Hp} (h : ∀ b ∈ φ, ∃ o, H b = some o) : MRel D φ [] H [] := ⟨rfl, by simp, by simp, h, by simp⟩
theorem DenO.lk {o : MO} {a : Addr} (s : Lk φ α H φ' α' H') (e : H' a = H a) (h : DenO D φ α H o a) : DenO D φ' α' H' o a := by
  cases o with
  | lst ts =>
    obtain ⟨xs, q, l⟩ := h
    exact ⟨xs, e.trans q, DenL.lk s l⟩
  | obj c fs =>
    obtain ⟨C, dx, gs, ad, q, l⟩ := h
    exact ⟨C, dx, gs, ad, e.trans q, DenF.lk s l⟩
  | dic kvs =>
    obtain ⟨xs, q, l⟩ := h
    exact ⟨xs, e.trans q, DenK.lk s l⟩
  | tab j =>
    obtain ⟨pos, qn, ps, h1, h2, h3, h4⟩ := h
    refine ⟨pos, qn, ps, h1, e.trans h2, h3, fun p hp => (h4 p hp).imp id fun ⟨c, k1, k2, k3, k4⟩ => ?_⟩
    obtain ⟨m1, m2, m3⟩ := s.ob c _ k2 k3 k4
    exact ⟨c, k1, m1, m2, m3⟩
theorem DenO.step {o : MO} {a : Addr} (s : Stp α H α' H') (e : H' a = H a) (h : DenO D φ α H o a) : DenO D φ α' H' o a := h.lk s.lk e
theorem DenO.some {o : MO} {a : Addr} (h : DenO D φ α H o a) : ∃ u, H a = Option.some u := by
  cases o with
  | lst ts => obtain ⟨xs, q, _⟩ := h; exact ⟨_, q⟩
  | obj c fs => obtain ⟨C, dx, gs, _, q, _⟩ := h; exact ⟨_, q⟩
  | dic ts => obtain ⟨xs, q, _⟩ := h; exact ⟨_, q⟩
  | tab j => obtain ⟨_, _, ps, _, q, _⟩ := h; exact ⟨_, q⟩
theorem MRel.new {μ : Mem} (m : MRel D φ α H μ) (s : Same H H') : MRel D φ α H' μ :=
  ⟨m.len, m.nd, m.dis, fun b hb => let ⟨o, e⟩ := m.phi b hb; ⟨o, s b o e⟩, fun i a o e1 e2 => by
    have d := m.ob i a o e1 e2
    obtain ⟨u, q⟩ := d.some
    exact d.step (Stp.new s) ((s _ _ q).trans q.symm)⟩
theorem MRel.lk {μ : Mem} (h : Lk φ α H φ' α H') (hα : ∀ a ∈ α, H' a = H a ∧ a ∉ φ') (hφ : ∀ b ∈ φ', ∃ o, H' b = some o) (m : MRel D φ α H μ) : MRel D φ' α H' μ :=
  ⟨m.len, m.nd, fun b hb => (hα b hb).2, hφ, fun i a o e1 e2 => (m.ob i a o e1 e2).lk h (hα a (List.mem_of_getElem? e1)).1⟩
structure SRel (D : DP) (φ α : List Addr) (H : Hp) (τ : Sl) (σ : St) : Prop where
  len : τ.length = σ.length
  val : ∀ (i : Nat) (t : T), τ[i]? = some (some t) → ∃ v, σ[i]? = some (some v) ∧ Den D φ α H t v
theorem SRel.lk {τ : Sl} {σ : St} (r : SRel D φ α H τ σ) (s : Lk φ α H φ' α' H') : SRel D φ' α' H' τ σ := ⟨r.len, fun i t e => by
  obtain ⟨v, q, d⟩ := r.val i t e
  exact ⟨v, q, d.lk s⟩⟩
theorem SRel.step {τ : Sl} {σ : St} (r : SRel D φ α H τ σ) (s : Stp α H α' H') : SRel D φ α' H' τ σ := r.lk s.lk
theorem SRel.set {τ : Sl} {σ : St} (r : SRel D φ α H τ σ) {i : Nat} {t : T} {v : V} (d : Den D φ α H t v) : SRel D φ α H (setS τ i (some t)) (σ.set i (some v)) := by
  rw [setS_eq]
  refine ⟨by simp [r.len], fun j u e => ?_⟩
  by_cases h : i = j
  · subst h
    rw [List.getElem?_set_self'] at e
    cases q : τ[i]? with
    | none => rw [q] at e; cases e
    | some o =>
      rw [q] at e
      simp at e
      subst e
      have hl : i < σ.length := by rw [← r.len]; exact (List.getElem?_eq_some_iff.mp q).1
      exact ⟨v, by simp [hl], d⟩
  · rw [List.getElem?_set_ne h] at e ⊢
    exact r.val j u e
theorem SRel.unset {τ : Sl} {σ : St} {i : Nat} (r : SRel D φ α H τ σ) : SRel D φ α H (setS τ i none) (σ.set i none) := by
  rw [setS_eq]
  refine ⟨by simp [r.len], fun j t e => ?_⟩
  by_cases h : i = j
  · subst h
    rw [List.getElem?_set_self'] at e
    cases q : τ[i]? with
    | none => rw [q] at e; cases e
    | some o => rw [q] at e; cases e
  · rw [List.getElem?_set_ne h] at e ⊢
    exact r.val j t e
theorem SRel.get {τ : Sl} {σ : St} (r : SRel D φ α H τ σ) {i : Nat} {t : T} (e : getS τ i = some t) : ∃ v, σ[i]? = some (some v) ∧ Den D φ α H t v := r.val i t (getS_eq.mp e)
end
theorem look_more {φ α : List Addr} {H : Hp} {b : Addr} (hb : H b = none) : Lk φ α H (φ ++ [b]) α H := by
  refine ⟨fun a o n1 n2 e => ⟨fun z => ?_, n2, e⟩, fun _ _ e => e⟩
  rcases List.mem_append.mp z with z | z
  · exact n1 z
  · rw [List.mem_singleton.mp z, hb] at e
    cases e
theorem look_new {φ α : List Addr} {H H' : Hp} {b : Addr} (hb : H b = none) (s : Same H H') : Lk φ α H (φ ++ [b]) α H' := ⟨fun a o n1 n2 e => let ⟨q1, q2, q3⟩ := (look_more hb).ob a o n1 n2 e; ⟨q1, q2, s a o e⟩, fun _ _ e => e⟩
theorem look_less {φ α : List Addr} {H : Hp} {b : Addr} : Lk (φ ++ [b]) α H φ α H := ⟨fun a o n1 n2 e => ⟨fun z => n1 (List.mem_append_left _ z), n2, e⟩, fun _ _ e => e⟩
theorem look_upd {φ α : List Addr} {H : Hp} {b : Addr} {u : HO} (hb : b ∈ φ) : Lk φ α H φ α (upd H b u) := ⟨fun a o n1 n2 e => ⟨n1, n2, by rw [upd_ne (fun z : a = b => n1 (by rw [z]; exact hb))]; exact e⟩, fun _ _ e => e⟩
end NH
end
section
set_option linter.all false
set_option maxRecDepth 100000
set_option maxHeartbeats 4000000
namespace NH
open PySem PySem.Spec PyProof.Rows L2
def Post (D : DP) (W : XW) (φ α : List Addr) (H : Hp) (σ : St) {β : Type} (R : β → Mem → List Addr → Hp → Prop) (r : RE β) : Prop :=
  ∃ K Z, r K Z ∧ (∀ a μ', K a μ' → ∀ α' H', Stp α H α' H' → MRel D φ α' H' μ' → R a μ' α' H') ∧
    ∀ c fs μ', Z c fs μ' → ∀ α' H' C d, Stp α H α' H' → MRel D φ α' H' μ' → D.adr c = some C → XDict D φ α' H' fs d → W (.ref C) d σ H'
section
variable {D : DP} {W : XW} {φ α α' : List Addr} {H H' : Hp} {σ : St} {β γ : Type} {R R' : β → Mem → List Addr → Hp → Prop} {S : γ → Mem → List Addr → Hp → Prop}
theorem Post.mono {r : RE β} (p : Post D W φ α H σ R r) (h : ∀ a μ' α' H', Stp α H α' H' → MRel D φ α' H' μ' → R a μ' α' H' → R' a μ' α' H') : Post D W φ α H σ R' r := by
  obtain ⟨K, Z, q, k, z⟩ := p
  exact ⟨K, Z, q, fun a μ' e α' H' s m => h a μ' α' H' s m (k a μ' e α' H' s m), z⟩
theorem Post.bind {r : RE γ} {k : γ → Mem → RE β} (p : Post D W φ α H σ R (r.bind k)) : Post D W φ α H σ (fun a μ' α' H' => Post D W φ α' H' σ R (k a μ')) r := by
  obtain ⟨K, Z, q, h, z⟩ := p
  exact ⟨fun a μ => k a μ K Z, Z, q, fun a μ' e α' H' s m => ⟨K, Z, e, fun b μ2 e2 α2 H2 s2 m2 => h b μ2 e2 α2 H2 (s.trans s2) m2, fun c fs μ2 e2 α2 H2 C d s2 m2 => z c fs μ2 e2 α2 H2 C d (s.trans s2) m2⟩, z⟩
theorem Post.elim {C : Prop} (p : Post D W φ α H σ R RE.st) : C := by obtain ⟨_, _, q, _⟩ := p; exact q.elim
theorem Post.grd {c : Prop} {r : RE β} (p : Post D W φ α H σ R (RE.grd c r)) : c ∧ Post D W φ α H σ R r := by
  obtain ⟨K, Z, q, h⟩ := p
  exact ⟨q.1, K, Z, q.2, h⟩
theorem Post.som {o : Option γ} {k : γ → RE β} (p : Post D W φ α H σ R (RE.som o k)) : ∃ a, o = some a ∧ Post D W φ α H σ R (k a) := by
  obtain ⟨K, Z, ⟨a, e, q⟩, h⟩ := p
  exact ⟨a, e, K, Z, q, h⟩
theorem Post.br {b : Bool} {r s : RE β} (p : Post D W φ α H σ R (RE.br b r s)) : (b = true ∧ Post D W φ α H σ R r) ∨ (b = false ∧ Post D W φ α H σ R s) := by
  obtain ⟨K, Z, q, h⟩ := p
  cases b with
  | true => exact .inl ⟨rfl, K, Z, q, h⟩
  | false => exact .inr ⟨rfl, K, Z, q, h⟩
theorem Post.ok {a : β} {μ : Mem} (p : Post D W φ α H σ R (RE.ok a μ)) {α' : List Addr} {H' : Hp} (s : Stp α H α' H') (m : MRel D φ α' H' μ) : R a μ α' H' := by
  obtain ⟨K, Z, q, h, _⟩ := p
  exact h a μ q α' H' s m
theorem Post.step {r : RE β} (p : Post D W φ α H σ R r) (st : Stp α H α' H') : Post D W φ α' H' σ R r := by
  obtain ⟨K, Z, q, h, z⟩ := p
  exact ⟨K, Z, q, fun b μ2 e2 α2 H2 s2 m2 => h b μ2 e2 α2 H2 (st.trans s2) m2, fun c fs μ2 e2 α2 H2 C d s2 m2 => z c fs μ2 e2 α2 H2 C d (st.trans s2) m2⟩
theorem Post.ex0 {δ : Type} {k : δ → RE β} (p : Post D W φ α H σ R (fun K Z => ∃ x, k x K Z)) : ∃ x, Post D W φ α H σ R (k x) := by
  obtain ⟨K, Z, ⟨x, q⟩, h⟩ := p
  exact ⟨x, K, Z, q, h⟩
theorem Post.ex1 {δ : Type} {P : δ → Prop} {k : δ → RE β} (p : Post D W φ α H σ R (fun K Z => ∃ x, P x ∧ k x K Z)) : ∃ x, P x ∧ Post D W φ α H σ R (k x) := by
  obtain ⟨K, Z, ⟨x, hx, q⟩, h⟩ := p
  exact ⟨x, hx, K, Z, q, h⟩
end
def rdE (D : DP) (W : XW) (f : De) : TE := fun σ H Q => ∃ φ α τ μ, SRel D φ α H τ σ ∧ MRel D φ α H μ ∧ Post D W φ α H σ (fun t _ α' H' => ∀ v, Den D φ α' H' t v → Q v H') (f τ μ)
def rdT (D : DP) (W : XW) (f : Dt) : TT := fun σ H Q => ∃ φ α τ μ, SRel D φ α H τ σ ∧ MRel D φ α H μ ∧ Post D W φ α H σ (fun b _ _ H' => Q b H') (f τ μ)
def rdA (D : DP) (W : XW) (n : Nat) (f : Da) : TA := fun σ H Q => ∃ φ α τ μ, SRel D φ α H τ σ ∧ MRel D φ α H μ ∧ Post D W φ α H σ (fun ts _ α' H' => ∀ vs, DenL D φ α' H' ts vs → vs.length = n → Q vs H') (f τ μ)
section
variable {X : Cx} {D : DP} {W : XW} {pins : List (Addr × Obj)} {s : Shared} {σ : St} {H : Hp} {φ α : List Addr} {τ : Sl} {μ : Mem} {β : Type} {R : β → Mem → List Addr → Hp → Prop}
theorem sub {a : Expr} {f : Sl → Mem → RE T} {k : T → Mem → RE β} (ha : PE X a (rdE D W f)) (I : Inv X pins σ H s) (sr : SRel D φ α H τ σ) (mr : MRel D φ α H μ) (p : Post D W φ α H σ R ((f τ μ).bind k)) :
    wpAny (model X.prog X.w) X.A (eval a X.env) (fun u s1 => ∃ v H1 t μ1 α1, Inv X pins σ H1 s1 ∧ RelV v u ∧ Stp α H α1 H1 ∧ SRel D φ α1 H1 τ σ ∧ MRel D φ α1 H1 μ1 ∧ Den D φ α1 H1 t v ∧ Post D W φ α1 H1 σ R (k t μ1)) X.xe s := by
  refine thn (ha pins s σ H (fun v H1 => ∃ t μ1 α1, Stp α H α1 H1 ∧ SRel D φ α1 H1 τ σ ∧ MRel D φ α1 H1 μ1 ∧ Den D φ α1 H1 t v ∧ Post D W φ α1 H1 σ R (k t μ1)) I ⟨φ, α, τ, μ, sr, mr, p.bind.mono fun t μ' α' H' st m q v d => ⟨t, μ', α', st, sr.step st, m, d, q⟩⟩) ?_
  rintro u s1 ⟨v, H1, I1, r, t, μ1, α1, h⟩
  exact ⟨v, H1, t, μ1, α1, I1, r, h⟩
theorem subT {a : Expr} {f : Sl → Mem → RE Bool} {k : Bool → Mem → RE β} (ha : PT X a (rdT D W f)) (I : Inv X pins σ H s) (sr : SRel D φ α H τ σ) (mr : MRel D φ α H μ) (p : Post D W φ α H σ R ((f τ μ).bind k)) :
    wpAny (model X.prog X.w) X.A (isTrue a X.env (eval a X.env)) (fun b s1 => ∃ H1 μ1 α1, Inv X pins σ H1 s1 ∧ Stp α H α1 H1 ∧ SRel D φ α1 H1 τ σ ∧ MRel D φ α1 H1 μ1 ∧ Post D W φ α1 H1 σ R (k b μ1)) X.xe s := by
  refine thn (ha pins s σ H (fun b H1 => ∃ μ1 α1, Stp α H α1 H1 ∧ SRel D φ α1 H1 τ σ ∧ MRel D φ α1 H1 μ1 ∧ Post D W φ α1 H1 σ R (k b μ1)) I ⟨φ, α, τ, μ, sr, mr, p.bind.mono fun b μ' α' H' st m q => ⟨μ', α', st, sr.step st, m, q⟩⟩) ?_
  rintro b s1 ⟨H1, I1, μ1, α1, h⟩
  exact ⟨H1, μ1, α1, I1, h⟩
theorem subA {es : List Expr} {n : Nat} {pos : Pos} {f : Da} {k : List T → Mem → RE β} (ha : PA X es (rdA D W n f)) (I : Inv X pins σ H s) (sr : SRel D φ α H τ σ) (mr : MRel D φ α H μ) (p : Post D W φ α H σ R ((f τ μ).bind k)) :
    wpAny (model X.prog X.w) X.A (spliced (backTo pos (starEach es X.env))) (fun us s1 => ∃ vs H1 ts μ1 α1, Inv X pins σ H1 s1 ∧ Vals vs us ∧ Stp α H α1 H1 ∧ SRel D φ α1 H1 τ σ ∧ MRel D φ α1 H1 μ1 ∧ DenL D φ α1 H1 ts vs ∧ vs.length = n ∧ Post D W φ α1 H1 σ R (k ts μ1)) X.xe s := by
  refine thn (ha pos pins s σ H (fun vs H1 => ∃ ts μ1 α1, Stp α H α1 H1 ∧ SRel D φ α1 H1 τ σ ∧ MRel D φ α1 H1 μ1 ∧ DenL D φ α1 H1 ts vs ∧ vs.length = n ∧ Post D W φ α1 H1 σ R (k ts μ1)) I ⟨φ, α, τ, μ, sr, mr, p.bind.mono fun ts μ' α' H' st m q vs d hn => ⟨ts, μ', α', st, sr.step st, m, d, hn, q⟩⟩) ?_
  rintro us s1 ⟨vs, H1, I1, r, ts, μ1, α1, h⟩
  exact ⟨vs, H1, ts, μ1, α1, I1, r, h⟩
abbrev RV (D : DP) (φ : List Addr) (Q : VK) : T → Mem → List Addr → Hp → Prop := fun t _ α' H' => ∀ v, Den D φ α' H' t v → Q v H'
theorem Post.here {Q : VK} {t : T} {v : V} (p : Post D W φ α H σ (RV D φ Q) (.ok t μ)) (mr : MRel D φ α H μ) (d : Den D φ α H t v) : Q v H := p.ok (Stp.refl _ _) mr v d
theorem Post.fresh {Q : VK} {t : T} {v : V} {H' : Hp} (p : Post D W φ α H σ (RV D φ Q) (.ok t μ)) (mr : MRel D φ α H μ) (sm : Same H H') (d : Den D φ α H' t v) : Q v H' := p.ok (Stp.new sm) (mr.new sm) v d
theorem room_line {n : Nat} (h : n ≤ room) : n ≤ sizeLine := Nat.le_trans h (by unfold room; decide)
theorem fresh_phi {α : List Addr} (mr : MRel D φ α H μ) {p : Addr} (h : H p = none) : p ∉ φ := fun z => by
  obtain ⟨o, e⟩ := mr.phi p z
  rw [h] at e; cases e
theorem fresh_out {α : List Addr} (mr : MRel D φ α H μ) {p : Addr} (h : H p = none) : p ∉ α := fun z => by
  obtain ⟨i, hi⟩ := List.mem_iff_getElem?.mp z
  have hl : i < μ.length := by rw [← mr.len]; exact (List.getElem?_eq_some_iff.mp hi).1
  obtain ⟨u, e⟩ := (mr.ob i p μ[i] hi (by simp [hl])).some
  rw [h] at e; cases e
theorem intsOf_den : ∀ {ts : List T} {ns : List Int} {vs : List V}, intsOf ts = some ns → DenL D φ α H ts vs → vs = ns.map V.int
  | [], ns, vs, h, l => by
    simp [intsOf] at h; subst h
    exact l
  | t :: ts, ns, vs, h, l => by
    obtain ⟨v, r, rfl, d, l⟩ := l
    cases t with
    | int i =>
      simp only [intsOf] at h
      cases q : intsOf ts with
      | none => rw [q] at h; cases h
      | some ms =>
        rw [q] at h; cases h
        rw [intsOf_den q l]
        have d : v = .int i := d
        rw [d]; rfl
    | _ => simp [intsOf] at h
theorem op_catR : OpR X (binaryOp .Add) (fun x y H Q => ∃ l b xs zs, x = .ref l ∧ y = .ref b ∧ Rd H l (.lst xs) ∧ Rd H b (.lst zs) ∧ xs.length + zs.length ≤ sizeLine ∧ ∀ p, H p = none → Q (.ref p) (upd H p (.lst (xs ++ zs)))) := by
  intro pins s σ H x y v u Q I rx ry h
  obtain ⟨l, b, xs, zs, rfl, rfl, hH, hB, hz, q⟩ := h
  cases rx
  cases ry
  obtain ⟨z, its, n, r, e⟩ := hH.ok I.hok
  obtain ⟨z2, its2, n2, r2, e2⟩ := hB.ok I.hok
  refine PySem.P.add_list e e2 ?_ (by rw [List.size_toArray, List.size_toArray, ← r.length, ← r2.length]; exact hz)
  rw [show its.toArray ++ its2.toArray = (its ++ its2).toArray by simp]
  exact ⟨.ref _, _, I.lnew (t' := s.toks) (r.append r2) (by rw [List.length_append]; exact hz), rfl, q _ I.fresh⟩
theorem op_catT0 : OpR X (binaryOp .Add) (fun x y H Q => ∃ a b ys, x = .ref a ∧ y = .ref b ∧ SqT X.K H a [] ∧ SqT X.K H b ys ∧ Q (.ref b) H) := by
  intro pins s σ H x y v u Q I rx ry h
  obtain ⟨a, b, ys, rfl, rfl, ha, hb, q⟩ := h
  cases rx
  cases ry
  obtain ⟨its, r1, p1, _⟩ := I.tuple ha
  obtain ⟨its2, r2, p2, _⟩ := I.tuple hb
  cases r1
  obtain ⟨⟨cls, dd, data, sl⟩, ho, hc, n, hd⟩ := id p1
  obtain ⟨⟨cls2, dd2, data2, sl2⟩, ho2, hc2, n2, hd2⟩ := id p2
  simp only at hc hd hc2 hd2
  subst hc hd hc2 hd2
  exact concat_meets ⟨_, ho, rfl⟩ ⟨_, ho2, rfl⟩ noFill_tuple_add seq_tuple_add PySem.F.slot_tuple_add PySem.F.entry_tuple_add (PySem.F.args_tuple_add_2 _ _)
    (tuple_addW0 a b #[] its2.toArray n n2 dd dd2 sl sl2 rfl) ⟨ho, ho2, ⟨.ref b, H, I, rfl, q⟩⟩
theorem op_fdiv2 : OpR X (binaryOp .FloorDiv) (rI (fun _ j => 0 < j ∧ j < 1606938044258990275541962092341162602522202993782792835301376) fun i j => .int (i / j)) := opI fun i j _ _ _ _ _ hc q => by
  have h1 : (0 : Int) < j := hc.1
  have h2 : j < 1606938044258990275541962092341162602522202993782792835301376 := hc.2
  refine floordiv_int (by omega) (by rw [Int.fdiv_eq_ediv_of_nonneg i (by omega)]; exact q) (.inl (PyProof.noPylong_of_log2 ?_))
  refine Nat.lt_of_lt_of_le ((Nat.log2_lt (by omega)).2 (show j.natAbs < 2 ^ 200 by omega)) (by decide)
theorem op_bin {op : Operator} {x y : T} {v1 v2 : V} {u1 u2 : Value} {Q : VK} (I : Inv X pins σ H s) (mr : MRel D φ α H μ) (d1 : Den D φ α H x v1) (d2 : Den D φ α H y v2) (r1 : RelV v1 u1) (r2 : RelV v2 u2)
    (p : Post D W φ α H σ (RV D φ Q) (binT op x y μ)) : wpAny (model X.prog X.w) X.A (binaryOp op u1 u2) (EP X pins σ Q) X.xe s := by
  have cat : ∀ {a b : Addr} {vs ws : List V} {xs ys : List T}, Rd H a (.lst vs) → Rd H b (.lst ws) → DenL D φ α H xs vs → DenL D φ α H ys ws → v1 = .ref a → v2 = .ref b → xs.length + ys.length ≤ room → Post D W φ α H σ (RV D φ Q) (RE.ok (.lst (xs ++ ys)) μ) → wpAny (model X.prog X.w) X.A (binaryOp .Add u1 u2) (EP X pins σ Q) X.xe s := fun {a b vs ws xs ys} q1 q2 l1 l2 e1 e2 h p => by
    subst e1 e2
    refine op_catR pins s σ H _ _ _ _ Q I r1 r2 ⟨a, b, vs, ws, rfl, rfl, q1, q2, by rw [← l1.length, ← l2.length]; exact room_line h, fun z hz => ?_⟩
    have sm := same_upd (o := .lst (vs ++ ws)) hz
    exact p.fresh mr sm ⟨z, _, rfl, fresh_phi mr hz, fresh_out mr hz, .inl upd_same, (l1.step (Stp.new sm)).append (l2.step (Stp.new sm))⟩
  unfold binT at p
  split at p
  · cases d1; cases d2
    exact op_add pins s σ H _ _ _ _ Q I r1 r2 ⟨_, _, rfl, rfl, p.here mr rfl⟩
  · cases d1; cases d2
    exact op_sub pins s σ H _ _ _ _ Q I r1 r2 ⟨_, _, rfl, rfl, p.here mr rfl⟩
  · cases d1; cases d2
    obtain ⟨h, p⟩ := p.grd
    exact op_mul pins s σ H _ _ _ _ Q I r1 r2 ⟨_, _, rfl, rfl, by simpa [CMul, big] using h, p.here mr rfl⟩
  · cases d1; cases d2
    obtain ⟨h, p⟩ := p.grd
    exact op_fdiv2 pins s σ H _ _ _ _ Q I r1 r2 ⟨_, _, rfl, rfl, h, p.here mr rfl⟩
  · cases d1; cases d2
    obtain ⟨h, p⟩ := p.grd
    exact op_mod pins s σ H _ _ _ _ Q I r1 r2 ⟨_, _, rfl, rfl, h, p.here mr rfl⟩
  · cases d1; cases d2
    obtain ⟨h, p⟩ := p.grd
    exact op_pow pins s σ H _ _ _ _ Q I r1 r2 ⟨_, _, rfl, rfl, ⟨h.1, h.2.1, by simpa using h.2.2⟩, p.here mr rfl⟩
  · cases d1; cases d2
    obtain ⟨h, p⟩ := p.grd
    exact op_shr pins s σ H _ _ _ _ Q I r1 r2 ⟨_, _, rfl, rfl, h, p.here mr rfl⟩
  · cases d1; cases d2
    obtain ⟨h, p⟩ := p.grd
    exact op_add_str pins s σ H _ _ _ _ Q I r1 r2 ⟨_, _, rfl, rfl, room_line h, p.here mr rfl⟩
  · cases d1; cases d2
    exact op_and pins s σ H _ _ _ _ Q I r1 r2 ⟨_, _, rfl, rfl, p.here mr rfl⟩
  · obtain ⟨h, p⟩ := p.grd
    obtain ⟨a, vs, rfl, n1, n2, q1, l1⟩ := d1
    obtain ⟨b, ws, rfl, m1, m2, q2, l2⟩ := d2
    refine op_catR pins s σ H _ _ _ _ Q I r1 r2 ⟨a, b, vs, ws, rfl, rfl, q1, q2, by rw [← l1.length, ← l2.length]; exact room_line h, fun z hz => ?_⟩
    have sm := same_upd (o := .lst (vs ++ ws)) hz
    exact p.fresh mr sm ⟨z, _, rfl, fresh_phi mr hz, fresh_out mr hz, .inl upd_same, (l1.step (Stp.new sm)).append (l2.step (Stp.new sm))⟩
  · rename_i xs ys
    obtain ⟨h, p⟩ := p.grd
    · obtain ⟨a, vs, rfl, n1, n2, q1, l1⟩ := d1
      obtain ⟨b, ws, rfl, m1, m2, q2, l2⟩ := d2
      cases vs with
      | nil =>
        cases xs with
        | cons x xs => obtain ⟨_, _, e, _⟩ := l1; cases e
        | nil => exact op_catT0 pins s σ H _ _ _ _ Q I r1 r2 ⟨a, b, ws, rfl, rfl, .inl q1, .inl q2, p.here mr ⟨b, ws, rfl, m1, m2, q2, l2⟩⟩
      | cons v vs =>
        refine op_catT pins s σ H _ _ _ _ Q I r1 r2 ⟨a, b, v :: vs, ws, rfl, rfl, .inl q1, .inl q2, by simp, by rw [← l1.length, ← l2.length]; exact room_line h, fun hw => ?_, fun hw z hz => ?_⟩
        · subst hw
          cases ys with
          | cons y ys => obtain ⟨_, _, e, _⟩ := l2; cases e
          | nil =>
            rw [List.append_nil] at p
            exact p.here mr ⟨a, v :: vs, rfl, n1, n2, q1, l1⟩
        · have sm := same_upd (o := .tup (v :: vs ++ ws)) hz
          exact p.fresh mr sm ⟨z, _, rfl, fresh_phi mr hz, fresh_out mr hz, .inl upd_same, (l1.step (Stp.new sm)).append (l2.step (Stp.new sm))⟩
  · obtain ⟨xs, hi, p⟩ := p.ex1
    obtain ⟨h, p⟩ := Post.grd p
    obtain ⟨a, hi', rfl⟩ := d1
    obtain ⟨vs, q1, l1⟩ := mr.ob _ a _ hi' hi
    obtain ⟨b, ws, rfl, m1, m2, q2, l2⟩ := d2
    exact cat (.inl q1) q2 l1 l2 rfl rfl h p
  · obtain ⟨ys, hi, p⟩ := p.ex1
    obtain ⟨h, p⟩ := Post.grd p
    obtain ⟨a, hi', rfl⟩ := d2
    obtain ⟨vs, q1, l1⟩ := mr.ob _ a _ hi' hi
    obtain ⟨b, ws, rfl, m1, m2, q2, l2⟩ := d1
    exact cat q2 (.inl q1) l2 l1 rfl rfl h p
  · obtain ⟨pr, hi, p⟩ := p.ex1
    obtain ⟨h, p⟩ := Post.grd p
    obtain ⟨a, hi', rfl⟩ := d1
    obtain ⟨vs, q1, l1⟩ := mr.ob _ a _ hi' hi.1
    obtain ⟨b, hj', rfl⟩ := d2
    obtain ⟨ws, q2, l2⟩ := mr.ob _ b _ hj' hi.2
    exact cat (.inl q1) (.inl q2) l1 l2 rfl rfl h p
  · exact p.elim
end
end NH
end
section
set_option linter.all false
set_option maxRecDepth 100000
set_option maxHeartbeats 8000000
namespace NH
open PySem PySem.Spec PyProof.Rows L2
section
variable {D : DP} {φ α : List Addr} {H : Hp}
theorem Rd.inj {a : Addr} {u w : HO} (hu : ∀ o z, u ≠ .frz o z) (hw : ∀ o z, w ≠ .frz o z) (r : Rd H a u) (q : Rd H a w) : u = w := by
  rcases r with r | ⟨o, r⟩ <;> rcases q with q | ⟨o', q⟩ <;> rw [r] at q
  · exact Option.some.inj q
  · exact absurd (Option.some.inj q) (hu _ _)
  · exact absurd (Option.some.inj q).symm (hw _ _)
  · injection Option.some.inj q
mutual
theorem den_same : ∀ {t u : T} {v : V} {k : Bool}, Den D φ α H t v → Den D φ α H u v → eqT t u = some k → k = true
  | .int i, u, _, k, h1, h2, e => by
    have h1 : _ = V.int i := h1
    subst h1
    cases u with
    | int j => have h2 : V.int i = V.int j := h2; injection h2 with h2; subst h2; rw [← Option.some.inj e]; simp
    | bl b => have h2 : V.int i = V.bl b := h2; cases h2
    | str b => have h2 : V.int i = V.str b := h2; cases h2
    | non => have h2 : V.int i = V.non := h2; cases h2
    | tup b => obtain ⟨_, _, h2, _⟩ := h2; cases h2
    | lst b => obtain ⟨_, _, h2, _⟩ := h2; cases h2
    | _ => cases e
  | .bl i, u, _, k, h1, h2, e => by
    have h1 : _ = V.bl i := h1
    subst h1
    cases u with
    | bl j => have h2 : V.bl i = V.bl j := h2; injection h2 with h2; subst h2; rw [← Option.some.inj e]; simp
    | int b => have h2 : V.bl i = V.int b := h2; cases h2
    | str b => have h2 : V.bl i = V.str b := h2; cases h2
    | non => have h2 : V.bl i = V.non := h2; cases h2
    | tup b => obtain ⟨_, _, h2, _⟩ := h2; cases h2
    | lst b => obtain ⟨_, _, h2, _⟩ := h2; cases h2
    | _ => cases e
  | .str i, u, _, k, h1, h2, e => by
    have h1 : _ = V.str i := h1
    subst h1
    cases u with
    | str j => have h2 : V.str i = V.str j := h2; injection h2 with h2; subst h2; rw [← Option.some.inj e]; simp
    | int b => have h2 : V.str i = V.int b := h2; cases h2
    | bl b => have h2 : V.str i = V.bl b := h2; cases h2
    | non => have h2 : V.str i = V.non := h2; cases h2
    | tup b => obtain ⟨_, _, h2, _⟩ := h2; cases h2
    | lst b => obtain ⟨_, _, h2, _⟩ := h2; cases h2
    | _ => cases e
  | .non, u, _, k, h1, h2, e => by
    have h1 : _ = V.non := h1
    subst h1
    cases u with
    | non => exact (Option.some.inj e).symm
    | int b => have h2 : V.non = V.int b := h2; cases h2
    | bl b => have h2 : V.non = V.bl b := h2; cases h2
    | str b => have h2 : V.non = V.str b := h2; cases h2
    | tup b => obtain ⟨_, _, h2, _⟩ := h2; cases h2
    | lst b => obtain ⟨_, _, h2, _⟩ := h2; cases h2
    | _ => cases e
  | .tup ts, u, _, k, h1, h2, e => by
    obtain ⟨a, xs, rfl, _, _, r, l⟩ := h1
    cases u with
    | tup us =>
      obtain ⟨b, ys, e2, _, _, r', l'⟩ := h2
      cases e2
      have := Rd.inj (by intro _ _ z; cases z) (by intro _ _ z; cases z) r r'
      injection this with this
      subst this
      exact denL_same l l' e
    | lst us =>
      obtain ⟨b, ys, e2, _, _, r', l'⟩ := h2
      cases e2
      have := Rd.inj (by intro _ _ z; cases z) (by intro _ _ z; cases z) r r'
      cases this
    | int b => have h2 : V.ref a = V.int b := h2; cases h2
    | bl b => have h2 : V.ref a = V.bl b := h2; cases h2
    | str b => have h2 : V.ref a = V.str b := h2; cases h2
    | non => have h2 : V.ref a = V.non := h2; cases h2
    | _ => cases e
  | .lst ts, u, _, k, h1, h2, e => by
    obtain ⟨a, xs, rfl, _, _, r, l⟩ := h1
    cases u with
    | lst us =>
      obtain ⟨b, ys, e2, _, _, r', l'⟩ := h2
      cases e2
      have := Rd.inj (by intro _ _ z; cases z) (by intro _ _ z; cases z) r r'
      injection this with this
      subst this
      exact denL_same l l' e
    | tup us =>
      obtain ⟨b, ys, e2, _, _, r', l'⟩ := h2
      cases e2
      have := Rd.inj (by intro _ _ z; cases z) (by intro _ _ z; cases z) r r'
      cases this
    | int b => have h2 : V.ref a = V.int b := h2; cases h2
    | bl b => have h2 : V.ref a = V.bl b := h2; cases h2
    | str b => have h2 : V.ref a = V.str b := h2; cases h2
    | non => have h2 : V.ref a = V.non := h2; cases h2
    | _ => cases e
  | .obj _ _, _, _, _, _, _, e => by cases e
  | .mut _, _, _, _, _, _, e => by cases e
  | .exc _ _, _, _, _, _, _, e => by cases e
  | .dic _, _, _, _, _, _, e => by cases e
  | .clo _ _, _, _, _, _, _, e => by cases e
theorem denL_same : ∀ {ts us : List T} {vs : List V} {k : Bool}, DenL D φ α H ts vs → DenL D φ α H us vs → eqL ts us = some k → k = true
  | [], [], _, k, _, _, e => by simpa [eqL] using e.symm
  | [], _ :: _, _, k, h1, h2, e => by
    have h1 : _ = [] := h1
    obtain ⟨_, _, h2, _⟩ := h2
    rw [h1] at h2; cases h2
  | _ :: _, [], _, k, h1, h2, e => by
    have h2 : _ = [] := h2
    obtain ⟨_, _, h1, _⟩ := h1
    rw [h2] at h1; cases h1
  | t :: ts, u :: us, _, k, h1, h2, e => by
    obtain ⟨v, r, rfl, a1, b1⟩ := h1
    obtain ⟨v', r', q, a2, b2⟩ := h2
    injection q with q1 q2
    subst q1 q2
    cases h : eqT t u with
    | none => simp [eqL, h] at e
    | some x =>
      cases h' : eqL ts us with
      | none => simp [eqL, h, h'] at e
      | some y =>
        have e1 := den_same a1 a2 h
        have e2 := denL_same b1 b2 h'
        subst e1 e2
        simpa [eqL, h, h'] using e.symm
end
end
section
variable {X : Cx} {D : DP} {pins : List (Addr × Obj)} {s : Shared} {σ : St} {H : Hp} {φ α : List Addr}
theorem eqL_at : ∀ {ts us : List T} {k : Bool}, eqL ts us = some k → (∀ j (h1 : j < ts.length) (h2 : j < us.length), ∃ b, eqT ts[j] us[j] = some b) ∧
    k = ((List.range (min ts.length us.length)).all (fun j => match ts[j]?, us[j]? with | some t, some u => (eqT t u).getD false | _, _ => false) && ts.length == us.length)
  | [], [], k, e => by
    simp [eqL] at e; subst e
    exact ⟨fun j h1 => by simp at h1, by simp⟩
  | [], u :: us, k, e => by
    simp [eqL] at e; subst e
    exact ⟨fun j h1 => by simp at h1, by simp⟩
  | t :: ts, [], k, e => by
    simp [eqL] at e; subst e
    exact ⟨fun j h1 h2 => by simp at h2, by simp⟩
  | t :: ts, u :: us, k, e => by
    cases h : eqT t u with
    | none => simp [eqL, h] at e
    | some x =>
      cases h' : eqL ts us with
      | none => simp [eqL, h, h'] at e
      | some y =>
        obtain ⟨g, ih⟩ := eqL_at h'
        simp [eqL, h, h'] at e
        subst e
        refine ⟨fun j h1 h2 => ?_, ?_⟩
        · cases j with
          | zero => exact ⟨x, h⟩
          | succ j => exact g j (by simpa using h1) (by simpa using h2)
        · rw [ih]
          have e1 : min (t :: ts).length (u :: us).length = min ts.length us.length + 1 := by simp [Nat.succ_min_succ]
          rw [e1, List.range_succ_eq_map, List.all_cons, List.all_map]
          simp only [List.getElem?_cons_zero, h, Option.getD_some, Function.comp_def, List.getElem?_cons_succ, List.length_cons]
          rw [Bool.and_assoc]
          congr 2
          simp
theorem in1_units (A : Around) : A.in1.units = A.units + 1 := by first | rfl | simp [Around.in1, Around.units]
theorem eqAt_int (I : Inv X pins σ H s) {i : Int} {u : T} {v w : V} {a b : Value} {k : Bool} {A : Around} (h1 : Den D φ α H (.int i) v) (h2 : Den D φ α H u w) (r1 : RelV v a) (r2 : RelV w b) (e : eqT (.int i) u = some k) (hu : A.units + depT (.int i) + 1 < cLine) : SeqAt.EqAt A s a b k := by
  have h1 : _ = V.int i := h1
  subst h1
  obtain ⟨t1, rfl⟩ := r1
  cases u with
  | int j => have h2 : w = V.int j := h2; subst h2; obtain ⟨t2, rfl⟩ := r2; cases Option.some.inj e; exact SeqAt.EqAt.int_int _ _ _ _
  | bl j => have h2 : w = V.bl j := h2; subst h2; cases r2; cases Option.some.inj e; exact SeqAt.EqAt.int_bool _ _ _
  | str j => have h2 : w = V.str j := h2; subst h2; obtain ⟨t2, rfl⟩ := r2; cases Option.some.inj e; exact SeqAt.EqAt.int_str _ _ _ _
  | non => have h2 : w = V.non := h2; subst h2; cases r2; cases Option.some.inj e; exact SeqAt.EqAt.int_none _ _
  | tup ys => obtain ⟨c, xs, rfl, _, _, r, _⟩ := h2; cases r2; obtain ⟨its, _, p, _⟩ := I.tuple (.inl r); cases Option.some.inj e; exact SeqAt.EqAt.int_tuple _ _ p (by omega)
  | lst ys => obtain ⟨c, xs, rfl, _, _, r, _⟩ := h2; cases r2; obtain ⟨its, _, p, _⟩ := I.list (.inl r); cases Option.some.inj e; exact SeqAt.EqAt.int_list _ _ p.isList (by omega)
  | _ => cases e
theorem eqAt_bl (I : Inv X pins σ H s) {i : Bool} {u : T} {v w : V} {a b : Value} {k : Bool} {A : Around} (h1 : Den D φ α H (.bl i) v) (h2 : Den D φ α H u w) (r1 : RelV v a) (r2 : RelV w b) (e : eqT (.bl i) u = some k) (hu : A.units + depT (.bl i) + 1 < cLine) : SeqAt.EqAt A s a b k := by
  have h1 : _ = V.bl i := h1
  subst h1
  cases r1
  cases u with
  | int j => have h2 : w = V.int j := h2; subst h2; obtain ⟨t2, rfl⟩ := r2; cases Option.some.inj e; exact SeqAt.EqAt.bool_int _ _ _
  | bl j => have h2 : w = V.bl j := h2; subst h2; cases r2; cases Option.some.inj e; exact SeqAt.EqAt.bool_bool _ _
  | str j => have h2 : w = V.str j := h2; subst h2; obtain ⟨t2, rfl⟩ := r2; cases Option.some.inj e; exact SeqAt.EqAt.bool_str _ _ _
  | non => have h2 : w = V.non := h2; subst h2; cases r2; cases Option.some.inj e; exact SeqAt.EqAt.bool_none _
  | tup ys => obtain ⟨c, xs, rfl, _, _, r, _⟩ := h2; cases r2; obtain ⟨its, _, p, _⟩ := I.tuple (.inl r); cases Option.some.inj e; exact SeqAt.EqAt.bool_tuple _ p (by omega)
  | lst ys => obtain ⟨c, xs, rfl, _, _, r, _⟩ := h2; cases r2; obtain ⟨its, _, p, _⟩ := I.list (.inl r); cases Option.some.inj e; exact SeqAt.EqAt.bool_list _ p.isList (by omega)
  | _ => cases e
theorem eqAt_str (I : Inv X pins σ H s) {i : Str} {u : T} {v w : V} {a b : Value} {k : Bool} {A : Around} (h1 : Den D φ α H (.str i) v) (h2 : Den D φ α H u w) (r1 : RelV v a) (r2 : RelV w b) (e : eqT (.str i) u = some k) (hu : A.units + depT (.str i) + 1 < cLine) : SeqAt.EqAt A s a b k := by
  have h1 : _ = V.str i := h1
  subst h1
  obtain ⟨t1, rfl⟩ := r1
  cases u with
  | int j => have h2 : w = V.int j := h2; subst h2; obtain ⟨t2, rfl⟩ := r2; cases Option.some.inj e; exact SeqAt.EqAt.str_int _ _ _ _
  | bl j => have h2 : w = V.bl j := h2; subst h2; cases r2; cases Option.some.inj e; exact SeqAt.EqAt.str_bool _ _ _
  | str j => have h2 : w = V.str j := h2; subst h2; obtain ⟨t2, rfl⟩ := r2; cases Option.some.inj e; exact SeqAt.EqAt.str_str _ _ _ _
  | non => have h2 : w = V.non := h2; subst h2; cases r2; cases Option.some.inj e; exact SeqAt.EqAt.str_none _ _
  | tup ys => obtain ⟨c, xs, rfl, _, _, r, _⟩ := h2; cases r2; obtain ⟨its, _, p, _⟩ := I.tuple (.inl r); cases Option.some.inj e; exact SeqAt.EqAt.str_tuple _ _ p (by omega)
  | lst ys => obtain ⟨c, xs, rfl, _, _, r, _⟩ := h2; cases r2; obtain ⟨its, _, p, _⟩ := I.list (.inl r); cases Option.some.inj e; exact SeqAt.EqAt.str_list _ _ p.isList (by omega)
  | _ => cases e
theorem eqAt_non (I : Inv X pins σ H s) {u : T} {v w : V} {a b : Value} {k : Bool} {A : Around} (h1 : Den D φ α H .non v) (h2 : Den D φ α H u w) (r1 : RelV v a) (r2 : RelV w b) (e : eqT .non u = some k) (hu : A.units + depT .non + 1 < cLine) : SeqAt.EqAt A s a b k := by
  have h1 : _ = V.non := h1
  subst h1
  cases r1
  cases u with
  | int j => have h2 : w = V.int j := h2; subst h2; obtain ⟨t2, rfl⟩ := r2; cases Option.some.inj e; exact SeqAt.EqAt.none_int _ _
  | bl j => have h2 : w = V.bl j := h2; subst h2; cases r2; cases Option.some.inj e; exact SeqAt.EqAt.none_bool _
  | str j => have h2 : w = V.str j := h2; subst h2; obtain ⟨t2, rfl⟩ := r2; cases Option.some.inj e; exact SeqAt.EqAt.none_str _ _
  | non => have h2 : w = V.non := h2; subst h2; cases r2; cases Option.some.inj e; exact SeqAt.EqAt.same _
  | tup ys => obtain ⟨c, xs, rfl, _, _, r, _⟩ := h2; cases r2; obtain ⟨its, _, p, _⟩ := I.tuple (.inl r); cases Option.some.inj e; exact SeqAt.EqAt.none_tuple p (by omega)
  | lst ys => obtain ⟨c, xs, rfl, _, _, r, _⟩ := h2; cases r2; obtain ⟨its, _, p, _⟩ := I.list (.inl r); cases Option.some.inj e; exact SeqAt.EqAt.none_list p.isList (by omega)
  | _ => cases e
theorem eqAt_tupNo (I : Inv X pins σ H s) {ts : List T} {u : T} {v0 w : V} {a b : Value} {k : Bool} {A : Around} (hn : ∀ us, u ≠ .tup us) (h1 : Den D φ α H (.tup ts) v0) (h2 : Den D φ α H u w) (r1 : RelV v0 a) (r2 : RelV w b) (e : eqT (.tup ts) u = some k) (hu : A.units + depT (.tup ts) + 1 < cLine) : SeqAt.EqAt A s a b k := by
  cases u with
  | tup us => exact absurd rfl (hn us)
  | lst us =>
    obtain ⟨c, xs, rfl, _, _, r, l⟩ := h1
    obtain ⟨d, ys, rfl, _, _, r', l'⟩ := h2
    cases r1; cases r2
    obtain ⟨_, _, p, _⟩ := I.tuple (.inl r)
    obtain ⟨_, _, p', _⟩ := I.list (.inl r')
    cases Option.some.inj e
    exact SeqAt.EqAt.tuple_list p p'.isList (by omega)
  | int j => have h2 : w = V.int j := h2; subst h2; obtain ⟨t2, rfl⟩ := r2; obtain ⟨c, xs, rfl, _, _, r, _⟩ := h1; cases r1; obtain ⟨its, _, p, _⟩ := I.tuple (.inl r); cases Option.some.inj e; exact SeqAt.EqAt.tuple_int _ _ p (by omega)
  | bl j => have h2 : w = V.bl j := h2; subst h2; cases r2; obtain ⟨c, xs, rfl, _, _, r, _⟩ := h1; cases r1; obtain ⟨its, _, p, _⟩ := I.tuple (.inl r); cases Option.some.inj e; exact SeqAt.EqAt.tuple_bool _ p (by omega)
  | str j => have h2 : w = V.str j := h2; subst h2; obtain ⟨t2, rfl⟩ := r2; obtain ⟨c, xs, rfl, _, _, r, _⟩ := h1; cases r1; obtain ⟨its, _, p, _⟩ := I.tuple (.inl r); cases Option.some.inj e; exact SeqAt.EqAt.tuple_str _ _ p (by omega)
  | non => have h2 : w = V.non := h2; subst h2; cases r2; obtain ⟨c, xs, rfl, _, _, r, _⟩ := h1; cases r1; obtain ⟨its, _, p, _⟩ := I.tuple (.inl r); cases Option.some.inj e; exact SeqAt.EqAt.tuple_none p (by omega)
  | _ => cases e
theorem eqAt_lstNo (I : Inv X pins σ H s) {ts : List T} {u : T} {v0 w : V} {a b : Value} {k : Bool} {A : Around} (hn : ∀ us, u ≠ .lst us) (h1 : Den D φ α H (.lst ts) v0) (h2 : Den D φ α H u w) (r1 : RelV v0 a) (r2 : RelV w b) (e : eqT (.lst ts) u = some k) (hu : A.units + depT (.lst ts) + 1 < cLine) : SeqAt.EqAt A s a b k := by
  cases u with
  | lst us => exact absurd rfl (hn us)
  | tup us =>
    obtain ⟨c, xs, rfl, _, _, r, l⟩ := h1
    obtain ⟨d, ys, rfl, _, _, r', l'⟩ := h2
    cases r1; cases r2
    obtain ⟨_, _, p, _⟩ := I.list (.inl r)
    obtain ⟨_, _, p', _⟩ := I.tuple (.inl r')
    cases Option.some.inj e
    exact SeqAt.EqAt.list_tuple p.isList p' (by omega)
  | int j => have h2 : w = V.int j := h2; subst h2; obtain ⟨t2, rfl⟩ := r2; obtain ⟨c, xs, rfl, _, _, r, _⟩ := h1; cases r1; obtain ⟨its, _, p, _⟩ := I.list (.inl r); cases Option.some.inj e; exact SeqAt.EqAt.list_int _ _ p.isList (by omega)
  | bl j => have h2 : w = V.bl j := h2; subst h2; cases r2; obtain ⟨c, xs, rfl, _, _, r, _⟩ := h1; cases r1; obtain ⟨its, _, p, _⟩ := I.list (.inl r); cases Option.some.inj e; exact SeqAt.EqAt.list_bool _ p.isList (by omega)
  | str j => have h2 : w = V.str j := h2; subst h2; obtain ⟨t2, rfl⟩ := r2; obtain ⟨c, xs, rfl, _, _, r, _⟩ := h1; cases r1; obtain ⟨its, _, p, _⟩ := I.list (.inl r); cases Option.some.inj e; exact SeqAt.EqAt.list_str _ _ p.isList (by omega)
  | non => have h2 : w = V.non := h2; subst h2; cases r2; obtain ⟨c, xs, rfl, _, _, r, _⟩ := h1; cases r1; obtain ⟨its, _, p, _⟩ := I.list (.inl r); cases Option.some.inj e; exact SeqAt.EqAt.list_none p.isList (by omega)
  | _ => cases e
def EqN (D : DP) (φ α : List Addr) (H : Hp) (s : Shared) (n : Nat) : Prop := ∀ (t u : T) (v w : V) (a b : Value) (k : Bool) (A : Around), depT t < n → Den D φ α H t v → Den D φ α H u w → RelV v a → RelV w b → eqT t u = some k → A.units + depT t + 1 < cLine → SeqAt.EqAt A s a b k
theorem eqAt_itemsN {n : Nat} (ih : EqN D φ α H s n) : ∀ {ts us : List T} {xs ys : List V} {its its2 : List Value} {A : Around}, depL ts < n → DenL D φ α H ts xs → DenL D φ α H us ys → Vals xs its → Vals ys its2 → A.units + depL ts + 1 < cLine →
    ∀ (j : Nat) (h1 : j < its.length) (h2 : j < its2.length), (∀ (g1 : j < ts.length) (g2 : j < us.length), ∃ b, eqT ts[j] us[j] = some b) → SeqAt.EqAt A s its[j] its2[j] (match ts[j]?, us[j]? with | some t, some u => (eqT t u).getD false | _, _ => false)
  | [], _, xs, _, its, _, A, _, l, _, rv, _, _, j, h1, _, _ => by
    have l : xs = [] := l
    subst l
    cases rv
    simp at h1
  | t :: ts, us, xs, ys, its, its2, A, hd, l, l', rv, rv', hu, j, h1, h2, g => by
    obtain ⟨v, r, rfl, d1, l⟩ := l
    cases rv with
    | @cons _ u0 _ us0 r0 rv =>
    cases us with
    | nil =>
      have l' : ys = [] := l'
      subst l'
      cases rv'
      simp at h2
    | cons u us =>
      obtain ⟨w, r', rfl, d2, l'⟩ := l'
      cases rv' with
      | @cons _ u0' _ us0' r0' rv' =>
      simp only [depL] at hu hd
      cases j with
      | zero =>
        obtain ⟨b, hb⟩ := g (by simp) (by simp)
        have hb' : eqT t u = some b := by simpa using hb
        simp only [List.getElem?_cons_zero, hb', Option.getD_some, List.getElem_cons_zero]
        exact ih _ _ _ _ _ _ _ _ (by omega) d1 d2 r0 r0' hb' (by omega)
      | succ j =>
        simp only [List.getElem?_cons_succ, List.getElem_cons_succ]
        exact eqAt_itemsN ih (by omega) l l' rv rv' (by omega) j (by simpa using h1) (by simpa using h2) fun g1 g2 => by
          obtain ⟨b, hb⟩ := g (by simpa using g1) (by simpa using g2)
          exact ⟨b, by simpa using hb⟩
theorem rcAt_tupN (I : Inv X pins σ H s) {n : Nat} (ih : EqN D φ α H s n) {ts us : List T} {xs ys : List V} {c d : Addr} {k : Bool} {A : Around} (hd : depL ts < n) (l : DenL D φ α H ts xs) (l' : DenL D φ α H us ys) (r : Rd H c (.tup xs)) (r' : Rd H d (.tup ys)) (e : eqL ts us = some k) (hu : A.units + depL ts + 2 < cLine) : SeqAt.RcAt A s (.ref c) (.ref d) k := by
  obtain ⟨its, rv, p, _⟩ := I.tuple (.inl r)
  obtain ⟨its2, rv', p', _⟩ := I.tuple (.inl r')
  obtain ⟨g, rfl⟩ := eqL_at e
  have h1 : ts.length = its.length := l.length.trans rv.length
  have h2 : us.length = its2.length := l'.length.trans rv'.length
  have := SeqAt.RcAt.tuples (A := A) (e := fun j => match ts[j]?, us[j]? with | some t, some u => (eqT t u).getD false | _, _ => false) p p' (by omega) fun j q1 q2 => by
    have := eqAt_itemsN (A := A.in1) ih hd l l' rv rv' (by rw [in1_units]; omega) j (by simpa using q1) (by simpa using q2) fun g1 g2 => g j g1 g2
    simpa using this
  simpa [h1, h2] using this
theorem rcAt_lstN (I : Inv X pins σ H s) {n : Nat} (ih : EqN D φ α H s n) {ts us : List T} {xs ys : List V} {c d : Addr} {k : Bool} {A : Around} (hd : depL ts < n) (l : DenL D φ α H ts xs) (l' : DenL D φ α H us ys) (r : Rd H c (.lst xs)) (r' : Rd H d (.lst ys)) (e : eqL ts us = some k) (hu : A.units + depL ts + 2 < cLine) : SeqAt.RcAt A s (.ref c) (.ref d) k := by
  obtain ⟨its, rv, p, _⟩ := I.list (.inl r)
  obtain ⟨its2, rv', p', _⟩ := I.list (.inl r')
  obtain ⟨g, rfl⟩ := eqL_at e
  have h1 : ts.length = its.length := l.length.trans rv.length
  have h2 : us.length = its2.length := l'.length.trans rv'.length
  by_cases hl : ts.length = us.length
  · have := SeqAt.RcAt.lists (A := A) (e := fun j => match ts[j]?, us[j]? with | some t, some u => (eqT t u).getD false | _, _ => false) p.isList p'.isList (by simp; omega) (by omega) fun j q1 q2 => by
      have := eqAt_itemsN (A := A.in1) ih hd l l' rv rv' (by rw [in1_units]; omega) j (by simpa using q1) (by simpa using q2) fun g1 g2 => g j g1 g2
      simpa using this
    have e2 : min ts.length us.length = its.length := by omega
    have e3 : (ts.length == us.length) = true := by simpa using hl
    rw [e2, e3, Bool.and_true]
    simpa using this
  · have e3 : (ts.length == us.length) = false := by simpa using hl
    rw [e3, Bool.and_false]
    exact SeqAt.RcAt.lists_lengths p.isList p'.isList (by simp; omega) (by omega)
theorem eqAt_n (I : Inv X pins σ H s) : ∀ n, EqN D φ α H s n
  | 0 => fun _ _ _ _ _ _ _ _ hn => absurd hn (by omega)
  | n + 1 => fun t u v w a b k A hn h1 h2 r1 r2 e hu => by
    have ih := eqAt_n I n
    cases t with
    | int i => exact eqAt_int I h1 h2 r1 r2 e hu
    | bl i => exact eqAt_bl I h1 h2 r1 r2 e hu
    | str i => exact eqAt_str I h1 h2 r1 r2 e hu
    | non => exact eqAt_non I h1 h2 r1 r2 e hu
    | tup ts =>
      cases u with
      | tup us =>
        have hs := fun (q : w = v) => den_same h1 (q ▸ h2) e
        obtain ⟨c, xs, rfl, _, _, r, l⟩ := h1
        obtain ⟨d, ys, rfl, _, _, r', l'⟩ := h2
        cases r1; cases r2
        by_cases hcd : c = d
        · subst hcd
          rw [hs rfl]
          exact SeqAt.EqAt.same _
        · refine SeqAt.EqAt.of_refs hcd ?_
          exact rcAt_tupN I ih (by simp only [depT] at hn; omega) l l' r r' e (by simp only [depT] at hu; omega)
      | _ => exact eqAt_tupNo I (by intro _ z; cases z) h1 h2 r1 r2 e hu
    | lst ts =>
      cases u with
      | lst us =>
        have hs := fun (q : w = v) => den_same h1 (q ▸ h2) e
        obtain ⟨c, xs, rfl, _, _, r, l⟩ := h1
        obtain ⟨d, ys, rfl, _, _, r', l'⟩ := h2
        cases r1; cases r2
        by_cases hcd : c = d
        · subst hcd
          rw [hs rfl]
          exact SeqAt.EqAt.same _
        · refine SeqAt.EqAt.of_refs hcd ?_
          exact rcAt_lstN I ih (by simp only [depT] at hn; omega) l l' r r' e (by simp only [depT] at hu; omega)
      | _ => exact eqAt_lstNo I (by intro _ z; cases z) h1 h2 r1 r2 e hu
    | _ => cases e
theorem rcAt_tup (I : Inv X pins σ H s) {ts us : List T} {xs ys : List V} {c d : Addr} {k : Bool} {A : Around} (l : DenL D φ α H ts xs) (l' : DenL D φ α H us ys) (r : Rd H c (.tup xs)) (r' : Rd H d (.tup ys)) (e : eqL ts us = some k) (hu : A.units + depL ts + 2 < cLine) : SeqAt.RcAt A s (.ref c) (.ref d) k := rcAt_tupN I (eqAt_n I _) (Nat.lt_succ_self _) l l' r r' e hu
theorem rcAt_lst (I : Inv X pins σ H s) {ts us : List T} {xs ys : List V} {c d : Addr} {k : Bool} {A : Around} (l : DenL D φ α H ts xs) (l' : DenL D φ α H us ys) (r : Rd H c (.lst xs)) (r' : Rd H d (.lst ys)) (e : eqL ts us = some k) (hu : A.units + depL ts + 2 < cLine) : SeqAt.RcAt A s (.ref c) (.ref d) k := rcAt_lstN I (eqAt_n I _) (Nat.lt_succ_self _) l l' r r' e hu
theorem eqAt_items (I : Inv X pins σ H s) : ∀ {ts us : List T} {xs ys : List V} {its its2 : List Value} {A : Around}, DenL D φ α H ts xs → DenL D φ α H us ys → Vals xs its → Vals ys its2 → A.units + depL ts + 1 < cLine →
    ∀ (j : Nat) (h1 : j < its.length) (h2 : j < its2.length), (∀ (g1 : j < ts.length) (g2 : j < us.length), ∃ b, eqT ts[j] us[j] = some b) → SeqAt.EqAt A s its[j] its2[j] (match ts[j]?, us[j]? with | some t, some u => (eqT t u).getD false | _, _ => false) := fun l l' rv rv' hu => eqAt_itemsN (eqAt_n I _) (Nat.lt_succ_self _) l l' rv rv' hu
theorem rcNe_tup (I : Inv X pins σ H s) {ts us : List T} {xs ys : List V} {c d : Addr} {k : Bool} {A : Around} (l : DenL D φ α H ts xs) (l' : DenL D φ α H us ys) (r : Rd H c (.tup xs)) (r' : Rd H d (.tup ys)) (e : eqL ts us = some k) (hu : A.units + depL ts + 2 < cLine) : SeqAt.RcNeAt A s (.ref c) (.ref d) (!k) := by
  obtain ⟨its, rv, p, _⟩ := I.tuple (.inl r)
  obtain ⟨its2, rv', p', _⟩ := I.tuple (.inl r')
  obtain ⟨g, rfl⟩ := eqL_at e
  have h1 : ts.length = its.length := l.length.trans rv.length
  have h2 : us.length = its2.length := l'.length.trans rv'.length
  have := SeqAt.RcNeAt.tuples (A := A) (e := fun j => match ts[j]?, us[j]? with | some t, some u => (eqT t u).getD false | _, _ => false) p p' (by omega) fun j q1 q2 => by
    have := eqAt_items (A := A.in1) I l l' rv rv' (by rw [in1_units]; omega) j (by simpa using q1) (by simpa using q2) fun g1 g2 => g j g1 g2
    simpa using this
  simpa [h1, h2] using this
theorem rcNe_lst (I : Inv X pins σ H s) {ts us : List T} {xs ys : List V} {c d : Addr} {k : Bool} {A : Around} (l : DenL D φ α H ts xs) (l' : DenL D φ α H us ys) (r : Rd H c (.lst xs)) (r' : Rd H d (.lst ys)) (e : eqL ts us = some k) (hu : A.units + depL ts + 2 < cLine) : SeqAt.RcNeAt A s (.ref c) (.ref d) (!k) := by
  obtain ⟨its, rv, p, _⟩ := I.list (.inl r)
  obtain ⟨its2, rv', p', _⟩ := I.list (.inl r')
  obtain ⟨g, rfl⟩ := eqL_at e
  have h1 : ts.length = its.length := l.length.trans rv.length
  have h2 : us.length = its2.length := l'.length.trans rv'.length
  by_cases hl : ts.length = us.length
  · have := SeqAt.RcNeAt.lists (A := A) (e := fun j => match ts[j]?, us[j]? with | some t, some u => (eqT t u).getD false | _, _ => false) p.isList p'.isList (by simp; omega) (by omega) fun j q1 q2 => by
      have := eqAt_items (A := A.in1) I l l' rv rv' (by rw [in1_units]; omega) j (by simpa using q1) (by simpa using q2) fun g1 g2 => g j g1 g2
      simpa using this
    have e2 : min ts.length us.length = its.length := by omega
    have e3 : (ts.length == us.length) = true := by simpa using hl
    rw [e2, e3, Bool.and_true]
    simpa using this
  · have e3 : (ts.length == us.length) = false := by simpa using hl
    rw [e3, Bool.and_false]
    exact SeqAt.RcNeAt.lists_lengths p.isList p'.isList (by simp; omega) (by omega)
end
end NH
end
section
set_option linter.all false
set_option maxRecDepth 100000
set_option maxHeartbeats 4000000
namespace NH
open PySem PySem.Spec PyProof.Rows L2
def spM (D : DP) (f : Fn) : Sp := fun vs H Q E => ∃ φ α ts μ, DenL D φ α H ts vs ∧ MRel D φ α H μ ∧ Post D (wOf E) φ α H [] (fun t _ α' H' => ∀ v, Den D φ α' H' t v → Q v H') (f ts μ)
def spN (D : DP) (n : Nat) (f : Fn) : Sp := fun vs H Q E => vs.length = n ∧ spM D f vs H Q E
def TyNm (D : DP) (t : Nat) (u : Value) : Prop :=
  (t = 0 ∧ u = .type "NoneType") ∨ (t = 1 ∧ u = .type "bool") ∨ (t = 2 ∧ u = .type "int") ∨ (t = 3 ∧ u = .type "str") ∨ (t = 4 ∧ u = .type "tuple") ∨ (t = 5 ∧ u = .type "list") ∨ (∃ C, D.adr t = some C ∧ u = .ref C) ∨ (t = 6 ∧ u = .type "dict") ∨ (∃ C, D.cad t = some C ∧ u = .ref C)
def ClValM (mg : Str → Option Value) (c : Str) (u : Value) : Prop := mg c = some u ∨ (mg c = none ∧ bootBuiltins c = some u ∧ c ≠ "__name__")
abbrev ClVal (X : Cx) (c : Str) (u : Value) : Prop := ClValM X.mg c u
def ClsV (v : V) (u : Value) : Prop := (∃ C, v = .ref C ∧ u = .ref C) ∨ ∃ n, v = .ty n ∧ u = .type n
theorem ClsV.rel {v : V} {u : Value} (h : ClsV v u) : L2.RelV v u := by
  rcases h with ⟨C, rfl, rfl⟩ | ⟨n, rfl, rfl⟩ <;> rfl
theorem ClsV.only {v : V} {u u' : Value} (h : ClsV v u) (r : L2.RelV v u') : u' = u := by
  rcases h with ⟨C, rfl, rfl⟩ | ⟨n, rfl, rfl⟩ <;> exact r
structure XCls (K : PySem.W.Frag) (C : Addr) : Prop where
  ga : PySem.W.findIn K (.ref C) "__getattribute__" = some (some (.builtin "BaseException.__getattribute__"))
  hk : PySem.W.findIn K (.ref C) "__getattr__" = some none
  fi : PySem.W.findIn K (.ref C) "__class__" = some (some (.builtin "object.__class__"))
  sp : PySem.W.specialIn K (.builtin "object.__class__") "__get__" = some (some (.builtin "getset_descriptor.__get__"))
  tk : PySem.W.takesIn K (.builtin "object.__class__") = some true
  ob : PySem.W.mroIn K C (.type "object") = some true
  bx : PySem.W.mroIn K C (.type "BaseException") = some true
  cl : (PySem.W.clsIn K C).isSome = true
structure OCls (K : PySem.W.Frag) (C : Addr) : Prop where
  cl : Cls K C
  fi : PySem.W.findIn K (.ref C) "__class__" = some (some (.builtin "object.__class__"))
  sp : PySem.W.specialIn K (.builtin "object.__class__") "__get__" = some (some (.builtin "getset_descriptor.__get__"))
  tk : PySem.W.takesIn K (.builtin "object.__class__") = some true
  ob : PySem.W.mroIn K C (.type "object") = some true
abbrev veMro : List Value := [.type "ValueError", .type "Exception", .type "BaseException", .type "object"]
def FOk (D : DP) (P : Program) (w : World) (K : PySem.W.Frag) (mg : Str → Option Value) (base : Heap) (k : Nat) (fa : Addr) (f : Fn) : Prop :=
  ∃ fd ps kk, PySem.W.keepIn K (.ref fa) = true ∧ Binds K fd ps [] ∧ kk ≤ k ∧ FnOk P w K mg base (CX1 P w) kk fa fd ps (spN D ps.length f) ∧ ∀ ts μ K Z, f ts μ K Z → ts.length = ps.length
structure RoomH (k : Nat) (A : Around) : Prop where
  dp : A.depth + 3 * k + 5 < recursionLimit
  un : A.units + 16 * k + 200 < cLine
theorem RoomH.units {k : Nat} {A : Around} (r : RoomH k A) : A.units + 64 < cLine := by have := r.un; omega
def FnOkH (P : Program) (w : World) (K : PySem.W.Frag) (mg : Str → Option Value) (base : Heap) (k : Nat) (f : Addr) (fd : FuncData) (ps : List Str) (sp : Sp) : Prop :=
  ∀ (A : Around) (outer : List Env) (s : Shared) (H : Hp) (args : Args) (us : List Value) (vs : List V) (Q : VK), RoomH k A → Env0 P w K mg base A outer s H → BindsTo s fd args (ps.zip us) → Vals vs us → sp vs H Q (fun _ _ _ => False) →
    codeAny (model P w) A (.call (.ref f) args) (CR (fun _ _ _ _ _ _ => False) outer P w H s Q (fun _ _ _ => False)) s
def XRaw (x C : Addr) : Heap → Prop := fun h => ∃ t, h.get? x = some { cls := .ref C, data := .fields #[.ref t, .none, .none, .none, .bool false, .none] }
def XDone (x C dx : Addr) : Heap → Prop := fun h => ∃ t, h.get? x = some { cls := .ref C, dict := some dx, data := .fields #[.ref t, .none, .none, .none, .bool false, .none] }
structure XIn (K : PySem.W.Frag) (C HE fI : Addr) (fl : Str) : Prop where
  cls : ∃ N nm q bs hd sn sub ab col dd k0 k1 k2 k3 k5, K.lookup C = some (excClassObj nm q C N bs (.ref HE :: veMro) hd sn sub ab col dd k0 k1 k2 k3 k5 "ValueError.__new__") ∧ PySem.W.nsOkIn K N = true ∧ PySem.W.nsIn K N "__init__" = some (some (.ref fI))
  he : PySem.W.excIn K HE veMro "ValueError.__new__" = true
  fn : PySem.W.typeIn K (.ref fI) = some (.type "function")
  sa : PySem.W.findIn K (.ref C) "__setattr__" = some (some (.builtin "object.__setattr__"))
  no : PySem.W.findIn K (.ref C) fl = some none
  dct : PySem.W.hasDictIn K C = true
  kp : PySem.W.keepIn K (.ref C) = true
def spI (C : Addr) (fl : Str) : Sp := fun vs H Q E => ∃ (x : Addr) (i : Int), vs = [.ref x, .int i] ∧ i.natAbs.log2 < 1920 ∧ H x = some (.ext (XRaw x C)) ∧ ∀ dx, H dx = none → dx ≠ x → Q .non (upd (upd H x (.ext (XDone x C dx))) dx (.xd [(fl, .int i)]))
def nopSc (y : Str) (sc : Scope) : Bool := (sc.kind == .function) && !sc.isCoroutine && !sc.isGenerator && sc.names.all (fun y => y.2 != .free) && (sc.names.lookup y == some .local) && y != ("__debug__" : Str) && y != ("__classdict__" : Str)
def NopAt (a c : Addr) (qn : Str) : Heap → Prop := fun h => ∃ (y : Str) (pa : Pos) (kk : Nat) (bp : Pos) (sc : Scope) (pm ctv : Value), nopSc y sc = true ∧ h.get? a = some (PySem.W.kla_obj "<lambda>" qn ⟨[], [⟨y, none, pa⟩], none, [], [], none, []⟩ (.Constant .none kk bp) sc [] pm c ctv)
def nopT (t : T) : Prop := t = .clo 0 [.clo 100 []] ∨ t = .clo 1 [] ∨ t = .clo 2 [.clo 101 []]
def KpOk (D : DP) (P : Program) (w : World) (K : PySem.W.Frag) (mg : Str → Option Value) (base : Heap) (k : Nat) : Prop :=
  ∀ (t : T) (φ α : List Addr) (H : Hp) (v : V), nopT t → Den D φ α H t v → ∃ a kk, v = .ref a ∧ kk ≤ k ∧ ∀ (A : Around) (outer : List Env) (s : Shared), Env0 P w K mg base A outer s H → PySem.W.FnAt a s.heap ∧ (Room kk A → ∀ (u : Value) (x : V) (Q : VK), RelV x u → Q .non H →
    codeAny (model P w) A (.call (.ref a) ⟨[u], []⟩) (CR (CX1 P w) outer P w H s Q (fun _ _ _ => False)) s)
def GlOkM (D : DP) (P : Program) (w : World) (K : PySem.W.Frag) (mg : Str → Option Value) (base : Heap) (k : Nat) (x : Str) : GM → Prop
  | .fn f => ∃ fa, mg x = some (.ref fa) ∧ FOk D P w K mg base k fa f
  | .fnh nm f => ∃ fa, mg nm = some (.ref fa) ∧ ∃ fd ps kk, PySem.W.keepIn K (.ref fa) = true ∧ Binds K fd ps [] ∧ kk ≤ k ∧ FnOkH P w K mg base kk fa fd ps (spN D ps.length f) ∧ ∀ ts μ K Z, f ts μ K Z → ts.length = ps.length
  | .met c nm f => ∃ C fI fd ps kk, D.cad c = some C ∧ Cls K C ∧ Meth K C nm fI ∧ (∀ i, D.fn i ≠ some nm) ∧ Binds K fd ps [] ∧ kk ≤ k ∧ FnOk P w K mg base (CX1 P w) kk fI fd ps (spN D ps.length f) ∧ ∀ ts μ K Z, f ts μ K Z → ts.length = ps.length
  | .mk c _ f => ∃ C fI fd ps kk, D.cad c = some C ∧ mg x = some (.ref C) ∧ Mk K C fI ∧ Binds K fd ps [] ∧ kk + 1 ≤ k ∧ FnOk P w K mg base (CX1 P w) kk fI fd ps (spN D ps.length f) ∧ ∀ ts μ K Z, f ts μ K Z → ts.length = ps.length
  | .cst t => ∃ u v, mg x = some u ∧ RelV v u ∧ ∀ φ α H, Den D φ α H t v
  | .xcl c => ∃ C, D.adr c = some C ∧ mg x = some (.ref C) ∧ PySem.W.excIn K C veMro "ValueError.__new__" = true
  | .xcf c _ => ∃ C, D.adr c = some C ∧ mg x = some (.ref C)
  | .xin c f nm fl => ∃ C HE fI fd ps kk, D.adr c = some C ∧ mg nm = some (.ref C) ∧ D.fn f = some fl ∧ XIn K C HE fI fl ∧ Binds K fd ps [] ∧ kk + 1 ≤ k ∧ FnOk P w K mg base (CX1 P w) kk fI fd ps (spI C fl)
  | .mkd c nm n f => ∃ C fI fd ps kk, D.cad c = some C ∧ mg nm = some (.ref C) ∧ Mk K C fI ∧ Binds K fd ps [.none] ∧ kk + 1 ≤ k ∧ FnOk P w K mg base (CX1 P w) kk fI fd ps (spN D ps.length f) ∧ (∀ ts μ K Z, f ts μ K Z → ts.length = ps.length) ∧ ps.length = n + 2
  | .metd c nm n d f => ∃ C fI fd ps kk du dv, D.cad c = some C ∧ Cls K C ∧ Meth K C nm fI ∧ (∀ i, D.fn i ≠ some nm) ∧ Binds K fd ps [du] ∧ RelV dv du ∧ (∀ φ α H, Den D φ α H d dv) ∧ kk ≤ k ∧ FnOk P w K mg base (CX1 P w) kk fI fd ps (spN D ps.length f) ∧ (∀ ts μ K Z, f ts μ K Z → ts.length = ps.length) ∧ ps.length = n + 2
  | .kpr => KpOk D P w K mg base k ∧ ∀ j P' pos qn, j < 2 → D.tabs j = some (P', pos, qn) → ∀ a c, D.clo (2 * j) a (some (.ext (NopAt a c qn))) [.ref c] ∧ D.clo (100 + j) c (some (.ext (CodeIs c qn))) []
  | .none => mg x = none
  | .bad => True
abbrev GlOk (D : DP) (X : Cx) (k : Nat) (x : Str) (g : GM) : Prop := GlOkM D X.prog X.w X.K X.mg X.base k x g
structure Cn where
  N : List Str
  G : List Str
  calm : Bool
  gl : Str → GM
  cls : List (Str × Nat)
  fld : List (Str × Nat)
  U : List Str
  cel : List Str
  own : List Str
  lam : Option (Nat × List Pos) := none
def Cn.look (Γ : Cn) (x : Str) : GM := if Γ.G.contains x then Γ.gl x else .bad
def LamOk (D : DP) (mg : Str → Option Value) (base : Heap) (code : Value) (qual : Str) (k : Nat) (l : Option (Nat × List Pos)) : Prop := ∀ j poss, l = some (j, poss) → 2 ≤ k ∧ ∃ c P, code = .ref c ∧ PySem.W.CodeHd base c P ∧ base.BuiltinsAt mg P ∧ D.tabs j = some (P, poss, qual ++ "<lambda>")
theorem LamOk.no {D : DP} {mg : Str → Option Value} {base : Heap} {code : Value} {qual : Str} {k : Nat} {l : Option (Nat × List Pos)} (h : l = none) : LamOk D mg base code qual k l := fun j pos e => by rw [h] at e; cases e
structure Ck (D : DP) (W : XW) (Γ : Cn) (X : Cx) (k : Nat) : Prop where
  hK : X.K = D.K
  hN : X.N = Γ.N
  nd : Γ.N.Nodup
  vis : ∀ x ∈ Γ.N, Vis X.env.scope x
  dbg : ∀ x ∈ Γ.N, (x == ("__debug__" : Str)) = false ∧ (x == ("__classdict__" : Str)) = false
  dbG : ∀ x ∈ Γ.G, (x == ("__debug__" : Str)) = false
  glb : ∀ x ∈ Γ.G, Gl X x
  glo : ∀ x ∈ Γ.G, GlOk D X k x (Γ.gl x)
  glU : ∀ x ∈ Γ.U, GlOk D X k x (Γ.gl x) ∧ (x == ("__debug__" : Str)) = false
  cel : ∀ x ∈ Γ.cel, X.env.kindOf x = some .cell ∨ X.env.kindOf x = some .free
  isi : ∀ t x c, (x, c) ∈ Γ.cls → ∀ u v, TyNm D t u → ClVal X x v → PySem.W.kitOne X.K u v = some (isinN t c)
  fld : ∀ c C x f, D.cad c = some C → (x, f) ∈ Γ.fld → D.fn f = some x ∧ Cls X.K C ∧ NoAttr X.K C x
  xcx : ∀ c C, D.adr c = some C → XCls X.K C
  ocx : ∀ c C, D.cad c = some C → OCls X.K C
  clv : ∀ x c, (x, c) ∈ Γ.cls → ∃ u v, ClVal X x u ∧ ClsV v u
  clm : Γ.calm = true → X.calm = true
  rom : Γ.calm = true → Room k X.A
  rmh : RoomH k X.A
  xe : ∀ e s, XP X W e s → X.xe e s
  frm : ∃ e0 out L, Frm X e0 out L
  lam : LamOk D X.mg X.base X.env.code X.env.qual k Γ.lam
theorem Ck.unt {D : DP} {W : XW} {Γ : Cn} {X : Cx} {k : Nat} (C : Ck D W Γ X k) : X.A.units + 64 < cLine := C.rmh.units
theorem idx_get : ∀ {N : List Str} {x : Str} {i : Nat}, idx N x = some i → N[i]? = some x
  | [], _, _, h => by simp [idx] at h
  | y :: r, x, i, h => by
    simp only [idx] at h
    split at h
    · rename_i e; cases h; simp [e]
    · cases q : idx r x with
      | none => rw [q] at h; cases h
      | some j => rw [q] at h; cases h; simpa using idx_get q
theorem idx_mem {N : List Str} {x : Str} {i : Nat} (h : idx N x = some i) : x ∈ N := List.mem_of_getElem? (idx_get h)
section
variable {X : Cx} {D : DP} {W : XW} {Γ : Cn} {k : Nat} {pins : List (Addr × Obj)} {s : Shared} {σ : St} {H : Hp} {φ α : List Addr} {τ : Sl} {μ : Mem} {f g h : De} {a b c : Expr} {pos : Pos}
theorem PE.mono {e : Expr} {t t' : TE} (h : PE X e t) (m : ∀ σ H Q, t' σ H Q → t σ H Q) : PE X e t' := fun pins s σ H Q I q => h pins s σ H Q I (m σ H Q q)
theorem se_int {i j pos} : PE X (.Constant (.int i) j pos) (rdE D W (eC (.int i))) := PE.mono pe_int fun σ H Q ⟨φ, α, τ, μ, sr, mr, p⟩ => Post.here p mr rfl
theorem se_bl {i j pos} : PE X (.Constant (.bool i) j pos) (rdE D W (eC (.bl i))) := PE.mono pe_bl fun σ H Q ⟨φ, α, τ, μ, sr, mr, p⟩ => Post.here p mr rfl
theorem se_non {j pos} : PE X (.Constant .none j pos) (rdE D W (eC .non)) := PE.mono pe_non fun σ H Q ⟨φ, α, τ, μ, sr, mr, p⟩ => Post.here p mr rfl
theorem se_str {i j pos} : PE X (.Constant (.str i) j pos) (rdE D W (eC (.str i))) := PE.mono pe_str fun σ H Q ⟨φ, α, τ, μ, sr, mr, p⟩ => Post.here p mr rfl
theorem se_var (C : Ck D W Γ X k) {x : Str} {i : Nat} (hi : idx Γ.N x = some i) : PE X (.Name x pos) (rdE D W (eV i)) := by
  refine PE.mono (pe_var (i := i) (by rw [C.hN]; exact idx_get hi) (C.vis x (idx_mem hi)) (C.dbg x (idx_mem hi)).1 (C.dbg x (idx_mem hi)).2) ?_
  rintro σ H Q ⟨φ, α, τ, μ, sr, mr, p⟩
  dsimp only [eV] at p
  split at p
  · rename_i t e
    obtain ⟨v, q, d⟩ := sr.get e
    exact ⟨v, q, p.here mr d⟩
  · exact p.elim
theorem se_cst (C : Ck D W Γ X k) {x : Str} {t : T} (hx : x ∈ Γ.G) (ht : Γ.gl x = .cst t) : PE X (.Name x pos) (rdE D W (eC t)) := by
  have g := C.glo x hx
  rw [ht] at g
  obtain ⟨u, v, hm, r, d⟩ := g
  exact PE.mono (pe_glob (C.glb x hx) hm r (C.dbG x hx)) fun σ H Q ⟨φ, α, τ, μ, sr, mr, p⟩ => Post.here p mr (d _ _ _)
theorem se_bin {op : Operator} (ha : PE X a (rdE D W f)) (hb : PE X b (rdE D W g)) : PE X (.BinOp a op b pos) (rdE D W (eBin op f g)) := by
  rintro pins s σ H Q I ⟨φ, α, τ, μ, sr, mr, p⟩
  refine wpAny_BinOp (thn (sub ha I sr mr p) ?_)
  rintro u s1 ⟨v, H1, t, μ1, α1, I1, r1, st1, sr1, mr1, d1, p1⟩
  refine thn (sub hb I1 sr1 mr1 p1) ?_
  rintro u' s2 ⟨v', H2, t', μ2, α2, I2, r2, st2, sr2, mr2, d2, p2⟩
  exact op_bin I2 mr2 (d1.step st2) d2 r1 r2 p2
theorem se_neg (ha : PE X a (rdE D W f)) : PE X (.UnaryOp .USub a pos) (rdE D W (eNeg f)) := by
  rintro pins s σ H Q I ⟨φ, α, τ, μ, sr, mr, p⟩
  refine UnaryOp_ (thn (sub ha I sr mr p) ?_)
  rintro u s1 ⟨v, H1, t, μ1, α1, I1, r1, st1, sr1, mr1, d1, p1⟩
  try dsimp only at p1
  split at p1
  · cases d1
    exact un_neg pins s1 σ H1 _ _ Q I1 r1 ⟨_, rfl, p1.here mr1 rfl⟩
  · exact p1.elim
theorem se_not (ha : PE X a (rdE D W f)) : PE X (.UnaryOp .Not a pos) (rdE D W (eNot f)) := by
  rintro pins s σ H Q I ⟨φ, α, τ, μ, sr, mr, p⟩
  refine UnaryOp_ (thn (sub ha I sr mr p) ?_)
  rintro u s1 ⟨v, H1, t, μ1, α1, I1, r1, st1, sr1, mr1, d1, p1⟩
  try dsimp only at p1
  split at p1
  · rename_i b
    cases d1
    cases r1
    exact not_of (wpAny_truthy_bool ⟨.bl (!b), H1, I1, rfl, p1.here mr1 rfl⟩)
  · exact p1.elim
theorem se_one {op : BoolOp} (ha : PE X a (rdE D W f)) : PE X (.BoolOp op [a] pos) (rdE D W f) := pe_one ha
theorem se_and {r : List Expr} (ha : PE X a (rdE D W f)) (hb : PE X (.BoolOp .And (b :: r) pos) (rdE D W g)) : PE X (.BoolOp .And (a :: b :: r) pos) (rdE D W (eAnd f g)) := by
  rintro pins s σ H Q I ⟨φ, α, τ, μ, sr, mr, p⟩
  refine BoolOp_and (thn (sub ha I sr mr p) ?_)
  rintro u s1 ⟨v, H1, t, μ1, α1, I1, r1, st1, sr1, mr1, d1, p1⟩
  try dsimp only at p1
  split at p1
  · cases d1
    cases r1
    rcases p1.br with ⟨rfl, p1⟩ | ⟨rfl, p1⟩
    · exact wpAny_truthy_bool (hb pins s1 σ H1 Q I1 ⟨φ, α1, τ, μ1, sr1, mr1, p1⟩)
    · exact wpAny_truthy_bool ⟨.bl false, H1, I1, rfl, p1.here mr1 rfl⟩
  · exact p1.elim
theorem se_or {r : List Expr} (ha : PE X a (rdE D W f)) (hb : PE X (.BoolOp .Or (b :: r) pos) (rdE D W g)) : PE X (.BoolOp .Or (a :: b :: r) pos) (rdE D W (eOr f g)) := by
  rintro pins s σ H Q I ⟨φ, α, τ, μ, sr, mr, p⟩
  refine BoolOp_or (thn (sub ha I sr mr p) ?_)
  rintro u s1 ⟨v, H1, t, μ1, α1, I1, r1, st1, sr1, mr1, d1, p1⟩
  try dsimp only at p1
  split at p1
  · cases d1
    cases r1
    rcases p1.br with ⟨rfl, p1⟩ | ⟨rfl, p1⟩
    · exact wpAny_truthy_bool ⟨.bl true, H1, I1, rfl, p1.here mr1 rfl⟩
    · exact wpAny_truthy_bool (hb pins s1 σ H1 Q I1 ⟨φ, α1, τ, μ1, sr1, mr1, p1⟩)
  · exact p1.elim
theorem scT_ok {x y : T} {v w : V} {b : Bool} (d1 : Den D φ α H x v) (d2 : Den D φ α H y w) (h : scT x y = some b) : scal v w = true ∧ decide (v = w) = b := by
  unfold scT at h
  split at h <;> first
    | (cases h; cases d1; cases d2; exact ⟨rfl, by simp⟩)
    | cases h
theorem op_isB : OpR X (compareOp .Is) (fun x y H Q => ∃ a b, x = .bl a ∧ y = .bl b ∧ Q (.bl (decide (a = b))) H) := by
  intro pins s σ H x y v u Q I rx ry h
  obtain ⟨a, b, rfl, rfl, q⟩ := h
  cases rx; cases ry
  refine wpAny_is_plain (by rfl) ⟨.bl (decide (a = b)), H, I, ?_, q⟩
  cases a <;> cases b <;> rfl
theorem op_isntB : OpR X (compareOp .IsNot) (fun x y H Q => ∃ a b, x = .bl a ∧ y = .bl b ∧ Q (.bl (!decide (a = b))) H) := by
  intro pins s σ H x y v u Q I rx ry h
  obtain ⟨a, b, rfl, rfl, q⟩ := h
  cases rx; cases ry
  refine wpAny_isNot_plain (by rfl) ⟨.bl (!decide (a = b)), H, I, ?_, q⟩
  cases a <;> cases b <;> rfl
theorem eqW_ok {b : Bool} {C : Prop} {x y : T} {v w : V} {kk : Bool → RE T} {Q : VK} (I : Inv X pins σ H s) (hu : X.A.units + 64 < cLine) (mr : MRel D φ α H μ) (d1 : Den D φ α H x v) (d2 : Den D φ α H y w) (p : Post D W φ α H σ (RV D φ Q) (eqW x y μ kk))
    (h1 : ∀ b, Post D W φ α H σ (RV D φ Q) (kk b) → scal v w = true ∧ decide (v = w) = b → C)
    (h2 : ∀ b, Post D W φ α H σ (RV D φ Q) (kk b) → ((∀ u1 u2, RelV v u1 → RelV w u2 → ∀ {R : Value → Shared → Prop}, R (.bool b) s → wpAny (model X.prog X.w) X.A (compareOp .Eq u1 u2) R X.xe s) ∧ (∀ u1 u2, RelV v u1 → RelV w u2 → ∀ {R : Value → Shared → Prop}, R (.bool (!b)) s → wpAny (model X.prog X.w) X.A (compareOp .NotEq u1 u2) R X.xe s)) → C) : C := by
  have lst : ∀ {xs ys : List T} {c d : Addr} {vs ws : List V}, v = .ref c → w = .ref d → Rd H c (.lst vs) → Rd H d (.lst ws) → DenL D φ α H xs vs → DenL D φ α H ys ws → Post D W φ α H σ (RV D φ Q) (RE.grd (depL xs ≤ 40) (.som (eqL xs ys) kk)) → C := fun {xs ys c d vs ws} e1 e2 r r' l l' p => by
    obtain ⟨hd, p⟩ := p.grd
    obtain ⟨b, hb, p⟩ := p.som
    subst e1 e2
    exact h2 b p ⟨fun u1 u2 r1 r2 R q => by cases r1; cases r2; exact rcAt_lst I l l' r r' hb (by omega) _ _ _ _ q, fun u1 u2 r1 r2 R q => by cases r1; cases r2; exact rcNe_lst I l l' r r' hb (by omega) _ _ _ _ q⟩
  unfold eqW at p
  split at p
  · obtain ⟨hd, p⟩ := p.grd
    obtain ⟨b, hb, p⟩ := p.som
    obtain ⟨c, vs, rfl, _, _, r, l⟩ := d1
    obtain ⟨d, ws, rfl, _, _, r', l'⟩ := d2
    exact h2 b p ⟨fun u1 u2 r1 r2 R q => by cases r1; cases r2; exact rcAt_tup I l l' r r' hb (by omega) _ _ _ _ q, fun u1 u2 r1 r2 R q => by cases r1; cases r2; exact rcNe_tup I l l' r r' hb (by omega) _ _ _ _ q⟩
  · obtain ⟨c, vs, e1, _, _, r, l⟩ := d1
    obtain ⟨d, ws, e2, _, _, r', l'⟩ := d2
    exact lst e1 e2 r r' l l' p
  · obtain ⟨xs, hi, p⟩ := p.ex1
    obtain ⟨c, hc, e1⟩ := d1
    obtain ⟨vs, q, l⟩ := mr.ob _ c _ hc hi
    obtain ⟨d, ws, e2, _, _, r', l'⟩ := d2
    exact lst e1 e2 (.inl q) r' l l' p
  · obtain ⟨ys, hi, p⟩ := p.ex1
    obtain ⟨c, hc, e2⟩ := d2
    obtain ⟨vs, q, l⟩ := mr.ob _ c _ hc hi
    obtain ⟨d, ws, e1, _, _, r', l'⟩ := d1
    exact lst e1 e2 r' (.inl q) l' l p
  · obtain ⟨z, hi, p⟩ := p.ex1
    obtain ⟨c, hc, e1⟩ := d1
    obtain ⟨vs, q, l⟩ := mr.ob _ c _ hc hi.1
    obtain ⟨d, hd, e2⟩ := d2
    obtain ⟨ws, q', l'⟩ := mr.ob _ d _ hd hi.2
    exact lst e1 e2 (.inl q) (.inl q') l l' p
  · split at p
    · rename_i hb
      exact h1 _ p (scT_ok d1 d2 hb)
    · exact p.elim
theorem op_cmp {op : CmpOp} {x y : T} {v w : V} {u1 u2 : Value} {Q : VK} (I : Inv X pins σ H s) (hu : X.A.units + 64 < cLine) (mr : MRel D φ α H μ) (d1 : Den D φ α H x v) (d2 : Den D φ α H y w) (r1 : RelV v u1) (r2 : RelV w u2)
    (p : Post D W φ α H σ (RV D φ Q) (cmpT op x y μ)) : wpAny (model X.prog X.w) X.A (compareOp op u1 u2) (EP X pins σ Q) X.xe s := by
  unfold cmpT at p
  split at p
  · refine eqW_ok (b := true) I hu mr d1 d2 p (fun b q h => ?_) (fun b q h => ?_)
    · obtain ⟨s1, s2⟩ := h
      exact op_eq pins s σ H v w u1 u2 Q I r1 r2 ⟨s1, by rw [s2]; exact Post.here q mr rfl⟩
    · exact h.1 _ _ r1 r2 ⟨.bl b, H, I, rfl, Post.here q mr rfl⟩
  · refine eqW_ok (b := false) I hu mr d1 d2 p (fun b q h => ?_) (fun b q h => ?_)
    · obtain ⟨s1, s2⟩ := h
      exact op_ne pins s σ H v w u1 u2 Q I r1 r2 ⟨s1, by rw [s2]; exact Post.here q mr rfl⟩
    · exact h.2 _ _ r1 r2 ⟨.bl (!b), H, I, rfl, Post.here q mr rfl⟩
  · unfold ltW at p
    split at p
    · cases d1; cases d2
      exact op_lt pins s σ H _ _ u1 u2 Q I r1 r2 ⟨_, _, rfl, rfl, Post.here p mr rfl⟩
    · obtain ⟨ns, h1, p⟩ := p.som
      obtain ⟨ms, h2, p⟩ := p.som
      obtain ⟨a, vs, rfl, _, _, q1, l1⟩ := d1
      obtain ⟨c, ws, rfl, _, _, q2, l2⟩ := d2
      rw [intsOf_den h1 l1] at q1
      rw [intsOf_den h2 l2] at q2
      exact op_ltT (by omega) pins s σ H _ _ u1 u2 Q I r1 r2 ⟨a, c, ns, ms, rfl, rfl, .inl q1, .inl q2, Post.here p mr rfl⟩
    · have d1 : v = .str _ := d1
      have d2 : w = .str _ := d2
      subst d1 d2
      obtain ⟨t1, rfl⟩ := r1
      obtain ⟨t2, rfl⟩ := r2
      exact PySem.P.lt_str ⟨.bl _, H, I, rfl, Post.here p mr rfl⟩
    · exact p.elim
  · split at p
    · cases d1; cases d2
      exact op_le pins s σ H _ _ u1 u2 Q I r1 r2 ⟨_, _, rfl, rfl, p.here mr rfl⟩
    · exact p.elim
  · split at p
    · cases d1; cases d2
      exact op_gt pins s σ H _ _ u1 u2 Q I r1 r2 ⟨_, _, rfl, rfl, p.here mr rfl⟩
    · exact p.elim
  · split at p
    · cases d1; cases d2
      exact op_ge pins s σ H _ _ u1 u2 Q I r1 r2 ⟨_, _, rfl, rfl, p.here mr rfl⟩
    · exact p.elim
  · split at p
    · cases d2
      refine op_isN pins s σ H _ _ u1 u2 Q I r1 r2 ⟨rfl, ?_⟩
      have q := p.here mr rfl
      cases x <;> first
        | (have d1 : v = _ := d1; subst d1; simpa using q)
        | (obtain ⟨_, _, rfl, _⟩ := d1; simpa using q)
        | (obtain ⟨_, _, _, _, rfl, _⟩ := d1; simpa using q)
        | (obtain ⟨_, _, rfl⟩ := d1; simpa using q)
        | (obtain ⟨_, _, _, rfl, _⟩ := d1; simpa using q)
    · split at p
      · have d1 : v = .bl _ := d1
        have d2 : w = .bl _ := d2
        subst d1 d2
        exact op_isB pins s σ H _ _ u1 u2 Q I r1 r2 ⟨_, _, rfl, rfl, p.here mr rfl⟩
      · exact p.elim
    · exact p.elim
  · split at p
    · cases d2
      refine op_notN pins s σ H _ _ u1 u2 Q I r1 r2 ⟨rfl, ?_⟩
      have q := p.here mr rfl
      cases x <;> first
        | (have d1 : v = _ := d1; subst d1; simpa using q)
        | (obtain ⟨_, _, rfl, _⟩ := d1; simpa using q)
        | (obtain ⟨_, _, _, _, rfl, _⟩ := d1; simpa using q)
        | (obtain ⟨_, _, rfl⟩ := d1; simpa using q)
        | (obtain ⟨_, _, _, rfl, _⟩ := d1; simpa using q)
    · split at p
      · have d1 : v = .bl _ := d1
        have d2 : w = .bl _ := d2
        subst d1 d2
        exact op_isntB pins s σ H _ _ u1 u2 Q I r1 r2 ⟨_, _, rfl, rfl, p.here mr rfl⟩
      · exact p.elim
    · exact p.elim
  · split at p
    · have d1 : v = .str _ := d1
      have d2 : w = .str _ := d2
      subst d1 d2
      exact op_in_str pins s σ H _ _ u1 u2 Q I r1 r2 ⟨_, _, rfl, rfl, p.here mr rfl⟩
    · exact p.elim
  · split at p
    · have d1 : v = .str _ := d1
      have d2 : w = .str _ := d2
      subst d1 d2
      exact op_notin_str pins s σ H _ _ u1 u2 Q I r1 r2 ⟨_, _, rfl, rfl, p.here mr rfl⟩
    · exact p.elim
def plainIx : Expr → Bool
  | .Name _ _ => true
  | .Constant _ _ _ => true
  | .BinOp _ _ _ _ => true
  | .UnaryOp _ _ _ => true
  | .Call _ _ _ _ => true
  | .Subscript _ _ _ => true
  | .Attribute _ _ _ => true
  | _ => false
def plainIn : Expr → Bool
  | .Set _ _ _ => false
  | _ => true
def plainCmp : CmpOp → Bool
  | .In => false | .NotIn => false
  | _ => true
def okCmp (op : CmpOp) (b : Expr) : Bool := plainCmp op || plainIn b
def bySize : CmpOp → Bool
  | .Lt => true | .LtE => true | .Gt => true | .GtE => true | .Eq => true | .NotEq => true
  | _ => false
theorem mark_of {op : CmpOp} {b : Expr} (h : okCmp op b = true) : behindInMarks op b = false := by
  cases hp : plainCmp op with
  | true => exact nomark b (by rintro rfl; simp [plainCmp] at hp) (by rintro rfl; simp [plainCmp] at hp)
  | false =>
    have hb : plainIn b = true := by unfold okCmp at h; rw [hp] at h; exact h
    cases b <;> first | rfl | (simp [plainIn] at hb)
theorem se_cmp (C : Ck D W Γ X k) {op : CmpOp} (ho : okCmp op b = true) (ha : PE X a (rdE D W f)) (hb : PE X b (rdE D W g)) : PE X (.Compare a [op] [b] pos) (rdE D W (eCmp op f g)) := by
  rintro pins s σ H Q I ⟨φ, α, τ, μ, sr, mr, p⟩
  refine wpAny_Compare1 (thn (sub ha I sr mr p) ?_) (mark_of ho)
  rintro u s1 ⟨v, H1, t, μ1, α1, I1, r1, st1, sr1, mr1, d1, p1⟩
  refine thn (sub hb I1 sr1 mr1 p1) ?_
  rintro u' s2 ⟨v', H2, t', μ2, α2, I2, r2, st2, sr2, mr2, d2, p2⟩
  exact op_cmp I2 C.unt mr2 (d1.step st2) d2 r1 r2 p2
theorem op_cmp' {op : CmpOp} {β : Type} {R : β → Mem → List Addr → Hp → Prop} {kk : T → Mem → RE β} {x y : T} {v w : V} {u1 u2 : Value} (I : Inv X pins σ H s) (hu : X.A.units + 64 < cLine) (mr : MRel D φ α H μ) (d1 : Den D φ α H x v) (d2 : Den D φ α H y w) (r1 : RelV v u1) (r2 : RelV w u2)
    (p : Post D W φ α H σ R ((cmpT op x y μ).bind kk)) : wpAny (model X.prog X.w) X.A (compareOp op u1 u2) (EP X pins σ fun z H1 => ∃ t μ1 α1, Stp α H α1 H1 ∧ MRel D φ α1 H1 μ1 ∧ Den D φ α1 H1 t z ∧ Post D W φ α1 H1 σ R (kk t μ1)) X.xe s :=
  op_cmp I hu mr d1 d2 r1 r2 (p.bind.mono fun t μ' α' H' st m q v d => ⟨t, μ', α', st, m, d, q⟩)
theorem lastMarks_of : ∀ {ops : List CmpOp} {es : List Expr}, ops.all bySize = true → lastMarks ops es = false
  | [], es, _ => by cases es <;> rfl
  | [op], [], _ => rfl
  | [op], [e], h => nomark e (by rintro rfl; simp [bySize] at h) (by rintro rfl; simp [bySize] at h)
  | [op], _ :: _ :: _, _ => rfl
  | op :: op' :: ops, [], _ => rfl
  | op :: op' :: ops, e :: es, h => by
    have : lastMarks (op' :: ops) es = false := lastMarks_of (by simp only [List.all_cons, Bool.and_eq_true] at h ⊢; exact h.2)
    cases es with
    | nil => cases ops <;> rfl
    | cons e' es => exact this
def ChOk (X : Cx) (D : DP) (W : XW) : List Expr → List (CmpOp × De) → Prop
  | [], [] => True
  | e :: es, p :: ps => PE X e (rdE D W p.2) ∧ ChOk X D W es ps
  | _, _ => False
theorem chain_go (hu : X.A.units + 64 < cLine) {Q : VK} : ∀ {ps : List (CmpOp × De)} {es : List Expr} {s : Shared} {H : Hp} {α : List Addr} {μ : Mem} {x : T} {v : V} {u : Value}, ChOk X D W es ps → Inv X pins σ H s → SRel D φ α H τ σ → MRel D φ α H μ → Den D φ α H x v → RelV v u → Post D W φ α H σ (RV D φ Q) (eChn ps x τ μ) →
    wpAny (model X.prog X.w) X.A (compareChain pos u (ps.map (·.1)) (evalEach es X.env)) (EP X pins σ Q) X.xe s
  | [], _, _, _, _, _, _, _, _, _, _, _, _, _, _, p => p.elim
  | [(op, g)], [], _, _, _, _, _, _, _, h, _, _, _, _, _, _ => h.elim
  | [(op, g)], [e], s, H, α, μ, x, v, u, h, I, sr, mr, d, r, p => by
    refine chain_last (thn (sub h.1 I sr mr p) ?_)
    rintro u' s2 ⟨v', H2, t', μ2, α2, I2, r2, st2, sr2, mr2, d2, p2⟩
    exact op_cmp I2 hu mr2 (d.step st2) d2 r r2 p2
  | [(op, g)], _ :: _ :: _, _, _, _, _, _, _, _, h, _, _, _, _, _, _ => h.2.elim
  | (op, g) :: p' :: ps, [], _, _, _, _, _, _, _, h, _, _, _, _, _, _ => h.elim
  | (op, g) :: p' :: ps, [e], _, _, _, _, _, _, _, h, _, _, _, _, _, _ => h.2.elim
  | (op, g) :: (op', g') :: ps, e :: e' :: es, s, H, α, μ, x, v, u, h, I, sr, mr, d, r, p => by
    refine chain_link (thn (sub h.1 I sr mr p) ?_)
    rintro u' s2 ⟨v', H2, t', μ2, α2, I2, r2, st2, sr2, mr2, d2, p2⟩
    refine thn (op_cmp' I2 hu mr2 (d.step st2) d2 r r2 p2) ?_
    rintro dd s3 ⟨z, H3, I3, r3, t3, μ3, α3, st3, mr3, d3, p3⟩
    try dsimp only at p3
    split at p3
    · cases d3
      cases r3
      rcases p3.br with ⟨rfl, p3⟩ | ⟨rfl, p3⟩
      · exact wpAny_truthy_bool (ite_tt (chain_go hu (ps := (op', g') :: ps) (es := e' :: es) h.2 I3 (sr2.step st3) mr3 (d2.step st3) r2 p3))
      · exact wpAny_truthy_bool (ite_ff ⟨.bl false, H3, I3, rfl, p3.here mr3 rfl⟩)
    · exact p3.elim
theorem se_chain (C : Ck D W Γ X k) {e1 e2 : Expr} {es : List Expr} {p1 p2 : CmpOp × De} {ps : List (CmpOp × De)} (ho : (p1 :: p2 :: ps).all (fun p => bySize p.1) = true) (ha : PE X a (rdE D W f)) (h : ChOk X D W (e1 :: e2 :: es) (p1 :: p2 :: ps)) : PE X (.Compare a (p1.1 :: p2.1 :: ps.map (·.1)) (e1 :: e2 :: es) pos) (rdE D W (eCh f (p1 :: p2 :: ps))) := by
  rintro pins s σ H Q I ⟨φ, α, τ, μ, sr, mr, p⟩
  refine Compare_chain (thn (sub ha I sr mr p) ?_) (lastMarks_of (by simpa [List.all_map, Function.comp_def] using ho))
  rintro u s1 ⟨v, H1, t, μ1, α1, I1, r1, st1, sr1, mr1, d1, p1⟩
  exact chain_go C.unt h I1 sr1 mr1 d1 r1 p1
theorem test_go (hu : X.A.units + 64 < cLine) {β : Type} {R : β → Mem → List Addr → Hp → Prop} {kk : Bool → Mem → RE β} : ∀ {ps : List (CmpOp × De)} {es : List Expr} {s : Shared} {H : Hp} {α : List Addr} {μ : Mem} {x : T} {v : V} {u : Value} {Q : Bool → Hp → Prop}, ChOk X D W es ps → Inv X pins σ H s → SRel D φ α H τ σ → MRel D φ α H μ → Den D φ α H x v → RelV v u → Post D W φ α H σ (fun b _ _ H' => Q b H') ((eChn ps x τ μ).bind truT) →
    wpAny (model X.prog X.w) X.A (testChain pos u (ps.map (·.1)) (evalEach es X.env)) (TP X pins σ Q) X.xe s
  | [], _, _, _, _, _, _, _, _, _, _, _, _, _, _, _, p => Post.elim p
  | [(op, g)], [], _, _, _, _, _, _, _, _, h, _, _, _, _, _, _ => h.elim
  | [(op, g)], [e], s, H, α, μ, x, v, u, Q, h, I, sr, mr, d, r, p => by
    have p : Post D W φ α H σ (fun b _ _ H' => Q b H') ((g τ μ).bind fun y μ1 => (cmpT op x y μ1).bind truT) := p
    refine test_last (thn (sub h.1 I sr mr p) ?_)
    rintro u' s2 ⟨v', H2, t', μ2, α2, I2, r2, st2, sr2, mr2, d2, p2⟩
    refine thn (op_cmp' I2 hu mr2 (d.step st2) d2 r r2 p2) ?_
    rintro dd s3 ⟨z, H3, I3, r3, t3, μ3, α3, st3, mr3, d3, p3⟩
    unfold truT at p3
    split at p3
    · cases d3
      cases r3
      exact wpAny_truthy_bool ⟨H3, I3, p3.ok (Stp.refl _ _) mr3⟩
    · exact p3.elim
  | [(op, g)], _ :: _ :: _, _, _, _, _, _, _, _, _, h, _, _, _, _, _, _ => h.2.elim
  | (op, g) :: p' :: ps, [], _, _, _, _, _, _, _, _, h, _, _, _, _, _, _ => h.elim
  | (op, g) :: p' :: ps, [e], _, _, _, _, _, _, _, _, h, _, _, _, _, _, _ => h.2.elim
  | (op, g) :: (op', g') :: ps, e :: e' :: es, s, H, α, μ, x, v, u, Q, h, I, sr, mr, d, r, p => by
    have p : Post D W φ α H σ (fun b _ _ H' => Q b H') ((g τ μ).bind fun y μ1 => (cmpT op x y μ1).bind fun k μ2 => (match k with | .bl b => RE.br b (eChn ((op', g') :: ps) y τ μ2) (.ok (.bl false) μ2) | _ => RE.st : RE T).bind truT) := p
    refine test_link (thn (sub h.1 I sr mr p) ?_)
    rintro u' s2 ⟨v', H2, t', μ2, α2, I2, r2, st2, sr2, mr2, d2, p2⟩
    refine thn (op_cmp' I2 hu mr2 (d.step st2) d2 r r2 p2) ?_
    rintro dd s3 ⟨z, H3, I3, r3, t3, μ3, α3, st3, mr3, d3, p3⟩
    try dsimp only at p3
    split at p3
    · rename_i bb
      cases d3
      cases r3
      cases bb with
      | true => exact wpAny_truthy_bool (ite_tt (test_go hu (kk := kk) (R := R) (ps := (op', g') :: ps) (es := e' :: es) h.2 I3 (sr2.step st3) mr3 (d2.step st3) r2 p3))
      | false =>
        have p3 : Post D W φ α3 H3 σ (fun b _ _ H' => Q b H') (RE.ok false μ3) := p3
        exact wpAny_truthy_bool (ite_ff ⟨H3, I3, p3.ok (Stp.refl _ _) mr3⟩)
    · have p3 : Post D W φ α3 H3 σ (fun b _ _ H' => Q b H') RE.st := p3
      exact p3.elim
end
end NH
end
section
set_option linter.all false
set_option maxRecDepth 100000
set_option maxHeartbeats 4000000
namespace NH
open PySem PySem.Spec PyProof.Rows L2
section
variable {X : Cx} {D : DP} {W : XW} {Γ : Cn} {k : Nat} {pins : List (Addr × Obj)} {s : Shared} {σ : St} {H : Hp} {φ α : List Addr} {τ : Sl} {μ : Mem} {f g h : De} {ft gt : Dt} {a b c : Expr} {pos : Pos}
theorem stest (ha : PE X a (rdE D W f)) (he : ∀ whole, isTrue a X.env whole = (do let v ← whole; standAt a.pos; holding [v] (truthy v))) : PT X a (rdT D W (tE f)) := by
  rintro pins s σ H Q I ⟨φ, α, τ, μ, sr, mr, p⟩
  rw [he]
  refine wpAny_bind (thn (sub ha I sr mr p) ?_)
  rintro u s1 ⟨v, H1, t, μ1, α1, I1, r1, st1, sr1, mr1, d1, p1⟩
  unfold truT at p1
  split at p1
  · cases d1
    cases r1
    exact wpAny_bind (wpAny_standAt (wpAny_holding (wpAny_truthy_bool ⟨H1, I1, p1.ok (Stp.refl _ _) mr1⟩)))
  · exact p1.elim
theorem stest_cmp1 (C : Ck D W Γ X k) {op : CmpOp} (ho : okCmp op b = true) (ha : PE X a (rdE D W f)) (hb : PE X b (rdE D W g)) : PT X (.Compare a [op] [b] pos) (rdT D W (tE (eCmp op f g))) := by
  rintro pins s σ H Q I ⟨φ, α, τ, μ, sr, mr, p⟩
  have p : Post D W φ α H σ (fun b _ _ H' => Q b H') ((f τ μ).bind fun x μ1 => (g τ μ1).bind fun y μ2 => (cmpT op x y μ2).bind truT) := p
  refine wpAny_isTrue_Compare1 (thn (sub ha I sr mr p) ?_) (mark_of ho)
  rintro u s1 ⟨v, H1, t, μ1, α1, I1, r1, st1, sr1, mr1, d1, p1⟩
  refine thn (sub hb I1 sr1 mr1 p1) ?_
  rintro u' s2 ⟨v', H2, t', μ2, α2, I2, r2, st2, sr2, mr2, d2, p2⟩
  refine thn (op_cmp' I2 C.unt mr2 (d1.step st2) d2 r1 r2 p2) ?_
  rintro d s3 ⟨z, H3, I3, r3, t3, μ3, α3, st3, mr3, d3, p3⟩
  unfold truT at p3
  split at p3
  · cases d3
    cases r3
    exact wpAny_truthy_bool ⟨H3, I3, p3.ok (Stp.refl _ _) mr3⟩
  · exact p3.elim
theorem stest_chain (C : Ck D W Γ X k) {e1 e2 : Expr} {es : List Expr} {p1 p2 : CmpOp × De} {ps : List (CmpOp × De)} (ho : (p1 :: p2 :: ps).all (fun p => bySize p.1) = true) (ha : PE X a (rdE D W f)) (h : ChOk X D W (e1 :: e2 :: es) (p1 :: p2 :: ps)) : PT X (.Compare a (p1.1 :: p2.1 :: ps.map (·.1)) (e1 :: e2 :: es) pos) (rdT D W (tE (eCh f (p1 :: p2 :: ps)))) := by
  rintro pins s σ H Q I ⟨φ, α, τ, μ, sr, mr, p⟩
  have p : Post D W φ α H σ (fun b _ _ H' => Q b H') ((f τ μ).bind fun x μ1 => (eChn (p1 :: p2 :: ps) x τ μ1).bind truT) := p
  refine isTrue_chain (thn (sub ha I sr mr p) ?_) (lastMarks_of (by simpa [List.all_map, Function.comp_def] using ho))
  rintro u s1 ⟨v, H1, t, μ1, α1, I1, r1, st1, sr1, mr1, d1, p1⟩
  exact test_go (kk := fun _ _ => RE.st (β := Bool)) (R := fun _ _ _ _ => True) C.unt h I1 sr1 mr1 d1 r1 p1
theorem st_and {r : List Expr} (ha : PT X a (rdT D W ft)) (hb : PW X (.BoolOp .And (b :: r) pos) (rdT D W gt)) : PW X (.BoolOp .And (a :: b :: r) pos) (rdT D W (tAnd ft gt)) := by
  intro whole pins s σ H Q I hq
  refine pw_and ha hb whole pins s σ H Q I ?_
  obtain ⟨φ, α, τ, μ, sr, mr, p⟩ := hq
  refine ⟨φ, α, τ, μ, sr, mr, p.bind.mono fun c μ' α' H' st m q => ?_⟩
  rcases q.br with ⟨rfl, q⟩ | ⟨rfl, q⟩
  · exact ⟨φ, α', τ, μ', sr.step st, m, q⟩
  · exact q.ok (Stp.refl _ _) m
theorem st_or {r : List Expr} (ha : PT X a (rdT D W ft)) (hb : PW X (.BoolOp .Or (b :: r) pos) (rdT D W gt)) : PW X (.BoolOp .Or (a :: b :: r) pos) (rdT D W (tOr ft gt)) := by
  intro whole pins s σ H Q I hq
  refine pw_or ha hb whole pins s σ H Q I ?_
  obtain ⟨φ, α, τ, μ, sr, mr, p⟩ := hq
  refine ⟨φ, α, τ, μ, sr, mr, p.bind.mono fun c μ' α' H' st m q => ?_⟩
  rcases q.br with ⟨rfl, q⟩ | ⟨rfl, q⟩
  · exact q.ok (Stp.refl _ _) m
  · exact ⟨φ, α', τ, μ', sr.step st, m, q⟩
theorem st_not (ha : PT X a (rdT D W ft)) : PT X (.UnaryOp .Not a pos) (rdT D W (tNot ft)) := by
  intro pins s σ H Q I hq
  refine pt_not ha pins s σ H Q I ?_
  obtain ⟨φ, α, τ, μ, sr, mr, p⟩ := hq
  exact ⟨φ, α, τ, μ, sr, mr, p.bind.mono fun c μ' α' H' st m q => q.ok (Stp.refl _ _) m⟩
def plainOb : Expr → Bool
  | .Name _ _ => true
  | .Attribute _ _ _ => true
  | .Subscript _ _ _ => true
  | .Call (.Name x _) _ _ _ => x != ("super" : Str)
  | .Call (.Attribute _ _ _) _ _ _ => true
  | _ => false
theorem Post.ex3 {β δ1 δ2 δ3 : Type} {R : β → Mem → List Addr → Hp → Prop} {P : δ1 → δ2 → Prop} {P2 : δ1 → δ2 → δ3 → Prop} {r : δ1 → δ2 → δ3 → RE β} (p : Post D W φ α H σ R (fun K Z => ∃ x y z, P x y ∧ P2 x y z ∧ r x y z K Z)) : ∃ x y z, P x y ∧ P2 x y z ∧ Post D W φ α H σ R (r x y z) := by
  obtain ⟨K, Z, ⟨x, y, z, h1, h2, q⟩, h⟩ := p
  exact ⟨x, y, z, h1, h2, K, Z, q, h⟩
theorem Post.ex2 {β δ1 δ2 : Type} {R : β → Mem → List Addr → Hp → Prop} {P : δ1 → Prop} {P2 : δ1 → δ2 → Prop} {r : δ1 → δ2 → RE β} (p : Post D W φ α H σ R (fun K Z => ∃ x y, P x ∧ P2 x y ∧ r x y K Z)) : ∃ x y, P x ∧ P2 x y ∧ Post D W φ α H σ R (r x y) := by
  obtain ⟨K, Z, ⟨x, y, h1, h2, q⟩, h⟩ := p
  exact ⟨x, y, h1, h2, K, Z, q, h⟩
theorem plainIx_of {b : Expr} (h : plainIx b = true) : PlainIx b := by
  intro o i
  cases b <;> first | (simp [plainIx] at h; done) | rfl
theorem ixAt_get {D : DP} {ts : List T} {xs : List V} {i : Int} {t : T} (l : DenL D φ α H ts xs) (h : ixAt ts i = some t) : ∃ v, atI xs i = some v ∧ Den D φ α H t v := by
  unfold ixAt at h
  have e : ixN xs.length i = ixNo ts.length i := by rw [l.length]; rfl
  unfold atI
  rw [e]
  cases q : ixNo ts.length i with
  | none => rw [q] at h; cases h
  | some j =>
    rw [q] at h
    exact l.get h
theorem se_ix (hb' : plainIx b = true) (hK : X.K = D.K) (ha : PE X a (rdE D W f)) (hb : PE X b (rdE D W g)) : PE X (.Subscript a b pos) (rdE D W (eIx f g)) := by
  rintro pins s σ H Q I ⟨φ, α, τ, μ, sr, mr, p⟩
  refine Subscript_ (thn (sub ha I sr mr p) ?_)
  rintro u s1 ⟨v, H1, t, μ1, α1, I1, r1, st1, sr1, mr1, d1, p1⟩
  refine thn (sub hb I1 sr1 mr1 p1) ?_
  rintro u' s2 ⟨v', H2, t', μ2, α2, I2, r2, st2, sr2, mr2, d2, p2⟩
  have d1 := d1.step st2
  unfold itemT at p2
  split at p2
  · cases d2
    split at p2
    · obtain ⟨w, hw, p2⟩ := p2.som
      obtain ⟨ad, xs, rfl, _, _, r, l⟩ := d1
      obtain ⟨z, hz, dz⟩ := ixAt_get l hw
      exact ix_list a b pins s2 σ H2 _ _ _ _ Q I2 r1 r2 ⟨ad, xs, _, z, rfl, rfl, .inl r, hz, p2.here mr2 dz⟩ (plainIx_of hb' _ _)
    · obtain ⟨w, hw, p2⟩ := p2.som
      obtain ⟨ad, xs, rfl, _, _, r, l⟩ := d1
      obtain ⟨z, hz, dz⟩ := ixAt_get l hw
      exact ix_tup a b pins s2 σ H2 _ _ _ _ Q I2 r1 r2 ⟨ad, xs, _, z, rfl, rfl, .inl r, hz, p2.here mr2 dz⟩ (plainIx_of hb' _ _)
    · obtain ⟨ts, w, hj, hw, p2⟩ := p2.ex2
      obtain ⟨ad, hi', rfl⟩ := d1
      obtain ⟨xs, e2, l⟩ := mr2.ob _ ad _ hi' hj
      obtain ⟨z, hz, dz⟩ := ixAt_get l hw
      exact ix_list a b pins s2 σ H2 _ _ _ _ Q I2 r1 r2 ⟨ad, xs, _, z, rfl, rfl, .inl (.inl e2), hz, Post.here p2 mr2 dz⟩ (plainIx_of hb' _ _)
    · obtain ⟨hl, p2⟩ := p2.grd
      obtain ⟨c, hc, p2⟩ := p2.som
      have d1 : v = .str _ := d1
      subst d1
      exact ix_str a b pins s2 σ H2 _ _ _ _ Q I2 r1 r2 ⟨_, _, c, rfl, rfl, room_line hl, hc, p2.here mr2 rfl⟩ (plainIx_of hb' _ _)
    · exact p2.elim
  · exact p2.elim
def noStar : Expr → Bool
  | .Starred _ _ => false
  | _ => true
theorem noStar_of {e : Expr} {es : List Expr} {env : Env} (h : noStar e = true) : starEach (e :: es) env = (false, eval e env) :: starEach es env := by
  cases e <;> first | (simp [noStar] at h; done) | rfl
theorem noStars {es : List Expr} {env : Env} {pos : Pos} (h : es.all noStar = true) : (backTo pos (starEach es env)).any (·.1) = false := by
  induction es with
  | nil => rfl
  | cons e es ih =>
    simp only [List.all_cons, Bool.and_eq_true] at h
    rw [noStar_of h.1]
    have := ih h.2
    first
      | (simp [backTo] at this ⊢; exact this)
      | (simpa [backTo] using this)
theorem sa_nil : PA X [] (rdA D W 0 (evs [])) := by
  rintro pos pins s σ H Q I ⟨φ, α, τ, μ, sr, mr, p⟩
  exact pa_nil pos pins s σ H Q I (Post.ok p (Stp.refl _ _) mr [] rfl rfl)
theorem sa_cons {e : Expr} {es : List Expr} {fs : List De} {n : Nat} (hs : noStar e = true) (ha : PE X e (rdE D W f)) (hr : PA X es (rdA D W n (evs fs))) : PA X (e :: es) (rdA D W (n + 1) (evs (f :: fs))) := by
  intro pos pins s σ H Q I hq
  refine pa_cons ha hr (noStar_of hs) pos pins s σ H Q I ?_
  obtain ⟨φ, α, τ, μ, sr, mr, p⟩ := hq
  have p : Post D W φ α H σ _ ((f τ μ).bind fun t μ1 => (evs fs τ μ1).bind fun ts μ2 => .ok (t :: ts) μ2) := p
  refine ⟨φ, α, τ, μ, sr, mr, p.bind.mono fun t μ1 α1 H1 st m q v d => ?_⟩
  refine ⟨φ, α1, τ, μ1, sr.step st, m, q.bind.mono fun ts μ2 α2 H2 st2 m2 q2 vs dl hn => ?_⟩
  exact q2.ok (Stp.refl _ _) m2 _ ⟨v, vs, rfl, d.step st2, dl⟩ (by simp [hn])
def EsOk (X : Cx) (D : DP) (W : XW) : List Expr → List De → Prop
  | [], [] => True
  | e :: es, f :: fs => noStar e = true ∧ PE X e (rdE D W f) ∧ EsOk X D W es fs
  | _, _ => False
theorem sa_all : ∀ {es : List Expr} {fs : List De}, EsOk X D W es fs → PA X es (rdA D W es.length (evs fs))
  | [], [], _ => sa_nil
  | e :: es, f :: fs, h => sa_cons h.1 h.2.1 (sa_all h.2.2)
  | [], _ :: _, h => h.elim
  | _ :: _, [], h => h.elim
theorem EsOk.stars : ∀ {es : List Expr} {fs : List De}, EsOk X D W es fs → es.all noStar = true
  | [], [], _ => rfl
  | e :: es, f :: fs, h => by simp [h.1, EsOk.stars h.2.2]
  | [], _ :: _, h => h.elim
  | _ :: _, [], h => h.elim
theorem se_lst {es : List Expr} {fs : List De} (hl : es.length ≤ room) (h : EsOk X D W es fs) : PE X (.List es pos) (rdE D W (eLst fs)) := by
  refine PE.mono (pe_lst (sa_all h)) ?_
  rintro σ H Q ⟨φ, α, τ, μ, sr, mr, p⟩
  refine ⟨φ, α, τ, μ, sr, mr, p.bind.mono fun ts μ1 α1 H1 st m q vs dl hn => ⟨by rw [hn]; exact room_line hl, fun z hz => ?_⟩⟩
  exact q.fresh m (same_upd hz) ⟨z, vs, rfl, fresh_phi m hz, fresh_out m hz, .inl upd_same, dl.step (Stp.new (same_upd hz))⟩
theorem se_tup {es : List Expr} {fs : List De} {kk : Nat} (hl : es.length ≤ room) (h : EsOk X D W es fs) : PE X (.Tuple es kk pos) (rdE D W (eTup fs)) := by
  refine PE.mono (pe_tup (sa_all h)) ?_
  rintro σ H Q ⟨φ, α, τ, μ, sr, mr, p⟩
  refine ⟨φ, α, τ, μ, sr, mr, p.bind.mono fun ts μ1 α1 H1 st m q vs dl hn => ⟨by rw [hn]; exact room_line hl, fun z hz => ?_⟩⟩
  exact q.fresh m (same_upd hz) ⟨z, vs, rfl, fresh_phi m hz, fresh_out m hz, .inl upd_same, dl.step (Stp.new (same_upd hz))⟩
end
end NH
end
section
set_option linter.all false
set_option maxRecDepth 100000
set_option maxHeartbeats 4000000
namespace NH
open PySem PySem.Spec PyProof.Rows L2
section
open PySem.W
theorem exc_class {prog : Program} {w : World} {A : Around} {E : Value → Shared → Prop} {s : Shared} {K : Frag} {x D : Addr} {ox : Obj} {od : Option Obj} {Q : Option Value → Shared → Prop} (X : K.In s.heap) (I : InstAt s.heap x ox D od)
  (hga : findIn K (.ref D) "__getattribute__" = some (some (.builtin "BaseException.__getattribute__"))) (hk : findIn K (.ref D) "__getattr__" = some none)
  (hf : findObj K D od "__class__" = some (.bind (.builtin "getset_descriptor.__get__") (.builtin "object.__class__"))) (hm : mroIn K D (.type "object") = some true) (hb : mroIn K D (.type "BaseException") = some true)
  (h : Q (some (.ref D)) { s with toks := s.toks + 1 }) : wpAny (model prog w) A (getAttr? (.ref x) "__class__") Q E s := by
  obtain ⟨hh, g, d, t, os⟩ := s
  have L0 := I.type (M := model prog w)
  have L1 := looks_findIn (M := model prog w) X hga
  have L2 := looks_findIn (M := model prog w) X hk
  have L3 := looks_find (M := model prog w) X I hf
  have L4 := looks_mroIn (M := model prog w) X hb
  have f3 := PySem.F.attr_ValueError.ga.bind (.ref x)
  unfold getAttr? getAttrBy? getAttrBy
  refine wpAny_bind (wpAny_mkText (wpAny_bind (wpAny_attempt (wpAny_holding (wpAny_bind (L0.at (wpAny_bind (L1.at ?_))))))))
  show wpAny _ _ (getAttrByItsOwn (.ref x) _ (.ref D) (.builtin "BaseException.__getattribute__") false false) _ _ _
  unfold getAttrByItsOwn hookBefore
  refine wpAny_bind ?_
  show wpAny _ _ (typeLookup (.ref D) "__getattr__") _ _ _
  refine L2.at ?_
  refine wpAny_bind (wpAny_attempt (wpAny_holding ?_))
  unfold callGetattribute boundAndCalled
  show wpAny _ _ (bindSpecial (.builtin "BaseException.__getattribute__") (.ref x) >>= _) _ _ _
  rw [f3]
  refine wpAny_bind (wpAny_pure ?_)
  show wpAny _ _ (call (.builtin "BaseException.__getattribute__") [.ref x, .str "__class__" _]) _ _ _
  refine wpAny_call (codeAny_call_builtin PySem.F.attr_ValueError.ga.plain PySem.F.entry_bexc_ga ?_)
  have hkd : builtinKind "BaseException.__getattribute__" = some .slot := by decide +kernel
  have hsp : splitId "BaseException.__getattribute__" = some ("BaseException", "__getattribute__") := by decide +kernel
  have ha := PySem.F.args_bexc_ga (.ref x) (.str "__class__" t)
  have LI : Looks (model prog w) hh (isInstance (.ref x) (.type "BaseException")) true := L0.andThen L4
  simp only [checkBuiltinCall, hkd, hsp]
  refine wpAny_bind (LI.at ?_)
  simp only [Bool.not_true, Bool.false_eq_true, if_false]
  refine wpAny_of_eq (a := ()) ha ?_
  unfold Builtin.«object.__getattribute__»
  refine wpAny_bind (m := slotArgs _ _ _) (wpAny_pure ?_)
  dsimp only
  refine wpAny_bind ?_
  show wpAny _ _ (Builtin.ObjectAttr.attrName (.str "__class__" t)) _ _ _
  first
    | exact wpAny_pure (wpAny_bind (L0.at (wpAny_bind (L3.at ?_))))
    | (refine wpAny_pure (wpAny_bind (L0.at (wpAny_bind (L3.at ?_)))))
    | (unfold Builtin.ObjectAttr.attrName; refine wpAny_pure (wpAny_bind (L0.at (wpAny_bind (L3.at ?_)))))
  dsimp only
  unfold Builtin.ObjectAttr.bindTo
  show wpAny _ _ (holding [Value.builtin "object.__class__"] (call (.builtin "getset_descriptor.__get__") [.builtin "object.__class__", .ref x, .ref D]) >>= ret) _ _ _
  refine wpAny_bind (wpAny_holding (wpAny_call (class_get (s := ⟨hh, g, d, t + 1, os⟩) X I hm ?_)))
  refine wpAny_pure ?_
  exact handed_on rfl (wpAny_pure h)
theorem XCls.fo {K : Frag} {C : Addr} (h : XCls K C) (od : Option Obj) : findObj K C od "__class__" = some (.bind (.builtin "getset_descriptor.__get__") (.builtin "object.__class__")) := by
  have hc := h.cl
  obtain ⟨cd, e⟩ := Option.isSome_iff_exists.mp hc
  unfold findObj
  rw [e, h.fi]
  simp only [Option.bind_some]
  rw [h.sp]
  simp only [Option.bind_some]
  rw [h.tk]
  rfl
def XcP (x C : Addr) (d : Option Addr) (h : Heap) : Prop := XcAt x C d h ∧ ∀ dx, d = some dx → ∃ o, h.get? dx = some o
theorem kitx_exc {K : Frag} {x C : Addr} {d : Option Addr} (hC : XCls K C) : KitX K (.ref x) (.ref C) (XcP x C d) where
  ty := fun M h _ p => by
    obtain ⟨⟨oe, vs, h1, h2, h3, h4⟩, _⟩ := p
    exact h2 ▸ (Looks.ld h1).andThen .now
  it := fun M h X _ => by
    have hcD := hC.cl
    unfold clsIn at hcD
    split at hcD
    · rename_i c' d' cd' sl' ho
      intro A' Q' E' s' k q
      unfold isType loadHead
      exact wpAny_bind (wpAny_loadPart (k _ _ (X _ _ ho)) (wpAny_pure q))
    · cases hcD
  ne := fun h tp dd its n sl X htp => by
    refine Bool.eq_false_iff.mpr fun q => ?_
    have e : C = tp := Value.ref.inj (beq_iff_eq.mp q)
    subst e
    have hcD := hC.cl
    unfold clsIn at hcD
    split at hcD
    · rename_i c' d' cd' sl' ho
      have z := (X _ _ ho).symm.trans htp
      cases z
    · cases hcD
  ca := fun X p k => by
    obtain ⟨⟨oe, vs, h1, h2, h3, h4⟩, h5⟩ := p
    cases d with
    | none =>
      refine exc_class (ox := oe) (od := none) X ⟨h1, h2, ?_, ?_⟩ hC.ga hC.hk (hC.fo _) hC.ob hC.bx k
      · unfold notCls; rw [h3]
      · rw [h4]; trivial
    | some dx =>
      obtain ⟨o, ho⟩ := h5 dx rfl
      refine exc_class (ox := oe) (od := some o) X ⟨h1, h2, ?_, ?_⟩ hC.ga hC.hk (hC.fo _) hC.ob hC.bx k
      · unfold notCls; rw [h3]
      · rw [h4]; exact ho
end
section
variable {X : Cx} {D : DP} {W : XW} {Γ : Cn} {k : Nat} {pins : List (Addr × Obj)} {s : Shared} {σ : St} {H : Hp} {φ α : List Addr} {τ : Sl} {μ : Mem} {f g h : De} {a b c : Expr} {pos : Pos} {es : List Expr} {fs : List De}
theorem base_of {e : Expr} {f : Str} {env : Env} (h : plainOb e = true) : attributeBase e f env (eval e env) = eval e env := by
  cases e with
  | Call g args kws p =>
    cases g with
    | Name x p0 =>
      have hx : (x != ("super" : Str)) = true := h
      cases args <;> cases kws <;> first | rfl | (unfold attributeBase; simp [hx])
    | Attribute _ _ _ => rfl
    | _ => simp [plainOb] at h
  | _ => first | (simp [plainOb] at h; done) | rfl
theorem XDict.ext {D : DP} {fs : List (Nat × T)} {d : Option Addr} (x : XDict D φ α H fs d) (I : Inv X pins σ H s) : ∀ dx, d = some dx → ∃ o, s.heap.get? dx = some o := fun dx e => by
  subst e
  obtain ⟨gs, _, _, e, _⟩ := x
  exact objOk_get (I.hok dx _ e)
def rdO (D : DP) (W : XW) (f : Dp) : TO := fun σ H Q => ∃ φ α τ μ, SRel D φ α H τ σ ∧ MRel D φ α H μ ∧ Post D W φ α H σ (fun o _ _ H' => Q o H') (f τ μ)
theorem so_none : PO X none (rdO D W pN) := by
  rintro pins s σ H Q I ⟨φ, α, τ, μ, sr, mr, p⟩
  exact po_none pins s σ H Q I (Post.ok p (Stp.refl _ _) mr)
theorem so_some (h : PE X a (rdE D W f)) : PO X (some a) (rdO D W (pS f)) := by
  rintro pins s σ H Q I ⟨φ, α, τ, μ, sr, mr, p⟩
  refine po_some h pins s σ H Q I ⟨φ, α, τ, μ, sr, mr, p.bind.mono fun t μ' α' H' st m q v d => ?_⟩
  split at q
  · cases d
    exact ⟨_, rfl, q.ok (Stp.refl _ _) m⟩
  · exact q.elim
theorem cutL_den {ts : List T} {xs : List V} (l : DenL D φ α H ts xs) (lo hi : Option Int) : DenL D φ α H (cutL ts lo hi) (cutV xs lo hi) := by
  have e : ts.length = xs.length := l.length
  have e1 : ∀ n d o, sIxN n d o = HT.sIx n d o := fun n d o => by cases o <;> rfl
  unfold cutL cutV
  rw [e1, e1, e]
  exact (l.drop _).take _
theorem getItem_tuple_all {prog : Program} {w : World} {A : Around} {E : Value → Shared → Prop} {s : Shared} {t sl : Addr} {items : Array Value} {vl vu : Value} {lo hi : Option Int} {Q : Value → Shared → Prop} (ht : IsTup s.heap t items) (hs : s.heap.IsSliceOf sl vl vu .none) (pl : IsPart vl lo) (pu : IsPart vu hi)
    (hw : HT.sIx items.size 0 lo = 0 ∧ HT.sIx items.size items.size hi = items.size) (h : Q (.ref t) s) : wpAny (model prog w) A (getItem (.ref t) (.ref sl)) Q E s := by
  obtain ⟨os, hos, hcs, hds⟩ := id hs
  have hTs : s.TypeIs (.ref sl) "slice" := ⟨os, hos, hcs⟩
  unfold getItem
  try with_reducible refine wpAny_holding ?_
  first | refine wpAny_bind (wpAny_pure ?_) | skip
  refine wpAny_bind (wpAny_sequenceKey ht.typeIs (by decide) ?_)
  refine wpAny_bind (wpAny_callSpecial?_slot (name := Str.ofString "__getitem__") ht.typeIs slot_tuple_getitem (wpAny_call_entry slot_tuple_getitem ht.typeIs entry_tuple_getitem ?_ (args_tuple_getitem _ _)))
  show wpAny _ _ (Builtin.Tuple.tupleItemsOf (.ref t) >>= _) _ _ s
  refine wpAny_bind (tupleItemsOf_ ht ?_)
  refine wpAny_bind (wpAny_typeOf hTs ?_)
  rw [if_pos (by decide)]
  refine wpAny_bind (HT.sliceApplied_gen hs pl pu ?_)
  show wpAny _ _ (if (((HT.sIx items.size 0 lo : Nat) : Int) == 0 && (1 : Int) == 1 && (HT.sIx items.size items.size hi - HT.sIx items.size 0 lo) == items.size) = true then _ else _) _ _ s
  rw [if_pos (by rw [hw.1, hw.2]; simp)]
  refine wpAny_bind ?_
  unfold Builtin.Tuple.tupleIsExact
  refine wpAny_bind (wpAny_typeOf ht.typeIs (wpAny_pure ?_))
  rw [if_pos (by decide)]
  first
    | exact wpAny_bind (wpAny_rule (wpAny_pure ⟨_, rfl, wpAny_pure h⟩))
    | exact wpAny_bind (wpAny_rule (wpAny_bind (wpAny_pure (wpAny_pure ⟨_, rfl, wpAny_pure h⟩))))
theorem sl_tupR : SlR X (fun x lo hi H Q => ∃ a xs, x = .ref a ∧ SqT X.K H a xs ∧ (HT.sIx xs.length 0 lo = 0 ∧ HT.sIx xs.length xs.length hi = xs.length) ∧ Q (.ref a) H) := by
  intro pins s σ H x v vl vu lo hi sl Q I rx hs pl pu h
  obtain ⟨a, xs, rfl, hx, hw, q⟩ := h
  cases rx
  obtain ⟨its, r, ht, hz⟩ := I.tuple hx
  have hlen : its.toArray.size = xs.length := by rw [List.size_toArray]; exact r.length.symm
  exact ⟨"tuple", _, PyProof.Rows.slot_tuple_getitem.lookup, ht.typeIs, getItem_tuple_all ht hs pl pu (by rw [hlen]; exact hw) ⟨.ref a, H, I, rfl, q⟩⟩
theorem sl_str : SlR X (fun x lo hi H Q => ∃ z, x = .str z ∧ z.length ≤ sizeLine ∧ Q (.str (Txt.slice z lo hi)) H) := by
  intro pins s σ H x v vl vu lo hi sl Q I rx hs pl pu h
  obtain ⟨z, rfl, hz, q⟩ := h
  obtain ⟨t0, rfl⟩ := rx
  refine ⟨"str", _, F.slot_str_getitem.lookup, typeIs_str _ _ _, ?_⟩
  obtain ⟨o, h1, h2, h3⟩ := hs
  have fin : ∀ (l u : Option (Int × Tok)), vl = partValue l → vu = partValue u → lo = l.map (·.1) → hi = u.map (·.1) → wpAny (model X.prog X.w) X.A (getItem (.str z t0) (.ref sl)) (EP X pins σ Q) X.xe s := by
    rintro l u rfl rfl rfl rfl
    exact wpAny_getItem_str_slice (l := l) (u := u) (st := none) ⟨o, h1, h2, h3⟩ rfl (post_val_or_str ⟨Nat.le_trans (Txt.slice_le z _ _) hz, fun t' k => ⟨.str _, H, I.tok _, ⟨t', rfl⟩, q⟩⟩)
  cases pl with
  | none =>
    cases pu with
    | none => exact fin none none rfl rfl rfl rfl
    | int j u => exact fin none (some (j, u)) rfl rfl rfl rfl
  | int i t =>
    cases pu with
    | none => exact fin (some (i, t)) none rfl rfl rfl rfl
    | int j u => exact fin (some (i, t)) (some (j, u)) rfl rfl rfl rfl
theorem se_slice {lo hi : Option Expr} {fo go : Dp} {p2 : Pos} (ha : PE X a (rdE D W f)) (hl : PO X lo (rdO D W fo)) (hu : PO X hi (rdO D W go)) : PE X (.Subscript a (.Slice lo hi none p2) pos) (rdE D W (eSl f fo go)) := by
  refine PE.mono (pe_slice (sl_list.or (sl_tup.or (sl_tupR.or sl_str))) ha hl hu) ?_
  rintro σ H Q ⟨φ, α, τ, μ, sr, mr, p⟩
  refine ⟨φ, α, τ, μ, sr, mr, p.bind.mono fun t μ1 α1 H1 st m q v d => ?_⟩
  refine ⟨φ, α1, τ, μ1, sr.step st, m, q.bind.mono fun l μ2 α2 H2 st2 m2 q2 => ?_⟩
  refine ⟨φ, α2, τ, μ2, (sr.step st).step st2, m2, q2.bind.mono fun u μ3 α3 H3 st3 m3 q3 => ?_⟩
  unfold cutT at q3
  split at q3
  · obtain ⟨ad, xs, rfl, _, _, r, dl⟩ := (d.step st2).step st3
    refine .inl ⟨ad, xs, rfl, .inl r, fun z hz => ?_⟩
    exact q3.fresh m3 (same_upd hz) ⟨z, _, rfl, fresh_phi m3 hz, fresh_out m3 hz, .inl upd_same, cutL_den (dl.step (Stp.new (same_upd hz))) _ _⟩
  · obtain ⟨ad, xs, rfl, n1, n2, r, dl⟩ := (d.step st2).step st3
    by_cases hw : HT.sIx xs.length 0 l = 0 ∧ HT.sIx xs.length xs.length u = xs.length
    · refine .inr (.inr (.inl ⟨ad, xs, rfl, .inl r, hw, ?_⟩))
      have e : cutV xs l u = xs := by unfold cutV; rw [hw.1, hw.2]; simp
      have dd := cutL_den dl l u
      rw [e] at dd
      exact q3.here m3 ⟨ad, xs, rfl, n1, n2, r, dd⟩
    · refine .inr (.inl ⟨ad, xs, rfl, .inl r, hw, fun z hz => ?_⟩)
      exact q3.fresh m3 (same_upd hz) ⟨z, _, rfl, fresh_phi m3 hz, fresh_out m3 hz, .inl upd_same, cutL_den (dl.step (Stp.new (same_upd hz))) _ _⟩
  · obtain ⟨hz, q3⟩ := q3.grd
    have d : v = .str _ := d
    subst d
    exact .inr (.inr (.inr ⟨_, rfl, room_line hz, q3.here m3 rfl⟩))
  · obtain ⟨ts, hj, q3⟩ := q3.ex1
    obtain ⟨ad, hi', rfl⟩ := (d.step st2).step st3
    obtain ⟨xs, e2, dl⟩ := m3.ob _ ad _ hi' hj
    refine .inl ⟨ad, xs, rfl, .inl (.inl e2), fun z hz => ?_⟩
    exact Post.fresh q3 m3 (same_upd hz) ⟨z, _, rfl, fresh_phi m3 hz, fresh_out m3 hz, .inl upd_same, cutL_den (dl.step (Stp.new (same_upd hz))) _ _⟩
  · exact q3.elim
theorem run_own {g : Fn} {fa : Addr} {fd : FuncData} {ps : List Str} {kk : Nat} {us : List Value} {vs : List V} {ts : List T} {Q : VK} (C : Ck D W Γ X k) (F : FnOk X.prog X.w X.K X.mg X.base (CX1 X.prog X.w) kk fa fd ps (spN D ps.length g))
    (hr : Room kk X.A) (hb : Binds X.K fd ps []) (har : ∀ ts μ K Z, g ts μ K Z → ts.length = ps.length) (I : Inv X pins σ H s) (r : Vals vs us) (mr : MRel D φ α H μ) (d : DenL D φ α H ts vs) (p : Post D W φ α H σ (RV D φ Q) (g ts μ)) :
    wpAny (model X.prog X.w) X.A (call (.ref fa) us) (EP X pins σ Q) X.xe s := by
  obtain ⟨K, Z, q, hq, hz⟩ := p
  have hl : ts.length = ps.length := har ts μ K Z q
  have sp : spN D ps.length g vs H Q (fun c d H' => W c d σ H') := ⟨by rw [← d.length]; exact hl, φ, α, ts, μ, d, mr, K, Z, q, hq, hz⟩
  have hl2 : us.length = ps.length := by rw [← r.length, ← d.length]; exact hl
  refine wpAny_call (codeAny_mono (F.run X.A X.stack s H ⟨us, []⟩ us vs Q (fun c d H' => W c d σ H') hr I.env0 (by simpa using hb s us I.kIn (by simpa using hl2)) r sp) fun r s' hq => ?_)
  cases r with
  | error e => exact C.xe e s' (xp_call (E := fun c d H' => W c d σ H') I hq fun cls d H' w => w)
  | ok fl =>
    cases fl with
    | ret u => exact I.after hq
    | next => exact False.elim hq
    | brk => exact False.elim hq
    | cont => exact False.elim hq
theorem se_call (C : Ck D W Γ X k) {x : Str} {g : Fn} {p0 : Pos} (hx : x ∈ Γ.G) (hg : Γ.gl x = .fn g) (hc : Γ.calm = true) (ha : EsOk X D W es fs) : PE X (.Call (.Name x p0) es [] pos) (rdE D W (eCall g fs)) := by
  have q := C.glo x hx
  rw [hg] at q
  obtain ⟨fa, hm, fd, ps, kk, hk, hb, hkk, Fn, har⟩ := q
  have hr := (C.rom hc).mono hkk
  have hs := ha.stars
  have pa := sa_all ha
  rintro pins s σ H Q I ⟨φ, α, τ, μ, sr, mr, p⟩
  refine wpAny_Call_Name_kw (ld_glob I (C.glb x hx) hm ?_ (C.dbG x hx))
  cases es with
  | nil =>
    cases fs with
    | nil => exact PySem.W.callWith_K0 I.kIn hk (run_own (ts := []) C Fn hr hb har I .nil mr rfl p)
    | cons f fs => exact ha.elim
  | cons e es =>
    simp only [List.all_cons, Bool.and_eq_true] at hs
    refine PySem.W.callWith_K (h₀ := X.base) I.ok.mod.kin hk (thn (subA pa I sr mr p) ?_) (noStar_of hs.1) (noStars hs.2)
    rintro us s1 ⟨vs, H1, ts, μ1, α1, I1, r1, st1, sr1, mr1, d1, _, p1⟩
    exact ⟨I1.kIn, run_own C Fn hr hb har I1 r1 mr1 d1 p1⟩
theorem run_mk {c : Nat} {g : Fn} {C0 fI : Addr} {fd : FuncData} {ps : List Str} {kk : Nat} {us : List Value} {vs : List V} {ts : List T} {Q : VK} (C : Ck D W Γ X k) (ad : D.cad c = some C0) (M : Mk X.K C0 fI) (F : FnOk X.prog X.w X.K X.mg X.base (CX1 X.prog X.w) kk fI fd ps (spN D ps.length g))
    (hr : Room (kk + 1) X.A) (hb : Binds X.K fd ps []) (har : ∀ ts μ K Z, g ts μ K Z → ts.length = ps.length) (I : Inv X pins σ H s) (r : Vals vs us) (mr : MRel D φ α H μ) (d : DenL D φ α H ts vs) (p : Post D W φ α H σ (RV D φ Q) (frozenMk c g ts μ)) :
    wpAny (model X.prog X.w) X.A (call (.ref C0) us) (EP X pins σ Q) X.xe s := by
  obtain ⟨K, Z, ⟨hp, hg⟩, hk, hz⟩ := p
  have hl : (T.mut 0 :: ts).length = ps.length := har _ _ _ _ hg
  have hq : ∀ x dx, H x = none → H dx = none → dx ≠ x → spN D ps.length g (.ref x :: (vs ++ [])) (upd (upd H dx (.own x)) x (.ins C0 dx [])) (fun v H2 => v = .non ∧ Q (.ref x) H2) (fun c d H' => W c d σ H') := by
    intro x dx hx hdx hne
    have sm : Same H (upd (upd H dx (.own x)) x (.ins C0 dx [])) := fun b o e => by rw [upd_ne (ne_of_none e hx), upd_ne (ne_of_none e hdx)]; exact e
    have st0 : Stp [] H [x] (upd (upd H dx (.own x)) x (.ins C0 dx [])) := ⟨⟨[x], rfl, fun b hb' => by rw [List.mem_singleton.mp hb']; exact hx⟩, fun b o _ e => sm b o e, fun b e => by
      cases q : H b with
      | none => rfl
      | some o => rw [sm b o q] at e; cases e⟩
    have nx : x ∉ φ ++ α := fun z => (List.mem_append.mp z).elim (fresh_phi mr hx) (fresh_out mr hx)
    have ph : ∀ b ∈ φ ++ α, ∃ o, H b = some o := fun b hb' => (List.mem_append.mp hb').elim (mr.phi b) fun z => by
      obtain ⟨i, hi⟩ := List.mem_iff_getElem?.mp z
      have hl' : i < μ.length := by rw [← mr.len]; exact (List.getElem?_eq_some_iff.mp hi).1
      exact (mr.ob i b μ[i] hi (by simp [hl'])).some
    refine ⟨by simp only [List.length_cons, List.append_nil] at hl ⊢; rw [← d.length]; exact hl, φ ++ α, [x], .mut 0 :: ts, [.obj c []], ⟨.ref x, vs ++ [], rfl, ⟨x, rfl, rfl⟩, by rw [List.append_nil]; exact (DenL.hide hp d hide_in).step st0⟩, ⟨rfl, by simp, fun b hb' => by rw [List.mem_singleton.mp hb']; exact nx, fun b hb' => let ⟨o, e⟩ := ph b hb'; ⟨o, sm b o e⟩, fun i a o e1 e2 => ?_⟩, ?_⟩
    · cases i with
      | zero => simp at e1 e2; subst e1 e2; exact ⟨C0, dx, [], ad, upd_same, rfl⟩
      | succ i => simp at e1
    have back : ∀ {α2 : List Addr} {H3 : Hp}, Stp [x] (upd (upd H dx (.own x)) x (.ins C0 dx [])) α2 H3 → Same H H3 := fun st b o e => st.keep b o (fun z => by rw [List.mem_singleton.mp z, hx] at e; cases e) (sm b o e)
    refine ⟨_, _, hg, ?_, ?_⟩
    · rintro t μ2 ⟨rfl, fs, h0, hpf, q⟩ α2 H3 st m v dv
      refine ⟨dv, ?_⟩
      obtain ⟨β, rfl, _⟩ := st.ext
      obtain ⟨C1, dx1, gs, ad1, e1, lf⟩ := m.ob 0 x _ rfl h0
      have sm3 := back st
      exact hk _ _ q α H3 (Stp.new sm3) (mr.new sm3) _ ⟨x, C1, dx1, gs, rfl, fresh_phi mr hx, fresh_out mr hx, ad1, e1, DenF.hide hpf lf hide_out⟩
    · rintro e fs μ2 ⟨hpf, q⟩ α2 H3 C1 d1 st m had xd
      have sm3 := back st
      exact hz _ _ _ q α H3 C1 d1 (Stp.new sm3) (mr.new sm3) had (XDict.hide hpf xd hide_out)
  have hq1 := hq (s.heap.objs.size + 1) s.heap.objs.size (I.hok.fresh (Nat.le_succ _)) (I.hok.fresh (Nat.le_refl _)) (Nat.ne_of_lt (Nat.lt_succ_self _))
  have I2 := Inv.made (C := C0) I
  have r2 : Vals (V.ref (s.heap.objs.size + 1) :: (vs ++ [])) (Value.ref (s.heap.objs.size + 1) :: us) := .cons rfl (by rw [List.append_nil]; exact r)
  have hlu : (Value.ref (s.heap.objs.size + 1) :: us ++ []).length = ps.length := by
    rw [List.append_nil, List.length_cons, ← r.length, ← d.length]
    exact hl
  refine wpAny_call (make_map (f := fI) I.kIn M.makes M.init (beq_iff_eq.mp M.fn) (codeAny_mono (F.run _ X.stack _ _ ⟨Value.ref (s.heap.objs.size + 1) :: us, []⟩ (Value.ref (s.heap.objs.size + 1) :: us) _ _ (fun c d H' => W c d σ H') (hr.make C0 us [])
    (I2.env0.make C0 us []) (by simpa using hb _ (Value.ref (s.heap.objs.size + 1) :: us) I2.kIn hlu) r2 hq1) fun r s' hq' => ?_))
  cases r with
  | error e => exact C.xe e s' (xp_call (E := fun c d H' => W c d σ H') I2 hq' fun cls d H' w => w)
  | ok fl =>
    cases fl with
    | ret u =>
      obtain ⟨v, H', I3, rv, ev, q3⟩ := I2.after hq'
      subst ev
      exact ⟨rv, ⟨V.ref (s.heap.objs.size + 1), H', I3, rfl, q3⟩⟩
    | next => exact False.elim hq'
    | brk => exact False.elim hq'
    | cont => exact False.elim hq'
theorem se_make (C : Ck D W Γ X k) {x : Str} {c : Nat} {g : Fn} {p0 : Pos} (hx : x ∈ Γ.G) (hg : Γ.gl x = .mk c true g) (hc : Γ.calm = true) (ha : EsOk X D W es fs) : PE X (.Call (.Name x p0) es [] pos) (rdE D W (eMk c g fs)) := by
  have q := C.glo x hx
  rw [hg] at q
  obtain ⟨C0, fI, fd, ps, kk, ad, hm, M, hb, hkk, Fn, har⟩ := q
  have hr := (C.rom hc).mono hkk
  have hs := ha.stars
  have pa := sa_all ha
  rintro pins s σ H Q I ⟨φ, α, τ, μ, sr, mr, p⟩
  refine wpAny_Call_Name_kw (ld_glob I (C.glb x hx) hm ?_ (C.dbG x hx))
  cases es with
  | nil =>
    cases fs with
    | nil => exact PySem.W.callWith_K0 I.kIn M.kp (run_mk (ts := []) C ad M Fn hr hb har I .nil mr rfl p)
    | cons f fs => exact ha.elim
  | cons e es =>
    simp only [List.all_cons, Bool.and_eq_true] at hs
    refine PySem.W.callWith_K (h₀ := X.base) I.ok.mod.kin M.kp (thn (subA pa I sr mr p) ?_) (noStar_of hs.1) (noStars hs.2)
    rintro us s1 ⟨vs, H1, ts, μ1, α1, I1, r1, st1, sr1, mr1, d1, _, p1⟩
    exact ⟨I1.kIn, run_mk C ad M Fn hr hb har I1 r1 mr1 d1 p1⟩
theorem se_fld (C : Ck D W Γ X k) {x : Str} {n : Nat} (hp : plainOb a = true) (hn : (x, n) ∈ Γ.fld) (ha : PE X a (rdE D W f)) : PE X (.Attribute a x pos) (rdE D W (eFld f n)) := by
  refine PE.mono (pe_fld ha (base_of hp)) ?_
  rintro σ H Q ⟨φ, α, τ, μ, sr, mr, p⟩
  refine ⟨φ, α, τ, μ, sr, mr, p.bind.mono fun t μ1 α1 H1 st m q v d => ?_⟩
  unfold fieldT at q
  split at q
  · split at q
    · rename_i c fs _ w hw
      obtain ⟨ad, C0, dx, gs, rfl, _, _, e1, e2, l⟩ := d
      obtain ⟨y, z, hy, hz, dz⟩ := l.look hw
      obtain ⟨c0, c1, c2⟩ := C.fld c C0 x n e1 hn
      rw [hy] at c0; cases c0
      exact ⟨ad, C0, dx, gs, z, rfl, e2, c1, c2, hz, q.here m dz⟩
    · exact q.elim
  · obtain ⟨c, fs, w, hi, hw, q⟩ := q.ex3
    obtain ⟨ad, hi', rfl⟩ := d
    obtain ⟨C0, dx, gs, e1, e2, l⟩ := m.ob _ ad _ hi' hi
    obtain ⟨y, z, hy, hz, dz⟩ := l.look hw
    obtain ⟨c0, c1, c2⟩ := C.fld c C0 x n e1 hn
    rw [hy] at c0; cases c0
    exact ⟨ad, C0, dx, gs, z, rfl, e2, c1, c2, hz, Post.here q m dz⟩
  · exact q.elim
end
end NH
end
section
set_option linter.all false
set_option maxRecDepth 100000
set_option maxHeartbeats 4000000
namespace NH
open PySem PySem.Spec PyProof.Rows L2
section
variable {X : Cx} {D : DP} {W : XW} {Γ : Cn} {k : Nat} {pins : List (Addr × Obj)} {s : Shared} {σ : St} {H : Hp} {φ α : List Addr} {τ : Sl} {μ : Mem} {f g h : De} {a b c : Expr} {pos : Pos} {es : List Expr}
theorem kit_ins {B : Prop} (C : Ck D W Γ X k) {c : Nat} {C0 dx ad : Addr} {gs : List (Str × V)} (I : Inv X pins σ H s) (e1 : D.cad c = some C0) (ea : H ad = some (.ins C0 dx gs))
    (hh : ∀ tv P, TyNm D c tv → PySem.W.KitX X.K (.ref ad) tv P → P s.heap → (Value.ref ad) ≠ .builtin "__main__.__loader__#opaque" → B) : B := by
  have o := C.ocx c C0 e1
  obtain ⟨mA, O, _⟩ := ins_get I.hok ea
  obtain ⟨od, J, _⟩ := O.look
  exact hh _ _ (.inr (.inr (.inr (.inr (.inr (.inr (.inr (.inr ⟨C0, e1, rfl⟩)))))))) (PySem.W.kitx_own (o.cl.get _) o.cl.hd o.fi o.sp o.tk o.ob) J (fun z => nomatch z)
theorem kit_of {B : Prop} (C : Ck D W Γ X k) {t : T} {v : V} {u : Value} {n : Nat} (I : Inv X pins σ H s) (d : Den D φ α H t v) (r : RelV v u) (ht : tyN t μ = some n)
    (hh : ∀ tv P, TyNm D n tv → PySem.W.KitX X.K u tv P → P s.heap → u ≠ .builtin "__main__.__loader__#opaque" → B) : B := by
  cases t with
  | non => cases d; cases r; cases ht; exact hh _ _ (.inl ⟨rfl, rfl⟩) PySem.W.kitx_none True.intro (fun z => nomatch z)
  | bl b => cases d; cases r; cases ht; exact hh _ _ (.inr (.inl ⟨rfl, rfl⟩)) PySem.W.kitx_bool True.intro (fun z => nomatch z)
  | int i => cases d; obtain ⟨t, rfl⟩ := r; cases ht; exact hh _ _ (.inr (.inr (.inl ⟨rfl, rfl⟩))) PySem.W.kitx_int True.intro (fun z => nomatch z)
  | str i => cases d; obtain ⟨t, rfl⟩ := r; cases ht; exact hh _ _ (.inr (.inr (.inr (.inl ⟨rfl, rfl⟩)))) PySem.W.kitx_str True.intro (fun z => nomatch z)
  | tup ts =>
    obtain ⟨ad, xs, rfl, _, _, q, _⟩ := d; cases r; cases ht
    obtain ⟨its, _, ⟨o, h1, h2, _⟩, _⟩ := I.tuple (.inl q)
    exact hh _ _ (.inr (.inr (.inr (.inr (.inl ⟨rfl, rfl⟩))))) PySem.W.kitx_tuple ⟨o, h1, h2⟩ (fun z => nomatch z)
  | lst ts =>
    obtain ⟨ad, xs, rfl, _, _, q, _⟩ := d; cases r; cases ht
    obtain ⟨its, _, p, _⟩ := I.list (.inl q)
    obtain ⟨o, h1, h2, _⟩ := p.isList
    exact hh _ _ (.inr (.inr (.inr (.inr (.inr (.inl ⟨rfl, rfl⟩)))))) PySem.W.kitx_list ⟨o, h1, h2⟩ (fun z => nomatch z)
  | exc c fs =>
    obtain ⟨ad, C0, dd, rfl, _, _, e1, e2, xd⟩ := d; cases r; cases ht
    have hx := C.xcx n C0 e1
    obtain ⟨p, _⟩ := (show ObjOk X.prog X.w H s.heap ad (.ext (XcAt ad C0 dd)) from I.hok ad _ e2)
    have xd : XDict D φ α H fs dd := by cases dd <;> exact xd
    exact hh _ _ (.inr (.inr (.inr (.inr (.inr (.inr (.inl ⟨C0, e1, rfl⟩))))))) (kitx_exc hx) ⟨p, xd.ext I⟩ (fun z => nomatch z)
  | dic kvs =>
    obtain ⟨ad, gs, rfl, _, _, e, _⟩ := d; cases r; cases ht
    obtain ⟨_, _, vs, _, dd⟩ := (show ObjOk X.prog X.w H s.heap ad (.dK gs) from I.hok ad _ e)
    exact hh _ _ (.inr (.inr (.inr (.inr (.inr (.inr (.inr (.inl ⟨rfl, rfl⟩)))))))) PySem.W.kitx_dict dd.typeIs (fun z => nomatch z)
  | obj c fs =>
    obtain ⟨ad, C0, dx, gs, rfl, _, _, e1, e2, l⟩ := d; cases r; cases ht
    exact kit_ins C I e1 e2 hh
  | «mut» i => cases ht
  | clo j cs => cases ht
theorem kit_mut {B : Prop} (C : Ck D W Γ X k) {i : Nat} {v : V} {u : Value} {o : MO} (I : Inv X pins σ H s) (mr : MRel D φ α H μ) (d : Den D φ α H (.mut i) v) (r : RelV v u) (ht : μ[i]? = some o) (hnt : isTab o = false)
    (hh : ∀ tv P, TyNm D (tyO o) tv → PySem.W.KitX X.K u tv P → P s.heap → u ≠ .builtin "__main__.__loader__#opaque" → B) : B := by
  obtain ⟨ad, hi, rfl⟩ := d
  cases r
  have dd := mr.ob i ad o hi ht
  cases o with
  | lst ts =>
    obtain ⟨xs, q, _⟩ := dd
    obtain ⟨its, _, p, _⟩ := I.list (.inl (.inl q))
    obtain ⟨o, h1, h2, _⟩ := p.isList
    exact hh _ _ (.inr (.inr (.inr (.inr (.inr (.inl ⟨rfl, rfl⟩)))))) PySem.W.kitx_list ⟨o, h1, h2⟩ (fun z => nomatch z)
  | obj c fs =>
    obtain ⟨C0, dx, gs, e1, e2, l⟩ := dd
    exact kit_ins C I e1 e2 hh
  | dic kvs =>
    obtain ⟨gs, e, _⟩ := dd
    obtain ⟨_, _, vs, _, dd⟩ := (show ObjOk X.prog X.w H s.heap ad (.dK gs) from I.hok ad _ e)
    exact hh _ _ (.inr (.inr (.inr (.inr (.inr (.inr (.inr (.inl ⟨rfl, rfl⟩)))))))) PySem.W.kitx_dict dd.typeIs (fun z => nomatch z)
  | tab j => cases hnt
theorem kit_isi {B : Prop} (C : Ck D W Γ X k) {t : T} {v : V} {u : Value} {cs : List Nat} {Q : VK} (I : Inv X pins σ H s) (mr : MRel D φ α H μ) (d : Den D φ α H t v) (r : RelV v u) (q : Post D W φ α H σ (RV D φ Q) (isiT cs t μ))
    (hh : ∀ n tv P, Post D W φ α H σ (RV D φ Q) (.ok (.bl (isAny n cs)) μ) → TyNm D n tv → PySem.W.KitX X.K u tv P → P s.heap → u ≠ .builtin "__main__.__loader__#opaque" → B) : B := by
  unfold isiT at q
  split at q
  · obtain ⟨o, ho, q⟩ := q.som
    rcases q.br with ⟨_, q⟩ | ⟨hb, q⟩
    · exact q.elim
    · exact kit_mut C I mr d r ho hb fun tv P => hh _ tv P q
  · split at q
    · rename_i tn htn
      exact kit_of C I d r htn fun tv P => hh _ tv P q
    · exact q.elim
def clsList (Γ : Cn) : List Expr → Option (List Nat)
  | [] => some []
  | e :: r => match e with
    | .Name x _ => if (idx Γ.N x).isNone && Γ.G.contains x then (match Γ.cls.lookup x with
      | some c => (clsList Γ r).map (c :: ·)
      | none => none) else none
    | _ => none
def clsNames (Γ : Cn) (e : Expr) : Option (List Nat) := match e with
  | .Name _ _ => clsList Γ [e]
  | .Tuple es _ _ => if decide (es.length ≤ room) then clsList Γ es else none
  | _ => none
theorem lookup_mem {β : Type} {x : Str} {v : β} : ∀ {l : List (Str × β)}, l.lookup x = some v → (x, v) ∈ l
  | [], h => by cases h
  | (y, w) :: r, h => by
    rw [List.lookup_cons] at h
    cases q : x == y with
    | true => rw [q] at h; cases h; rw [beq_iff_eq.mp q]; exact List.mem_cons_self
    | false => rw [q] at h; exact List.mem_cons_of_mem _ (lookup_mem h)
theorem pe_cls (C : Ck D W Γ X k) {x : Str} {c : Nat} (hc : x ∈ Γ.G) (hl : (x, c) ∈ Γ.cls) : ∃ u v, ClVal X x u ∧ ClsV v u ∧ ∀ p0, PE X (.Name x p0) (tC v) := by
  obtain ⟨u, v, cv, r⟩ := C.clv x c hl
  refine ⟨u, v, cv, r, fun p0 => ?_⟩
  rcases cv with h | ⟨h, hb, hn⟩
  · exact pe_glob (C.glb x hc) h r.rel (C.dbG x hc)
  · exact pe_bltn (C.glb x hc) h hb r.rel hn (C.dbG x hc)
theorem pa_clss (C : Ck D W Γ X k) : ∀ {es : List Expr} {cs : List Nat}, clsList Γ es = some cs → ∃ us vs, (∀ us', Vals vs us' → us' = us) ∧ vs.length = es.length ∧ es.all noStar = true ∧ PA X es (fun _ H Q => Q vs H) ∧ ∀ t tv, TyNm D t tv → PySem.W.kitAny X.K tv us = some (isAny t cs)
  | [], cs, h => by
    simp [clsList] at h; subst h
    exact ⟨[], [], fun us' r => by cases r; rfl, rfl, rfl, fun pos pins s σ H Q I q => pa_nil pos pins s σ H Q I q, fun t tv _ => rfl⟩
  | e :: es, cs, h => by
    unfold clsList at h
    split at h
    · rename_i x p0
      split at h
      · rename_i hc
        simp only [Bool.and_eq_true, List.contains_iff_mem] at hc
        split at h
        · rename_i c hl
          cases hr : clsList Γ es with
          | none => rw [hr] at h; cases h
          | some cs' =>
            rw [hr] at h
            cases h
            have hm := lookup_mem hl
            obtain ⟨us, vs, rv, hl, hs, hp, hk⟩ := pa_clss C hr
            obtain ⟨u, v, cv, r, pe⟩ := pe_cls C hc.2 hm
            refine ⟨u :: us, v :: vs, fun us' q => by cases q with | cons q1 q2 => rw [r.only q1, rv _ q2], by simp [hl], by simp [noStar, hs], fun pos pins s σ H Q I q => pa_cons (pe p0) hp (noStar_of rfl) pos pins s σ H Q I q, fun t tv ht => ?_⟩
            have k1 := C.isi t x c hm tv u ht cv
            have k2 := hk t tv ht
            unfold PySem.W.kitAny
            rw [k1]
            rw [isAny_cons]
            cases hb : isinN t c with
            | true => rfl
            | false => exact k2
        · cases h
      · cases h
    · cases h
theorem se_isi (C : Ck D W Γ X k) {cs : List Nat} {p0 : Pos} (hx : ("isinstance" : Str) ∈ Γ.G) (hg : Γ.gl "isinstance" = .none) (hs : noStar a = true) (hcs : clsNames Γ c = some cs) (ha : PE X a (rdE D W f)) : PE X (.Call (.Name "isinstance" p0) [a, c] [] pos) (rdE D W (eIsi cs f)) := by
  have hm := C.glo _ hx
  rw [hg] at hm
  rintro pins s σ H Q I ⟨φ, α, τ, μ, sr, mr, p⟩
  refine wpAny_Call_Name_kw (ld_blt I (C.glb _ hx) hm boot_isinstance ?_ (by decide) (C.dbG _ hx))
  unfold clsNames at hcs
  split at hcs
  · rename_i cn pc
    obtain ⟨us0, vs0, hu, hl, hst, hp, hk⟩ := pa_clss C hcs
    refine PyProof.Rows.callWith_builtin1 (thn (pa_cons ha hp (noStar_of hs) pos pins s σ H (fun vs H1 => ∃ v t μ1 α1, vs = v :: vs0 ∧ Stp α H α1 H1 ∧ MRel D φ α1 H1 μ1 ∧ Den D φ α1 H1 t v ∧ Post D W φ α1 H1 σ (RV D φ Q) (isiT cs t μ1)) I ⟨φ, α, τ, μ, sr, mr, p.bind.mono fun t μ' α' H' st m q v d => ⟨v, t, μ', α', rfl, st, m, d, q⟩⟩) ?_) (noStar_of hs) (noStars (by rfl))
    rintro us s1 ⟨vs, H1, I1, rv, v, t, μ1, α1, rfl, st, m, d, q⟩
    cases rv with
    | @cons _ u _ us' r1 r2 =>
    obtain rfl := hu us' r2
    have hlu : us'.length = 1 := by rw [← r2.length]; exact hl
    match us', hlu with
    | [uc], _ =>
    refine kit_isi C I1 m d r1 q fun tn tv P q ht kx hP hne => ?_
    have kk := hk tn tv ht
    have k1 : PySem.W.kitOne X.K tv uc = some (isAny tn cs) := by
      unfold PySem.W.kitAny at kk
      split at kk
      · rename_i hb; rw [hb]; exact kk
      · rename_i hb; rw [hb]; exact kk
      · cases kk
    exact PySem.W.kia_one kx I1.kIn hP k1 hne fun tk => ⟨.bl _, H1, I1.tok tk, rfl, q.here m rfl⟩
  · rename_i ees kk pc
    split at hcs
    case isFalse => cases hcs
    rename_i hlen
    obtain ⟨us0, vs0, hu, hl, hst, hp, hk⟩ := pa_clss C hcs
    refine PyProof.Rows.callWith_builtin1 (thn (pa_cons ha (pa_cons (pe_tup hp) pa_nil (noStar_of rfl)) (noStar_of hs) pos pins s σ H (fun vs H2 => ∃ v tp H1 t μ1 α1, vs = [v, .ref tp] ∧ H1 tp = none ∧ H2 = upd H1 tp (.tup vs0) ∧ Stp α H α1 H1 ∧ MRel D φ α1 H1 μ1 ∧ Den D φ α1 H1 t v ∧ Post D W φ α1 H1 σ (RV D φ Q) (isiT cs t μ1)) I ⟨φ, α, τ, μ, sr, mr, p.bind.mono fun t μ' α' H' st m q v d => ⟨by rw [hl]; exact room_line (by simpa using hlen), fun tp htp => ⟨v, tp, H', t, μ', α', rfl, htp, rfl, st, m, d, q⟩⟩⟩) ?_) (noStar_of hs) (noStars (by rfl))
    rintro us s1 ⟨vs, H2, I1, rv, v, tp, H1, t, μ1, α1, rfl, htp, rfl, st, m, d, q⟩
    obtain ⟨u, ut, rfl, r1, r2⟩ := vals2 rv
    have r2 : ut = Value.ref tp := r2
    subst r2
    have sm : Same H1 (upd H1 tp (.tup vs0)) := same_upd htp
    refine kit_isi C I1 (m.new sm) (d.step (Stp.new sm)) r1 (q.step (Stp.new sm)) fun tn tv P q ht kx hP hne => ?_
    obtain ⟨_, its, rvs, ⟨o, ho, hcl, n, hd⟩⟩ := (show ObjOk X.prog X.w _ s1.heap tp (.tup vs0) from I1.hok tp _ upd_same)
    obtain rfl := hu its rvs
    obtain ⟨oc, odd, odt, osl⟩ := o
    simp only at hcl hd
    subst hcl hd
    exact PySem.W.kia_tup kx I1.kIn hP ho (hk tn tv ht) hne fun tk => ⟨.bl _, _, I1.tok tk, rfl, q.here (m.new sm) rfl⟩
  · cases hcs
end
end NH
end
section
set_option linter.all false
set_option maxRecDepth 100000
set_option maxHeartbeats 4000000
namespace NH
open PySem PySem.Spec PyProof.Rows L2
section
variable {X : Cx} {D : DP} {W : XW} {Γ : Cn} {k : Nat} {pins : List (Addr × Obj)} {s : Shared} {σ : St} {H : Hp} {φ α : List Addr} {τ : Sl} {μ : Mem} {f g h : De} {a b c : Expr} {pos : Pos} {es : List Expr}
def B1 (X : Cx) (D : DP) (W : XW) (fv : Value) (op : T → Mem → RE T) : Prop :=
  ∀ (pins : List (Addr × Obj)) (s : Shared) (σ : St) (H : Hp) (φ α : List Addr) (μ : Mem) (t : T) (v : V) (u : Value) (Q : VK), Inv X pins σ H s → MRel D φ α H μ → Den D φ α H t v → RelV v u → Post D W φ α H σ (RV D φ Q) (op t μ) →
    wpAny (model X.prog X.w) X.A (call fv [u]) (EP X pins σ Q) X.xe s
theorem se_b1 (C : Ck D W Γ X k) {x : Str} {id : String} {op : T → Mem → RE T} {p0 : Pos} (hx : x ∈ Γ.G) (hg : Γ.gl x = .none) (hv : bootBuiltins x = some (.builtin id)) (hn : x ≠ "__name__") (hs : noStar a = true) (hb : B1 X D W (.builtin id) op) (ha : PE X a (rdE D W f)) :
    PE X (.Call (.Name x p0) [a] [] pos) (rdE D W (eB1 op f)) := by
  have hm := C.glo _ hx
  rw [hg] at hm
  rintro pins s σ H Q I ⟨φ, α, τ, μ, sr, mr, p⟩
  refine wpAny_Call_Name_kw (ld_blt I (C.glb _ hx) hm hv ?_ hn (C.dbG _ hx))
  refine PyProof.Rows.callWith_builtin1 (thn (pa_cons ha pa_nil (noStar_of hs) pos pins s σ H (fun vs H1 => ∃ v t μ1 α1, vs = [v] ∧ Stp α H α1 H1 ∧ MRel D φ α1 H1 μ1 ∧ Den D φ α1 H1 t v ∧ Post D W φ α1 H1 σ (RV D φ Q) (op t μ1)) I ⟨φ, α, τ, μ, sr, mr, p.bind.mono fun t μ' α' H' st m q v d => ⟨v, t, μ', α', rfl, st, m, d, q⟩⟩) ?_) (noStar_of hs) (noStars (by rfl))
  rintro us s1 ⟨vs, H1, I1, rv, v, t, μ1, α1, rfl, st, m, d, q⟩
  obtain ⟨u, rfl, r1⟩ := vals1 rv
  exact hb pins s1 σ H1 φ α1 μ1 t v u Q I1 m d r1 q
theorem se_bT (C : Ck D W Γ X k) {x : Str} {id : String} {op : T → Mem → RE T} {p0 : Pos} (hx : x ∈ Γ.G) (hg : Γ.gl x = .none) (hv : bootBuiltins x = some (.type id)) (hn : x ≠ "__name__") (hs : noStar a = true) (hb : B1 X D W (.type id) op) (ha : PE X a (rdE D W f)) :
    PE X (.Call (.Name x p0) [a] [] pos) (rdE D W (eB1 op f)) := by
  have hm := C.glo _ hx
  rw [hg] at hm
  rintro pins s σ H Q I ⟨φ, α, τ, μ, sr, mr, p⟩
  refine wpAny_Call_Name_kw (ld_blt I (C.glb _ hx) hm hv ?_ hn (C.dbG _ hx))
  refine PyProof.Rows.callWith_type1 (thn (pa_cons ha pa_nil (noStar_of hs) pos pins s σ H (fun vs H1 => ∃ v t μ1 α1, vs = [v] ∧ Stp α H α1 H1 ∧ MRel D φ α1 H1 μ1 ∧ Den D φ α1 H1 t v ∧ Post D W φ α1 H1 σ (RV D φ Q) (op t μ1)) I ⟨φ, α, τ, μ, sr, mr, p.bind.mono fun t μ' α' H' st m q v d => ⟨v, t, μ', α', rfl, st, m, d, q⟩⟩) ?_) (noStar_of hs) (noStars (by rfl))
  rintro us s1 ⟨vs, H1, I1, rv, v, t, μ1, α1, rfl, st, m, d, q⟩
  obtain ⟨u, rfl, r1⟩ := vals1 rv
  exact hb pins s1 σ H1 φ α1 μ1 t v u Q I1 m d r1 q
theorem b_len : B1 X D W (.builtin "len") lenT := by
  intro pins s σ H φ α μ t v u Q I mr d r p
  unfold lenT at p
  split at p
  · obtain ⟨ad, xs, rfl, _, _, q, l⟩ := d
    exact call_len_seq pins s σ H _ _ Q I (.cons r .nil) ⟨ad, xs, rfl, .inl (.inl q), by rw [← l.length]; exact p.here mr rfl⟩
  · obtain ⟨ad, xs, rfl, _, _, q, l⟩ := d
    exact call_len_seq pins s σ H _ _ Q I (.cons r .nil) ⟨ad, xs, rfl, .inr (.inl q), by rw [← l.length]; exact p.here mr rfl⟩
  · cases d
    obtain ⟨hl, p⟩ := p.grd
    exact call_len_str pins s σ H _ _ Q I (.cons r .nil) ⟨_, rfl, room_line hl, p.here mr rfl⟩
  · obtain ⟨ts, hj, p⟩ := p.ex1
    obtain ⟨ad, hi, rfl⟩ := d
    obtain ⟨xs, q, l⟩ := mr.ob _ ad _ hi hj
    exact call_len_seq pins s σ H _ _ Q I (.cons r .nil) ⟨ad, xs, rfl, .inl (.inl (.inl q)), by rw [← l.length]; exact Post.here p mr rfl⟩
  · exact p.elim
theorem b_list : B1 X D W (.type "list") listT := by
  intro pins s σ H φ α μ t v u Q I mr d r p
  unfold listT at p
  split at p
  · obtain ⟨ad, xs, rfl, _, _, q, l⟩ := d
    exact call_list_of pins s σ H _ _ Q I (.cons r .nil) ⟨ad, xs, rfl, .inl (.inl q), fun z hz => p.fresh mr (same_upd hz) ⟨z, xs, rfl, fresh_phi mr hz, fresh_out mr hz, .inl upd_same, l.step (Stp.new (same_upd hz))⟩⟩
  · obtain ⟨ad, xs, rfl, _, _, q, l⟩ := d
    exact call_list_of pins s σ H _ _ Q I (.cons r .nil) ⟨ad, xs, rfl, .inr (.inl q), fun z hz => p.fresh mr (same_upd hz) ⟨z, xs, rfl, fresh_phi mr hz, fresh_out mr hz, .inl upd_same, l.step (Stp.new (same_upd hz))⟩⟩
  · obtain ⟨ts, hj, p⟩ := p.ex1
    obtain ⟨ad, hi, rfl⟩ := d
    obtain ⟨xs, q, l⟩ := mr.ob _ ad _ hi hj
    exact call_list_of pins s σ H _ _ Q I (.cons r .nil) ⟨ad, xs, rfl, .inl (.inl (.inl q)), fun z hz => Post.fresh p mr (same_upd hz) ⟨z, xs, rfl, fresh_phi mr hz, fresh_out mr hz, .inl upd_same, l.step (Stp.new (same_upd hz))⟩⟩
  · exact p.elim
theorem stp_lay {p : Addr} {o : HO} (hp : H p = none) : Stp α H (α ++ [p]) (upd H p o) := ⟨⟨[p], rfl, by simpa using hp⟩, fun b u _ e => same_upd hp b u e, fun b e => by
  by_cases z : b = p
  · rw [z, upd_same] at e; cases e
  · rw [upd_ne z] at e; exact e⟩
theorem MRel.lay {p : Addr} {ts : List T} {vs : List V} (m : MRel D φ α H μ) (hp : H p = none) (l : DenL D φ α H ts vs) : MRel D φ (α ++ [p]) (upd H p (.lst vs)) (μ ++ [.lst ts]) := by
  have st : Stp α H (α ++ [p]) (upd H p (.lst vs)) := stp_lay hp
  have hl := m.len
  refine ⟨by simp [hl], ?_, fun b hb => ?_, fun b hb => ?_, fun i a o e1 e2 => ?_⟩
  · rw [List.nodup_append]
    refine ⟨m.nd, by simp, fun a ha b hb => ?_⟩
    rw [List.mem_singleton.mp hb]
    intro z
    exact fresh_out m hp (z ▸ ha)
  · rcases List.mem_append.mp hb with h | h
    · exact m.dis b h
    · rw [List.mem_singleton.mp h]; exact fresh_phi m hp
  · obtain ⟨u, e⟩ := m.phi b hb
    exact ⟨u, same_upd hp b u e⟩
  · by_cases hi : i < α.length
    · rw [List.getElem?_append_left hi] at e1
      rw [List.getElem?_append_left (by omega)] at e2
      have d := m.ob i a o e1 e2
      obtain ⟨u, q⟩ := d.some
      exact d.step st ((same_upd hp _ _ q).trans q.symm)
    · rw [List.getElem?_append_right (by omega)] at e1 e2
      have hi' : i - α.length = 0 := by
        by_cases z : i - α.length = 0
        · exact z
        · rw [List.getElem?_eq_none (by simp; omega)] at e1; cases e1
      have hi2 : i - μ.length = 0 := by omega
      rw [hi'] at e1
      rw [hi2] at e2
      have e1 : some p = some a := e1
      have e2 : some (MO.lst ts) = some o := e2
      cases e1; cases e2
      exact ⟨vs, upd_same, l.step st⟩
theorem Post.lay {Q : VK} {p : Addr} {ts : List T} {vs : List V} (q : Post D W φ α H σ (RV D φ Q) (.ok (.mut μ.length) (μ ++ [.lst ts]))) (m : MRel D φ α H μ) (hp : H p = none) (l : DenL D φ α H ts vs) : Q (.ref p) (upd H p (.lst vs)) :=
  q.ok (stp_lay hp) (m.lay hp l) _ ⟨p, by rw [← m.len, List.getElem?_append_right (Nat.le_refl _)]; simp, rfl⟩
theorem se_lay {fs : List De} (hl : es.length ≤ room) (ha : EsOk X D W es fs) : PE X (.List es pos) (rdE D W (eLay fs)) := by
  refine PE.mono (pe_lst (sa_all ha)) ?_
  rintro σ H Q ⟨φ, α, τ, μ, sr, mr, p⟩
  refine ⟨φ, α, τ, μ, sr, mr, p.bind.mono fun ts μ1 α1 H1 st m q vs dl hn => ⟨by rw [hn]; exact room_line hl, fun z hz => q.lay m hz dl⟩⟩
theorem bools_at : ∀ {ts : List T} {bs : List Bool} {vs : List V} {us : List Value}, bools ts = some bs → DenL D φ α H ts vs → Vals vs us → us = bs.map Value.bool
  | [], bs, vs, us, h, l, r => by
    simp [bools] at h; subst h
    have l : vs = [] := l
    subst l; cases r; rfl
  | t :: ts, bs, vs, us, h, l, r => by
    obtain ⟨v, w, rfl, d, l⟩ := l
    cases t with
    | bl b =>
      simp only [bools] at h
      cases q : bools ts with
      | none => rw [q] at h; cases h
      | some cs =>
        rw [q] at h; cases h
        cases r with
        | cons r1 r2 =>
          cases d; cases r1
          rw [bools_at q l r2]; rfl
    | _ => simp [bools] at h
theorem b_all (hh : X.calm = true) : B1 X D W (.builtin "all") allT := by
  intro pins s σ H φ α μ t v u Q I mr d r p
  unfold allT at p
  split at p
  case h_2 => exact p.elim
  rename_i xs
  obtain ⟨bs, hb, p⟩ := p.som
  obtain ⟨ad, vs, rfl, _, _, q, l⟩ := d
  cases r
  obtain ⟨its, rv, pl, hz⟩ := I.list (.inl q)
  have eb := bools_at hb l rv
  have hl := pl.isList
  have hlt : ad < s.heap.objs.size := by obtain ⟨_, e, _⟩ := hl; exact Heap.lt_size e
  refine call_all_walk (wpAny_pyIter_list hl ?_)
  refine ⟨s.heap.objs.size, [s.heap.objs.size, ad], [s.heap.objs.size], its.toArray.size, _, _, fun i => (bs[i]?).getD true, rfl, Walks.list (A := X.A.in1) (I.ok.hd hh) _ ad (Nat.ne_of_lt hlt) its.toArray,
    ⟨⟨_, Heap.get?_push_size _ rfl, rfl, rfl⟩, hl.push _⟩, fun i v s' Q' E' hP hQ => ?_, fun h' tk hk => ?_⟩
  · have hP' : its[i]? = some v := by simpa using hP
    rw [eb, List.getElem?_map] at hP'
    cases e : bs[i]? with
    | none => rw [e] at hP'; cases hP'
    | some b =>
      rw [e] at hP'
      simp at hP'
      subst hP'
      simp only [e, Option.getD_some] at hQ
      exact wpAny_truthy_bool hQ
  · have e : ((List.range its.toArray.size).all fun i => (bs[i]?).getD true) = bs.all id := by
      have hn : its.toArray.size = bs.length := by simp [eb]
      rw [hn]
      rw [Bool.eq_iff_iff]
      simp only [List.all_eq_true, List.mem_range, id_eq]
      constructor
      · intro h b hb'
        obtain ⟨i, hi, rfl⟩ := List.mem_iff_getElem.mp hb'
        have := h i hi
        simpa [hi] using this
      · intro h i hi
        have := h bs[i] (List.getElem_mem hi)
        simpa [hi] using this
    rw [e]
    have kp : ∀ b x, s.heap.get? b = some x → h'.get? b = some x := fun b x e => hk b x (fun hm => by rw [List.mem_singleton.mp hm] at e; exact Nat.lt_irrefl _ (Heap.lt_size e)) (Heap.get?_push_of_some _ e)
    exact ⟨.bl (bs.all id), H, I.kept (t' := tk) kp, rfl, p.here mr rfl⟩
theorem Stp.turn {x : Addr} {o : HO} (hx : x ∈ α) (hh : ∃ o', H x = some o') : Stp α H α (upd H x o) := by
  refine ⟨⟨[], by simp, by simp⟩, fun b u n e => ?_, fun b e => ?_⟩
  · rw [upd_ne (fun (z : b = x) => n (by rw [z]; exact hx))]; exact e
  · by_cases z : b = x
    · rw [z, upd_same] at e; cases e
    · rw [upd_ne z] at e; exact e
theorem MRel.turn {i : Nat} {x : Addr} {o : HO} {mo : MO} (m : MRel D φ α H μ) (hx : α[i]? = some x) (hi : i < μ.length) (st : Stp α H α (upd H x o)) (d : DenO D φ α (upd H x o) mo x) : MRel D φ α (upd H x o) (μ.set i mo) := by
  refine ⟨by simp [m.len], m.nd, m.dis, fun b hb => ?_, fun j y o' e1 e2 => ?_⟩
  · obtain ⟨u, hu⟩ := m.phi b hb
    exact ⟨u, st.keep b u (fun z => m.dis b z hb) hu⟩
  · by_cases q : i = j
    · subst q
      rw [hx] at e1; cases e1
      rw [List.getElem?_set_self hi] at e2; cases e2
      exact d
    · rw [List.getElem?_set_ne q] at e2
      have ne : y ≠ x := fun z => by
        subst z
        obtain ⟨h1, e1'⟩ := List.getElem?_eq_some_iff.mp e1
        obtain ⟨h2, e2'⟩ := List.getElem?_eq_some_iff.mp hx
        exact q ((List.getElem_inj m.nd).mp (e2'.trans e1'.symm))
      exact DenO.step st (upd_ne ne) (m.ob j y o' e1 e2)
theorem app_turn {i : Nat} {x : Addr} {xs : List V} {ts : List T} {v : V} {t : T} (m2 : MRel D φ α H μ) (hx2 : α[i]? = some x) (hμ : μ[i]? = some (.lst ts)) (hH : H x = some (.lst xs)) (l : DenL D φ α H ts xs) (d : Den D φ α H t v) :
    Stp α H α (upd H x (.lst (xs ++ [v]))) ∧ MRel D φ α (upd H x (.lst (xs ++ [v]))) (μ.set i (.lst (ts ++ [t]))) := by
  have st3 : Stp α H α (upd H x (.lst (xs ++ [v]))) := Stp.turn (List.mem_of_getElem? hx2) ⟨_, hH⟩
  have hi : i < μ.length := (List.getElem?_eq_some_iff.mp hμ).1
  exact ⟨st3, m2.turn hx2 hi st3 ⟨_, upd_same, (l.step st3).append ⟨v, [], rfl, d.step st3, rfl⟩⟩⟩
theorem se_app {o : Expr} {pa pc : Pos} {go : De} (hp : plainOb o = true) (hs : noStar a = true) (hline : (pa.endLine == pc.line) = true) (ho : PE X o (rdE D W go)) (ha : PE X a (rdE D W f)) :
    PE X (.Call (.Attribute o "append" pa) [a] [] pc) (rdE D W (eApp go f)) := by
  have hb : starEach [a] X.env = [(false, eval a X.env)] := noStar_of hs
  refine PE.mono (pe_bm PySem.F.plainAttrs_list PySem.F.slot_list_append PySem.F.type_list_append mt_append ho (pa_cons ha pa_nil (noStar_of hs)) (base_of hp) (by rw [hb]; rfl) hline (noStar_of hs) rfl) ?_
  rintro σ H Q ⟨φ, α, τ, μ, sr, mr, p⟩
  refine ⟨φ, α, τ, μ, sr, mr, p.bind.mono fun ot μ1 α1 H1 st1 m1 q ov dv => ?_⟩
  split at q
  case h_2 => exact q.elim
  rename_i i
  obtain ⟨K, Z, ⟨⟨ts0, hμ0⟩, hf⟩, hk, hz⟩ := q
  obtain ⟨x, hx, rfl⟩ := dv
  obtain ⟨xs0, hH0, l0⟩ := m1.ob _ x _ hx hμ0
  refine ⟨.inl ⟨rfl, _, .inl (.inl hH0)⟩, φ, α1, τ, μ1, sr.step st1, m1, _, Z, hf, ?_, hz⟩
  rintro t μ2 ⟨ts, hμ, hl, q2⟩ α2 H2 st2 m2 v d
  obtain ⟨β, e2, _⟩ := st2.ext
  have hx2 : α2[i]? = some x := by
    rw [e2, List.getElem?_append_left (List.getElem?_eq_some_iff.mp hx).1]; exact hx
  obtain ⟨xs, hH, l⟩ := m2.ob i x _ hx2 hμ
  obtain ⟨st3, m3⟩ := app_turn m2 hx2 hμ hH l d
  refine ⟨x, xs, v, rfl, rfl, hH, ?_, ?_⟩
  · rw [← l.length]; exact Nat.lt_of_lt_of_le hl (room_line (Nat.le_refl _))
  · exact hk _ _ q2 α2 _ (st2.trans st3) m3 .non rfl
end
end NH
end
section
set_option linter.all false
set_option maxRecDepth 100000
set_option maxHeartbeats 4000000
namespace NH
open PySem PySem.Spec PyProof.Rows L2
open PySem.Builtin PySem.Builtin.Str PySem.Builtin.Int
theorem lri_nolen : typeLookup (.type "list_reverseiterator") "__len__" = pure none := by
  rw [typeLookup_type, builtinLookup_eq_fast]; kernel_rfl
theorem lri_hint : typeLookup (.type "list_reverseiterator") "__length_hint__" = pure (some (.builtin "list_reverseiterator.__length_hint__")) := by
  rw [typeLookup_type, builtinLookup_eq_fast]; kernel_rfl
section
variable {prog : Program} {w : World} {A : Around} {E : Value → Shared → Prop} {s : Shared} {I l : Addr} {items : Array Value}
def revAt (items : Array Value) : Nat → Value → Prop := fun i v => items[items.size - 1 - i]? = some v
theorem collect_rev {Q : List Value → Shared → Prop} (hh : A.handled = none) (hit : s.heap.IsRevIter I l ((items.size : Int) - 1)) (hl : s.heap.IsList l items) (hne : l ≠ I) (hn : items.size ≤ sizeLine)
    (hQ : ∀ s' acc, (∀ b o, b ≠ I → s.heap.get? b = some o → s'.heap.get? b = some o) → s'.gens = s.gens → s'.drawn = s.drawn → s'.os = s.os → ItemsOf (revAt items) acc items.size → Q acc.toList s') : wpAny (model prog w) A (collect (.ref I)) Q E s := by
  have W := (Walks.listRev (prog := prog) (w := w) (A := A.in1) hh I l hne items).toS
  have st0 : (0 ≤ items.size ∧ s.heap.IsRevIter I l ((items.size : Int) - 1 - ((0 : Nat) : Int)) ∧ s.heap.IsList l items) := ⟨Nat.zero_le _, by simpa using hit, hl⟩
  have iS : I < s.heap.objs.size := by obtain ⟨o, ho, _⟩ := hit; exact Heap.lt_size ho
  have lS : l < s.heap.objs.size := by obtain ⟨o, ho, _⟩ := hl; exact Heap.lt_size ho
  have hSI : s.heap.objs.size ≠ I := fun e => Nat.lt_irrefl _ (show s.heap.objs.size < s.heap.objs.size from e ▸ iS)
  have hSl : s.heap.objs.size ≠ l := fun e => Nat.lt_irrefl _ (show s.heap.objs.size < s.heap.objs.size from e ▸ lS)
  have hSf : s.heap.objs.size ∉ [I, l] := by simp [hSI, hSl]
  unfold collect
  refine wpAny_bind (wpAny_runValue (codeAny_builtin F.entry_proto_collect ?_))
  rw [Around.under_plainId F.plain_proto_collect _]
  show wpAny _ A.in1 (newList [] >>= fun l => again (.builtin "list.__iadd__" ⟨[l, .ref I], []⟩)) _ _ s; refine wpAny_bind (wpAny_newObj_type (wpAny_pure ⟨plainId_quiet F.plain_list_iadd _, codeAny_builtin F.entry_list_iadd ?_⟩)); rw [Around.under_plainId F.plain_list_iadd _]
  have st1 := W.frame 0 s (s.heap.push { cls := .type "list", data := .seq ([] : List Value).toArray }) s.toks st0 (Nat.le_refl _) fun b _ o e => Heap.get?_push_of_some _ e; have hS1 : (s.heap.push { cls := .type "list", data := .seq ([] : List Value).toArray }).get? s.heap.objs.size = some { cls := .type "list", data := .seq ([] : List Value).toArray } := Heap.get?_push_size _ rfl
  have h1 : Builtin.List.listSameRef (.ref s.heap.objs.size) (.ref I) = false := by simp [Builtin.List.listSameRef, hSI]
  have hT : ∀ i (s : Shared), (i ≤ items.size ∧ s.heap.IsRevIter I l ((items.size : Int) - 1 - (i : Int)) ∧ s.heap.IsList l items) → s.TypeIs (.ref I) "list_reverseiterator" := fun i s st => st.2.1.typeIs
  show wpAny _ A.in1 (Builtin.List.listExtendWith (.ref s.heap.objs.size) (.ref I) (.ref s.heap.objs.size)) _ _ _; unfold Builtin.List.listExtendWith; refine wpAny_bind (wpAny_typeOf (hT 0 _ st1) ?_); rw [if_neg (by rw [h1]; decide)]; refine wpAny_bind (W.self 0 _ _ _ st1 (wpAny_bind (wpAny_holding ?_)))
  unfold Builtin.List.listLengthHint; refine wpAny_bind (wpAny_specialOf (hT 0 _ st1) lri_nolen ?_)
  show wpAny _ A.in1 (specialOf (Value.ref I) (Str.ofString "__length_hint__") >>= _) _ _ _; refine wpAny_bind (wpAny_specialOf (hT 0 _ st1) lri_hint ?_)
  (generalize hid : ("list_reverseiterator.__length_hint__" : String) = id0; (fail_if_success (clear hid id0)); wp_delta; rw [show splitId id0 = some ("list_reverseiterator", "__length_hint__") from by subst hid; decide +kernel]; subst hid)
  refine wpAny_bind (wpAny_isInstance (b := true) (hT 0 _ st1) (by rw [isSubtype_type]; kernel_rfl) ?_)
  refine wpAny_pure ?_; rw [if_neg (by decide)]
  refine wpAny_pure ⟨plainId_quiet F.plain_extend_loop _, codeAny_extend_loopS W hn _ hSf _ items.size 0 _ _ _ rfl (Nat.zero_le _) st1 hS1 (ItemsOf.nil _) fun s' acc' c' hm hS' hacc => ?_⟩; show wpAny _ A (load s.heap.objs.size >>= _) _ _ s'; refine wpAny_bind (wpAny_load hS' (wpAny_pure ?_))
  have hm := Moved.drop_new (o := { cls := .type "list", data := .seq ([] : List Value).toArray }) (tk := s.toks) hm (Nat.le_refl _)
  exact hQ s' acc' (fun b o hb e => hm.heap b o (fun h => hb (List.mem_singleton.mp h)) e) hm.gens hm.drawn hm.os hacc
theorem gives_of (sep : Str) (ls : List (Str × Tok)) (h : tooLong ((ls.map (·.1)).toArray.foldl (· + ·.length + sep.length) 0) = false) : Gives (joinTail sep (strValues ls)) (joinMade sep ls) := by
  have g0 := gives_joinTail sep ls h
  cases ls with
  | nil => exact g0
  | cons p r => cases r with
    | nil => exact g0
    | cons q r' => exact g0
theorem join_rev {sep : Str} {t : Tok} {Q : Value → Shared → Prop} {ys : List (Str × Tok)} (hh : A.handled = none) (hit : s.heap.IsRevIter I l ((ys.length : Int) - 1)) (hl : s.heap.IsList l (strValues ys).toArray) (hne : l ≠ I) (hn : ys.length ≤ sizeLine) (hok : JoinOk sep ((ys.map (·.1)).reverse) = true)
    (hQ : ∀ (s' : Shared) t' k, (∀ b o, b ≠ I → s.heap.get? b = some o → s'.heap.get? b = some o) → s'.gens = s.gens → s'.drawn = s.drawn → s'.os = s.os → Q (.str (Txt.join sep ((ys.map (·.1)).reverse)) t') { s' with toks := k }) :
    wpAny (model prog w) A (call (.builtin "str.join") [.str sep t, .ref I]) Q E s := by
  have hlen : (strValues ys).toArray.size = ys.length := by simp [strValues]
  refine wpAny_call (codeAny_call_builtin F.slot_str_join.plain F.entry_str_join (F.slot_str_join.check _ _ _ _ _ _ _ _ (typeIs_str _ _ _) (F.args_str_join_2 _ _) ?_))
  rw [join_tree_other]
  refine wpAny_bind (wpAny_typeOf hit.typeIs ?_)
  show wpAny _ A.in1 ((pyIter (.ref I)).tryCatch _ >>= fun it => collect it >>= fun items => joinTail sep items) _ _ s
  refine wpAny_bind (wpAny_tryCatch (wpAny_pyIter_revIter hit ?_))
  refine wpAny_bind (collect_rev (A := A.in1) hh (by rw [hlen]; exact hit) hl hne (by rw [hlen]; exact hn) fun s' acc k1 k2 k3 k4 hacc => ?_)
  have e : acc.toList = strValues ys.reverse := by
    obtain ⟨h1, h2⟩ := hacc
    rw [hlen] at h1
    refine List.ext_getElem? fun j => ?_
    by_cases hj : j < ys.length
    · have hj' : j < acc.size := by omega
      have q := h2 j acc[j] (Array.getElem?_eq_getElem hj')
      unfold revAt at q
      rw [hlen] at q
      rw [Array.getElem?_toList, Array.getElem?_eq_getElem hj', ← q]
      simp only [strValues, List.getElem?_toArray, List.getElem?_map]
      rw [List.getElem?_reverse hj]
    · rw [List.getElem?_eq_none (by simp; omega), List.getElem?_eq_none (by simp [strValues]; omega)]
  rw [e]
  have er : (ys.reverse.map (·.1)) = (ys.map (·.1)).reverse := by rw [List.map_reverse]
  rw [← er] at hok hQ
  have hok' := hok
  unfold JoinOk at hok'
  rw [Bool.not_eq_true'] at hok'
  have g := gives_of sep ys.reverse hok'
  exact g prog w A (wants Q E) s' (post_join ys.reverse ⟨joinFit_length hok', fun t' k => hQ s' t' k k1 k2 k3 k4⟩)
end
section
variable {X : Cx} {D : DP} {W : XW} {Γ : Cn} {k : Nat} {pins : List (Addr × Obj)} {s : Shared} {σ : St} {H : Hp} {φ α : List Addr} {τ : Sl} {μ : Mem} {f g h : De} {a b c : Expr} {pos : Pos} {es : List Expr}
theorem strsOf_at : ∀ {ts : List T} {ys : List Str} {vs : List V} {us : List Value}, strsOf ts = some ys → DenL D φ α H ts vs → Vals vs us → ∃ ls : List (Str × Tok), strValues ls = us ∧ ls.map (·.1) = ys
  | [], ys, vs, us, h, l, r => by
    simp [strsOf] at h; subst h
    have l : vs = [] := l
    subst l; cases r; exact ⟨[], rfl, rfl⟩
  | t :: ts, ys, vs, us, h, l, r => by
    obtain ⟨v, w, rfl, d, l⟩ := l
    cases t with
    | str x =>
      simp only [strsOf] at h
      cases q : strsOf ts with
      | none => rw [q] at h; cases h
      | some zs =>
        rw [q] at h; cases h
        cases r with
        | cons r1 r2 =>
          have d : v = .str x := d
          subst d
          obtain ⟨t0, rfl⟩ := r1
          obtain ⟨ls, rfl, e⟩ := strsOf_at q l r2
          exact ⟨(x, t0) :: ls, rfl, by simp [e]⟩
    | _ => simp [strsOf] at h
theorem se_joinR (C : Ck D W Γ X k) (hc : Γ.calm = true) {sep : Str} {k0 : Nat} {x : Str} {p0 pa pr px pq pc : Pos} (hx : ("reversed" : Str) ∈ Γ.G) (hg : Γ.gl "reversed" = .none) (hline : (pa.endLine == pc.line) = true) (ha : PE X (.Name x px) (rdE D W f)) :
    PE X (.Call (.Attribute (.Constant (.str sep) k0 p0) "join" pa) [.Call (.Name "reversed" pr) [.Name x px] [] pq] [] pc) (rdE D W (eB1 (joinRT sep) f)) := by
  have hm := C.glo _ hx
  rw [hg] at hm
  rintro pins s σ H Q I ⟨φ, α, τ, μ, sr, mr, p⟩
  refine wpAny_Call_method_late rfl rfl hline rfl (thn (pe_str (X := X) pins s σ H (fun v H1 => v = .str sep ∧ H1 = H) I ⟨rfl, rfl⟩) ?_)
  rintro v s1 ⟨x1, H1, I1, r1, rfl, rfl⟩
  obtain ⟨t0, rfl⟩ := r1
  refine ⟨"str", "str.join", PySem.F.plainAttrs_str, PySem.F.slot_str_join, PySem.F.type_str_join, typeIs_str _ _ _, (fun a e => by cases e), ?_⟩
  refine Calls.callWith_builtin rfl (Calls.evalArgs_plain (Calls.spliced_cons ?_))
  refine wpAny_Call_Name_kw (ld_blt I1 (C.glb _ hx) hm (show bootBuiltins "reversed" = some (.type "reversed") by decide +kernel) ?_ (by decide) (C.dbG _ hx))
  refine PyProof.Rows.callWith_type1 (thn (pa_cons ha pa_nil rfl pq pins s1 σ H1 (fun vs H2 => ∃ v t μ1 α1, vs = [v] ∧ Stp α H1 α1 H2 ∧ MRel D φ α1 H2 μ1 ∧ Den D φ α1 H2 t v ∧ Post D W φ α1 H2 σ (RV D φ Q) (joinRT sep t μ1)) I1 ⟨φ, α, τ, μ, sr, mr, p.bind.mono fun t μ' α' H' st m q v d => ⟨v, t, μ', α', rfl, st, m, d, q⟩⟩) ?_) rfl rfl
  rintro us s2 ⟨vs, H2, I2, rv, v, t, μ1, α1, rfl, st, m, d, q⟩
  obtain ⟨u, rfl, r2⟩ := vals1 rv
  have key : ∃ ad ls ys, u = .ref ad ∧ s2.heap.IsList ad (strValues ls).toArray ∧ ls.map (·.1) = ys ∧ (JoinOk sep ys.reverse = true ∧ ys.length ≤ room) ∧ Post D W φ α1 H2 σ (RV D φ Q) (.ok (.str (Txt.join sep ys.reverse)) μ1) := by
    unfold joinRT at q
    split at q
    · obtain ⟨ys, hys, q⟩ := q.som
      obtain ⟨hok, q⟩ := q.grd
      obtain ⟨ad, xs, rfl, _, _, rd, l⟩ := d
      cases r2
      obtain ⟨its, rv2, pl, hz⟩ := I2.list (.inl rd)
      obtain ⟨ls, e1, e2⟩ := strsOf_at hys l rv2
      exact ⟨ad, ls, ys, rfl, by rw [e1]; exact pl.isList, e2, hok, q⟩
    · obtain ⟨ts, ys, hj, hys, q⟩ := q.ex2
      obtain ⟨hok, q⟩ := Post.grd (c := JoinOk sep ys.reverse = true ∧ ys.length ≤ room) (r := RE.ok (T.str (Txt.join sep ys.reverse)) μ1) q
      obtain ⟨ad, hi, rfl⟩ := d
      cases r2
      obtain ⟨xs, e, l⟩ := m.ob _ ad _ hi hj
      obtain ⟨its, rv2, pl, hz⟩ := I2.list (.inl (.inl e))
      obtain ⟨ls, e1, e2⟩ := strsOf_at hys l rv2
      exact ⟨ad, ls, ys, rfl, by rw [e1]; exact pl.isList, e2, hok, q⟩
    · exact q.elim
  obtain ⟨ad, ls, ys, rfl, hl, e2, hok, q⟩ := key
  have hlt : ad < s2.heap.objs.size := by obtain ⟨o, ho, _⟩ := hl; exact Heap.lt_size ho
  have hne : ad ≠ s2.heap.objs.size := Nat.ne_of_lt hlt
  have hlen : ls.length = ys.length := by rw [← e2, List.length_map]
  refine call_reversed_list hl (Calls.spliced_nil ?_)
  have hsz : (strValues ls).toArray.size = ls.length := by simp [strValues]
  have F := I2.fpOk (H' := H2) (Nat.le_refl _) (I2.hok.fresh (Nat.le_refl _))
  have I3 : Inv X pins σ H2 { s2 with heap := s2.heap.push (revObj ad (((strValues ls).toArray.size : Int) - 1)) } := I2.kept (t' := s2.toks) fun b o e => Heap.get?_push_of_some _ e
  refine join_rev (I := s2.heap.objs.size) (l := ad) (ys := ls) (I3.ok.hd (C.clm hc)) ⟨_, Heap.get?_push_size _ rfl, rfl, by rw [← hsz]; rfl⟩ (hl.push _) hne (by rw [hlen]; exact room_line hok.2) (by rw [e2]; exact hok.1) fun s' t' kk k1 k2 k3 k4 => ?_
  obtain ⟨f0, f1, f2, f3, f4, f5⟩ := F
  have es : { s' with toks := kk } = { { s2 with heap := s2.heap.push (revObj ad (((strValues ls).toArray.size : Int) - 1)) } with heap := s'.heap, toks := kk } := by
    obtain ⟨a1, a2, a3, a4, a5⟩ := s'
    have k2 : a2 = s2.gens := k2
    have k3 : a3 = s2.drawn := k3
    have k4 : a5 = s2.os := k4
    subst k2 k3 k4
    rfl
  rw [es, e2]
  exact ⟨.str _, H2, I3.turned (fun b o hb e => k1 b o hb e) f0 f1 f3 f4 f5, ⟨t', rfl⟩, q.here m rfl⟩
theorem mt_index : MtR X "str.index" (fun x vs H Q => ∃ i j n r, x = .str i ∧ vs = [.str j] ∧ Builtin.Str.occurrences i j 0 i.length 1 = n :: r ∧ Q (.int (n : Nat)) H) := by
  intro pins s σ H x vs v us Q I rx rv h
  obtain ⟨i, j, n, r, rfl, rfl, ho, q⟩ := h
  obtain ⟨t0, rfl⟩ := rx
  obtain ⟨u, rfl, t1, rfl⟩ := rv.one
  exact SC.index ho ⟨.int n, H, I.tok _, ⟨_, rfl⟩, q⟩
theorem se_index {o : Expr} {pa pc : Pos} {go : De} (hp : plainOb o = true) (hs : noStar a = true) (hline : (pa.endLine == pc.line) = true) (ho : PE X o (rdE D W go)) (ha : PE X a (rdE D W f)) :
    PE X (.Call (.Attribute o "index" pa) [a] [] pc) (rdE D W (eIndex go f)) := by
  have hb : starEach [a] X.env = [(false, eval a X.env)] := noStar_of hs
  refine PE.mono (pe_bm PySem.F.plainAttrs_str PySem.F.slot_str_index PySem.F.type_str_index mt_index ho (pa_cons ha pa_nil (noStar_of hs)) (base_of hp) (by rw [hb]; rfl) hline (noStar_of hs) rfl) ?_
  rintro σ H Q ⟨φ, α, τ, μ, sr, mr, p⟩
  refine ⟨φ, α, τ, μ, sr, mr, p.bind.mono fun ot μ1 α1 H1 st1 m1 q ov dv => ?_⟩
  split at q
  case h_2 => exact q.elim
  have dv : ov = .str _ := dv
  subst dv
  refine ⟨rfl, φ, α1, τ, μ1, sr.step st1, m1, q.bind.mono fun t μ2 α2 H2 st2 m2 q2 v d => ?_⟩
  split at q2
  case h_2 => exact q2.elim
  obtain ⟨n, q2⟩ := Post.ex0 q2
  obtain ⟨r, hocc, q2⟩ := Post.ex1 q2
  have d : v = .str _ := d
  subst d
  exact ⟨_, _, _, _, rfl, rfl, hocc, Post.here q2 m2 rfl⟩
end
end NH
end
section
set_option linter.all false
set_option maxRecDepth 100000
set_option maxHeartbeats 4000000
namespace NH
open PySem PySem.Spec PyProof.Rows L2
structure ItV (D : DP) (J : It) (Ok : List Addr → List Addr → Hp → Prop) (xs : List T) : Prop where
  go : ∀ (i : Nat) φ α H, Ok φ α H → i < xs.length → J.go i H
  yld : ∀ (i : Nat) φ α H v H' t, Ok φ α H → xs[i]? = some t → J.yld i H v H' → Same H H' ∧ Den D φ α H' t v
  stop : ∀ φ α H, Ok φ α H → J.stop xs.length H
def OkI (D : DP) (φ α : List Addr) (H : Hp) (xs : List T) (lv : Mem → Prop) (Ok : List Addr → List Addr → Hp → Prop) : Prop := ∀ φ' α' H' μ', Lk φ α H φ' α' H' → MRel D φ' α' H' μ' → lv μ' → Ok φ' α' H'
def rdI (D : DP) (W : XW) (f : Di) : TI := fun σ H R => ∃ φ α τ μ, SRel D φ α H τ σ ∧ MRel D φ α H μ ∧
  Post D W φ α H σ (fun p μ' α' H' => ∀ J Ok, ItV D J Ok p.1 → OkI D φ α' H' p.1 p.2 Ok → p.2 μ' → R J H') (f τ μ).re
theorem Lk.trans {φ φ1 φ2 α α1 α2 : List Addr} {H H1 H2 : Hp} (a : Lk φ α H φ1 α1 H1) (b : Lk φ1 α1 H1 φ2 α2 H2) : Lk φ α H φ2 α2 H2 :=
  ⟨fun x o n1 n2 e => let ⟨m1, m2, e1⟩ := a.ob x o n1 n2 e; b.ob x o m1 m2 e1, fun i x e => b.st i x (a.st i x e)⟩
theorem den_map {D : DP} {φ α : List Addr} {H : Hp} {γ : Type} {f : γ → T} {xs : List γ} {i : Nat} {t : T} (h : (xs.map f)[i]? = some t) : ∃ a, xs[i]? = some a ∧ t = f a := by
  rw [List.getElem?_map] at h
  cases q : xs[i]? with
  | none => rw [q] at h; cases h
  | some a => rw [q] at h; cases h; exact ⟨a, rfl, rfl⟩
section
variable {X : Cx} {D : DP} {W : XW} {Γ : Cn} {k : Nat} {pins : List (Addr × Obj)} {s : Shared} {σ : St} {H : Hp} {φ α : List Addr} {τ : Sl} {μ : Mem} {f g h : De} {a b c tg : Expr} {pos : Pos} {es : List Expr}
theorem itv_list {K : PySem.W.Frag} {ad : Addr} {xs : List T} : ItV D (Itl K ad) (fun φ α H => ∃ vs, Rd H ad (.lst vs) ∧ DenL D φ α H xs vs) xs :=
  ⟨fun i φ α H ⟨vs, ok, l⟩ hi => ⟨vs, vs[i]'(by rw [← l.length]; exact hi), .inl ok, by simp⟩, fun i φ α H v H' t ⟨vs, ok, l⟩ hi y => by
    obtain ⟨rfl, y⟩ := y
    obtain ⟨x, hx, d⟩ := l.get hi
    have e := y vs (.inl ok)
    rw [e] at hx; cases hx; exact ⟨fun _ _ z => z, d⟩, fun φ α H ⟨vs, ok, l⟩ => ⟨vs, .inl ok, by rw [l.length]; exact Nat.le_refl _⟩⟩
theorem itv_tup {K : PySem.W.Frag} {ad : Addr} {xs : List T} : ItV D (Itt K ad) (fun φ α H => ∃ vs, Rd H ad (.tup vs) ∧ DenL D φ α H xs vs) xs :=
  ⟨fun i φ α H ⟨vs, ok, l⟩ hi => ⟨vs, vs[i]'(by rw [← l.length]; exact hi), .inl ok, by simp⟩, fun i φ α H v H' t ⟨vs, ok, l⟩ hi y => by
    obtain ⟨rfl, y⟩ := y
    obtain ⟨x, hx, d⟩ := l.get hi
    have e := y vs (.inl ok)
    rw [e] at hx; cases hx; exact ⟨fun _ _ z => z, d⟩, fun φ α H ⟨vs, ok, l⟩ => ⟨vs, .inl ok, by rw [l.length]; exact Nat.le_refl _⟩⟩
theorem range_get {n i j : Nat} (h : (List.range n)[i]? = some j) : j = i := by
  have := (List.getElem?_eq_some_iff.mp h).2
  simpa using this.symm
def ItC (z : Str) : It := ⟨fun i _ => i < z.cps.toList.length, fun i H x H' => H' = H ∧ ∃ c, z.cps.toList[i]? = some c ∧ x = .str ⟨#[c]⟩, fun i _ => z.cps.toList.length ≤ i⟩
theorem itv_str {z : Str} : ItV D (ItC z) (fun _ _ _ => True) (z.cps.toList.map fun c => T.str ⟨#[c]⟩) :=
  ⟨fun i φ α H _ hi => by (show i < _); simpa using hi, fun i φ α H v H' t _ hi y => by
    obtain ⟨j, hj, rfl⟩ := den_map (D := D) (φ := φ) (α := α) (H := H) hi
    obtain ⟨rfl, c, hc, rfl⟩ := y
    rw [hj] at hc; cases hc; exact ⟨fun _ _ z => z, rfl⟩, fun φ α H _ => by show _ ≤ _; simp⟩
theorem turn_str {P : Program} {w : World} {K : PySem.W.Frag} {tg : Expr} {kd : String} (hk : kd = "str_ascii_iterator" ∨ kd = "str_iterator") (it : Addr) (z : Str) (t0 : Tok) : Turn P w K tg (ItC z) [it] it (fun i h => h.IsStrIter it kd z t0 i) where
  mem := by simp
  obj := fun i h st b hb => by
    have e : b = it := by simpa using hb
    subst e
    obtain ⟨o, e, c, d⟩ := st
    exact ⟨o, e, fun v z => by rw [d] at z; cases z⟩
  keep := fun i h h' st k => let ⟨o, ho, r⟩ := st; ⟨o, k it (by simp) o ho, r⟩
  item := by
    intro X hP hw hK hc i pins s σ H E I hf st hg
    subst hP hw hK
    obtain ⟨f0, f1, f2, f3, f4, f5⟩ := hf it (by simp)
    have hi : i < z.cps.size := by simpa [ItC] using hg
    have hcx : z.cps[i]? = some z.cps[i] := Array.getElem?_eq_getElem hi
    have hcl : z.cps.toList[i]? = some z.cps[i] := by rw [Array.getElem?_toList]; exact hcx
    rcases hk with rfl | rfl
    · refine wpAny_pyNext_ascii_item st hcx fun h' st' sb => ?_
      have I1 : Inv X pins σ H { s with heap := h', toks := s.toks + 1 } := I.turned (fun b o hb e => (sb.2 b hb).trans e) f0 f1 f3 f4 f5
      obtain ⟨o, e, c, d⟩ := id st'
      exact ⟨.str ⟨#[z.cps[i]]⟩ s.toks, rfl, go_of (s := { s with heap := h', toks := s.toks + 1 }) e c d (by decide) ⟨.str ⟨#[z.cps[i]]⟩, H, I1, ⟨_, rfl⟩, ⟨rfl, z.cps[i], hcl, rfl⟩, st', fun b hb => (hf b hb).1⟩⟩
    · refine wpAny_pyNext_wide_item st hcx fun h' st' sb => ?_
      have I1 : Inv X pins σ H { s with heap := h', toks := s.toks + 1 } := I.turned (fun b o hb e => (sb.2 b hb).trans e) f0 f1 f3 f4 f5
      obtain ⟨o, e, c, d⟩ := id st'
      exact ⟨.str ⟨#[z.cps[i]]⟩ s.toks, rfl, go_of (s := { s with heap := h', toks := s.toks + 1 }) e c d (by decide) ⟨.str ⟨#[z.cps[i]]⟩, H, I1, ⟨_, rfl⟩, ⟨rfl, z.cps[i], hcl, rfl⟩, st', fun b hb => (hf b hb).1⟩⟩
  done := by
    intro X hP hw hK hc i pins s σ H E I hf st hg
    subst hP hw hK
    obtain ⟨f0, f1, f2, f3, f4, f5⟩ := hf it (by simp)
    have hx : z.cps[i]? = none := Array.getElem?_eq_none (by have : z.cps.toList.length ≤ i := hg; simpa using this)
    rcases hk with rfl | rfl
    · exact wpAny_pyNext_ascii_end (I.ok.hd hc) st hx fun h' eb => ⟨rfl, I.turned (t' := s.toks) (fun b o hb e => eb b o hb e) f0 f1 f3 f4 f5⟩
    · exact wpAny_pyNext_wide_end (I.ok.hd hc) st hx fun h' eb => ⟨rfl, I.turned (t' := s.toks) (fun b o hb e => eb b o hb e) f0 f1 f3 f4 f5⟩
  self := fun _ _ _ _ _ st h => by
    rcases hk with rfl | rfl
    · exact wpAny_pyIter_striter_ascii st h
    · exact wpAny_pyIter_striter_wide st h
theorem si_expr (ha : PE X a (rdE D W f)) : PI X tg a (rdI D W (iE f)) := by
  rintro pins s σ H R I ⟨φ, α, τ, μ, sr, mr, p⟩
  refine thn (sub ha I sr mr p) ?_
  rintro u s1 ⟨v, H1, t, μ1, α1, I1, r1, st1, sr1, mr1, d1, p1⟩
  cases t with
  | lst ts =>
    obtain ⟨ad, vs, rfl, n1, n2, q, l⟩ := d1
    cases r1
    obtain ⟨its, rv, pl, hz⟩ := I1.list (.inl q)
    refine wpAny_pyIter_list pl.isList ?_
    refine ⟨s1.heap.objs.size, [s1.heap.objs.size], _, _, H1, rfl, I1.kept (t' := s1.toks) fun b o e => Heap.get?_push_of_some _ e, turn_list ad _, ⟨_, Heap.get?_push_size _ rfl, rfl, rfl⟩, fun b hb => ?_, ?_⟩
    · have e : b = s1.heap.objs.size := by simpa using hb
      subst e
      exact I1.fpOk (Nat.le_refl _) (I1.hok.fresh (Nat.le_refl _))
    · have p2 : Post D W φ α1 H1 σ _ (RE.ok (ts, lvT) μ1) := p1
      exact p2.ok (Stp.refl _ _) mr1 _ _ itv_list (fun φ' α' H' μ' lk _ _ => by
        obtain ⟨a', ws, e, _, _, q', l'⟩ := Den.lk lk (show Den D φ α1 H1 (.lst ts) (.ref ad) from ⟨ad, vs, rfl, n1, n2, q, l⟩)
        cases e; exact ⟨ws, q', l'⟩) trivial
  | tup ts =>
    obtain ⟨ad, vs, rfl, n1, n2, q, l⟩ := d1
    cases r1
    obtain ⟨its, rv, pl, hz⟩ := I1.tuple (.inl q)
    refine wpAny_pyIter_tuple (show s1.heap.IsTuple ad its.toArray from pl) ?_
    refine ⟨s1.heap.objs.size, [s1.heap.objs.size], _, _, H1, rfl, I1.kept (t' := s1.toks) fun b o e => Heap.get?_push_of_some _ e, turn_tuple ad _, ⟨_, Heap.get?_push_size _ rfl, rfl, rfl⟩, fun b hb => ?_, ?_⟩
    · have e : b = s1.heap.objs.size := by simpa using hb
      subst e
      exact I1.fpOk (Nat.le_refl _) (I1.hok.fresh (Nat.le_refl _))
    · have p2 : Post D W φ α1 H1 σ _ (RE.ok (ts, lvT) μ1) := p1
      exact p2.ok (Stp.refl _ _) mr1 _ _ itv_tup (fun φ' α' H' μ' lk _ _ => by
        obtain ⟨a', ws, e, _, _, q', l'⟩ := Den.lk lk (show Den D φ α1 H1 (.tup ts) (.ref ad) from ⟨ad, vs, rfl, n1, n2, q, l⟩)
        cases e; exact ⟨ws, q', l'⟩) trivial
  | «mut» j =>
    obtain ⟨ad, hj, rfl⟩ := d1
    cases r1
    have p2 : Post D W φ α1 H1 σ _ (fun K _ => ∃ xs, μ1[j]? = some (.lst xs) ∧ K (xs, lvM j xs) μ1) := p1
    obtain ⟨xs, hx, p2⟩ := p2.ex1
    obtain ⟨vs, q, l⟩ := mr1.ob j ad _ hj hx
    obtain ⟨its, rv, pl, hz⟩ := I1.list (.inl (.inl q))
    refine wpAny_pyIter_list pl.isList ?_
    refine ⟨s1.heap.objs.size, [s1.heap.objs.size], _, _, H1, rfl, I1.kept (t' := s1.toks) fun b o e => Heap.get?_push_of_some _ e, turn_list ad _, ⟨_, Heap.get?_push_size _ rfl, rfl, rfl⟩, fun b hb => ?_, ?_⟩
    · have e : b = s1.heap.objs.size := by simpa using hb
      subst e
      exact I1.fpOk (Nat.le_refl _) (I1.hok.fresh (Nat.le_refl _))
    · have p2 : Post D W φ α1 H1 σ _ (RE.ok (xs, lvM j xs) μ1) := p2
      exact p2.ok (Stp.refl _ _) mr1 _ _ itv_list (fun φ' α' H' μ' lk m hl => by
        obtain ⟨ws, q', l'⟩ := m.ob j ad _ (lk.st j ad hj) hl
        exact ⟨ws, .inl q', l'⟩) hx
  | str z =>
    have d1 : v = .str z := d1
    subst d1
    obtain ⟨t0, rfl⟩ := r1
    have fin : ∀ {kd : String}, (kd = "str_ascii_iterator" ∨ kd = "str_iterator") → PIE X pins σ tg R (.ref s1.heap.objs.size) { s1 with heap := s1.heap.push { cls := .type kd, data := .fields #[.str z t0, .int 0 0] } } := fun {kd} hk => by
      refine ⟨s1.heap.objs.size, [s1.heap.objs.size], _, _, H1, rfl, I1.kept (t' := s1.toks) fun b o e => Heap.get?_push_of_some _ e, turn_str hk _ z t0, ⟨_, Heap.get?_push_size _ rfl, rfl, rfl⟩, fun b hb => ?_, ?_⟩
      · have e : b = s1.heap.objs.size := by simpa using hb
        subst e
        exact I1.fpOk (Nat.le_refl _) (I1.hok.fresh (Nat.le_refl _))
      · have p2 : Post D W φ α1 H1 σ _ (RE.ok (signsT z, lvT) μ1) := p1
        exact p2.ok (Stp.refl _ _) mr1 _ _ itv_str (fun _ _ _ _ _ _ _ => True.intro) trivial
    cases ha : z.cps.all (· < 128) with
    | true => exact wpAny_pyIter_ascii ha (fin (.inl rfl))
    | false => exact wpAny_pyIter_wide ha (fin (.inr rfl))
  | _ => exact Post.elim p1
theorem vals3 : ∀ {x y z : V} {us : List Value}, Vals [x, y, z] us → ∃ u v w, us = [u, v, w] ∧ RelV x u ∧ RelV y v ∧ RelV z w
  | _, _, _, _, .cons r (.cons q (.cons p .nil)) => ⟨_, _, _, rfl, r, q, p⟩
def ItS (lo c : Int) (n : Nat) : It := ⟨fun i _ => i < n, fun i H x H' => H' = H ∧ x = .int (lo + i * c), fun i _ => n ≤ i⟩
theorem turn_rangeS {P : Program} {w : World} {K : PySem.W.Frag} {tg : Expr} (it : Addr) (lo c : Int) (n : Nat) : Turn P w K tg (ItS lo c n) [it] it (fun i h => IsRangeIter h it (lo + (i : Nat) * c) ((n : Int) - (i : Nat)) c) where
  mem := by simp
  obj := fun i h st b hb => by
    have e : b = it := by simpa using hb
    subst e
    exact ⟨_, st, fun v z => by cases (show Data.fields _ = Data.cell v from z)⟩
  keep := fun i h h' st k => k it (by simp) _ st
  item := by
    intro X hP hw hK hc i pins s σ H E I hf st hg
    subst hP hw hK
    obtain ⟨f0, f1, f2, f3, f4, f5⟩ := hf it (by simp)
    have W := Walks.range (prog := X.prog) (w := X.w) (I.ok.hd hc) it lo c n
    refine W.item i s _ _ hg st fun v h' tk hv st' kk => ?_
    obtain ⟨t, rfl⟩ := hv
    have I1 : Inv X pins σ H { s with heap := h', toks := tk } := I.turned (fun b o hb e => kk b o (by simpa using hb) e) f0 f1 f3 f4 f5
    exact ⟨_, rfl, go_of (s := { s with heap := h', toks := tk }) (n := "range_iterator") st' rfl rfl (by decide) ⟨.int (lo + i * c), H, I1, ⟨t, rfl⟩, ⟨rfl, rfl⟩, st', fun b hb => (hf b hb).1⟩⟩
  done := by
    intro X hP hw hK hc i pins s σ H E I hf st hg
    subst hP hw hK
    obtain ⟨f0, f1, f2, f3, f4, f5⟩ := hf it (by simp)
    exact wpAny_pyNext_range_end (I.ok.hd hc) st (by have : n ≤ i := hg; omega) fun h' eb => ⟨rfl, I.turned (t' := s.toks) (fun b o hb e => eb b o hb e) f0 f1 f3 f4 f5⟩
  self := fun _ _ _ _ _ st h => wpAny_pyIter_rangeiter st h
theorem turn_rangeL {P : Program} {w : World} {K : PySem.W.Frag} {tg : Expr} (it : Addr) (lo c : Int) (n : Nat) : Turn P w K tg (ItS lo c n) [it] it (fun i h => IsLongIter h it (lo + (i : Nat) * c) ((n : Int) - (i : Nat)) c) where
  mem := by simp
  obj := fun i h st b hb => by
    have e : b = it := by simpa using hb
    subst e
    exact ⟨_, st, fun v z => by cases (show Data.fields _ = Data.cell v from z)⟩
  keep := fun i h h' st k => k it (by simp) _ st
  item := by
    intro X hP hw hK hc i pins s σ H E I hf st hg
    subst hP hw hK
    obtain ⟨f0, f1, f2, f3, f4, f5⟩ := hf it (by simp)
    have W := Walks.longrange (prog := X.prog) (w := X.w) (I.ok.hd hc) it lo c n
    refine W.item i s _ _ hg st fun v h' tk hv st' kk => ?_
    obtain ⟨t, rfl⟩ := hv
    have I1 : Inv X pins σ H { s with heap := h', toks := tk } := I.turned (fun b o hb e => kk b o (by simpa using hb) e) f0 f1 f3 f4 f5
    exact ⟨_, rfl, go_of (s := { s with heap := h', toks := tk }) (n := "longrange_iterator") st' rfl rfl (by decide) ⟨.int (lo + i * c), H, I1, ⟨t, rfl⟩, ⟨rfl, rfl⟩, st', fun b hb => (hf b hb).1⟩⟩
  done := by
    intro X hP hw hK hc i pins s σ H E I hf st hg
    subst hP hw hK
    obtain ⟨f0, f1, f2, f3, f4, f5⟩ := hf it (by simp)
    exact wpAny_pyNext_long_end (I.ok.hd hc) st (by have : n ≤ i := hg; omega) fun h' eb => ⟨rfl, I.turned (t' := s.toks) (fun b o hb e => eb b o hb e) f0 f1 f3 f4 f5⟩
  self := fun _ _ _ _ _ st h => wpAny_pyIter_longiter st h
theorem size_is {a b c : Int} (hc : 0 < c) : Builtin.Range.rangeSize a b c = if a < b then (b - a - 1) / c + 1 else 0 := by
  unfold Builtin.Range.rangeSize
  rw [if_pos hc]
theorem range_itS {pins : List (Addr × Obj)} {σ : St} {H : Hp} {s : Shared} {R : It → Hp → Prop} {E : Value → Shared → Prop} {lo hi c : Int} {t u v : Tok} {tk : Nat} (I : Inv X pins σ H s) (h3 : 0 < c)
    (q : R (ItS lo c (if lo < hi then (hi - lo - 1) / c + 1 else 0 : Int).toNat) H) : wpAny (model X.prog X.w) X.A (pyIter (.ref s.heap.objs.size)) (PIE X pins σ tg R) E { s with heap := s.heap.push { cls := .type "range", data := .fields #[.int lo t, .int hi u, .int c v] }, toks := tk } := by
  have I1 : Inv X pins σ H { s with heap := s.heap.push { cls := .type "range", data := .fields #[.int lo t, .int hi u, .int c v] }, toks := tk } := I.kept fun b o e => Heap.get?_push_of_some _ e
  have e1 : lo + ((0 : Nat) : Int) * c = lo := by simp
  have e2 : (((if lo < hi then (hi - lo - 1) / c + 1 else 0 : Int).toNat : Nat) : Int) - ((0 : Nat) : Int) = Builtin.Range.rangeSize lo hi c := by
    rw [size_is h3]
    have : 0 ≤ (if lo < hi then (hi - lo - 1) / c + 1 else 0) := by
      split
      · have h1 : 0 ≤ (hi - lo - 1) / c := Int.ediv_nonneg (by omega) (by omega)
        omega
      · omega
    omega
  have fr : ∀ b ∈ [(s.heap.push { cls := .type "range", data := .fields #[.int lo t, .int hi u, .int c v] }).objs.size], b = (s.heap.push { cls := .type "range", data := .fields #[.int lo t, .int hi u, .int c v] }).objs.size := fun b hb => by simpa using hb
  cases hsm : Builtin.Range.small lo hi c with
  | true =>
    refine wpAny_pyIter_range (IsRange.new ..) hsm ?_
    refine ⟨(s.heap.push { cls := .type "range", data := .fields #[.int lo t, .int hi u, .int c v] }).objs.size, [(s.heap.push { cls := .type "range", data := .fields #[.int lo t, .int hi u, .int c v] }).objs.size], _, _, H, rfl,
      I1.kept (t' := tk) fun b o e => Heap.get?_push_of_some _ e, turn_rangeS _ lo c (if lo < hi then (hi - lo - 1) / c + 1 else 0 : Int).toNat, ?_, fun b hb => ?_, q⟩
    · show IsRangeIter _ _ (lo + ((0 : Nat) : Int) * c) ((((if lo < hi then (hi - lo - 1) / c + 1 else 0 : Int).toNat : Nat) : Int) - ((0 : Nat) : Int)) c
      rw [e1, e2]
      exact Heap.get?_push_size _ rfl
    · rw [fr b hb]
      exact I1.fpOk (Nat.le_refl _) (I1.hok.fresh (Nat.le_refl _))
  | false =>
    refine wpAny_pyIter_longrange (IsRange.new ..) hsm ?_
    refine ⟨(s.heap.push { cls := .type "range", data := .fields #[.int lo t, .int hi u, .int c v] }).objs.size, [(s.heap.push { cls := .type "range", data := .fields #[.int lo t, .int hi u, .int c v] }).objs.size], _, _, H, rfl,
      I1.kept (t' := tk) fun b o e => Heap.get?_push_of_some _ e, turn_rangeL _ lo c (if lo < hi then (hi - lo - 1) / c + 1 else 0 : Int).toNat, ?_, fun b hb => ?_, q⟩
    · show IsLongIter _ _ (lo + ((0 : Nat) : Int) * c) ((((if lo < hi then (hi - lo - 1) / c + 1 else 0 : Int).toNat : Nat) : Int) - ((0 : Nat) : Int)) c
      rw [e1, e2]
      exact Heap.get?_push_size _ rfl
    · rw [fr b hb]
      exact I1.fpOk (Nat.le_refl _) (I1.hok.fresh (Nat.le_refl _))
theorem itv_rangeS {lo c : Int} {n : Nat} : ItV D (ItS lo c n) (fun _ _ _ => True) ((List.range n).map fun (i : Nat) => T.int (lo + i * c)) :=
  ⟨fun i φ α H _ hi => by (show i < n); simpa using hi, fun i φ α H v H' t _ hi y => by
    obtain ⟨j, hj, rfl⟩ := den_map (D := D) (φ := φ) (α := α) (H := H) hi
    rw [range_get hj]
    obtain ⟨rfl, rfl⟩ := y
    exact ⟨fun _ _ z => z, rfl⟩, fun φ α H _ => by show n ≤ _; simp⟩
theorem si_range3 (C : Ck D W Γ X k) {p0 : Pos} (hx : ("range" : Str) ∈ Γ.G) (hg : Γ.gl "range" = .none) (ha' : noStar a = true) (hb' : noStar b = true) (hc' : noStar c = true) (ha : PE X a (rdE D W f)) (hb : PE X b (rdE D W g)) (hc : PE X c (rdE D W h)) :
    PI X tg (.Call (.Name "range" p0) [a, b, c] [] pos) (rdI D W (iRng3 f g h)) := by
  have hm := C.glo _ hx
  rw [hg] at hm
  rintro pins s σ H R I ⟨φ, α, τ, μ, sr, mr, p⟩
  have s3 : starEach [a, b, c] X.env = [(false, eval a X.env), (false, eval b X.env), (false, eval c X.env)] := by
    rw [noStar_of ha', noStar_of hb', noStar_of hc']; rfl
  refine Call_ (ld_blt I (C.glb _ hx) hm boot_range (PyProof.Rows.callWith_type1 (thn (pa_cons ha (pa_cons hb (pa_cons hc pa_nil (noStar_of hc')) (noStar_of hb')) (noStar_of ha') pos pins s σ H (fun vs H1 => ∃ i j l : Int, vs = [.int i, .int j, .int l] ∧ (0 < l ∧ l < 1073741824) ∧ R (ItS i l (if i < j then (j - i - 1) / l + 1 else 0 : Int).toNat) H1) I ?_) ?_) (noStar_of ha') (noStars (by simp [hb', hc']))))
  · refine ⟨φ, α, τ, μ, sr, mr, p.bind.mono fun x μ1 α1 H1 st1 m1 q1 v1 d1 => ⟨φ, α1, τ, μ1, sr.step st1, m1, q1.bind.mono fun y μ2 α2 H2 st2 m2 q2 v2 d2 => ⟨φ, α2, τ, μ2, (sr.step st1).step st2, m2, q2.bind.mono fun z μ3 α3 H3 st3 m3 q3 v3 d3 => ?_⟩⟩⟩
    cases x with
    | int a =>
      cases y with
      | int b =>
        cases z with
        | int c =>
          have q3 : Post D W φ α3 H3 σ _ (RE.grd (inL a ∧ inL b ∧ 0 < c ∧ c < 1073741824) (RE.ok (rangeS a b c, lvT) μ3)) := q3
          obtain ⟨hh, q3⟩ := q3.grd
          have d1 : v1 = .int _ := d1
          have d2 : v2 = .int _ := d2
          have d3 : v3 = .int _ := d3
          subst d1 d2 d3
          exact ⟨_, _, _, rfl, hh.2.2, q3.ok (Stp.refl _ _) m3 _ _ itv_rangeS (fun _ _ _ _ _ _ _ => True.intro) trivial⟩
        | _ => exact Post.elim q3
      | _ => exact Post.elim q3
    | _ => exact Post.elim q3
  · rintro us s1 ⟨vs, H1, I1, rv, i, j, l, rfl, h3, q⟩
    obtain ⟨u1, u2, u3, rfl, r1, r2, r3⟩ := vals3 rv
    obtain ⟨t1, rfl⟩ := r1
    obtain ⟨t2, rfl⟩ := r2
    obtain ⟨t3, rfl⟩ := r3
    exact call_range_3 (by omega) (range_itS I1 h3.1 q) (.inl (PyProof.noPylong_small (by omega)))
theorem si_range2 (C : Ck D W Γ X k) {p0 : Pos} (hx : ("range" : Str) ∈ Γ.G) (hg : Γ.gl "range" = .none) (ha' : noStar a = true) (hb' : noStar b = true) (ha : PE X a (rdE D W f)) (hb : PE X b (rdE D W g)) :
    PI X tg (.Call (.Name "range" p0) [a, b] [] pos) (rdI D W (iRng2 f g)) := by
  have hm := C.glo _ hx
  rw [hg] at hm
  rintro pins s σ H R I ⟨φ, α, τ, μ, sr, mr, p⟩
  refine Call_ (ld_blt I (C.glb _ hx) hm boot_range (PyProof.Rows.callWith_type1 (thn (pa_cons ha (pa_cons hb pa_nil (noStar_of hb')) (noStar_of ha') pos pins s σ H (fun vs H1 => ∃ i j : Int, vs = [.int i, .int j] ∧ R (ItS i 1 (if i < j then (j - i - 1) / 1 + 1 else 0 : Int).toNat) H1) I ?_) ?_) (by rw [noStar_of ha', noStar_of hb']) (by rw [noStar_of hb']; rfl)))
  · refine ⟨φ, α, τ, μ, sr, mr, p.bind.mono fun x μ1 α1 H1 st1 m1 q1 v1 d1 => ⟨φ, α1, τ, μ1, sr.step st1, m1, q1.bind.mono fun y μ2 α2 H2 st2 m2 q2 v2 d2 => ?_⟩⟩
    cases x with
    | int i =>
      cases y with
      | int j =>
        have q2 : Post D W φ α2 H2 σ _ (RE.grd (inL i ∧ inL j) (RE.ok (rangeS i j 1, lvT) μ2)) := q2
        obtain ⟨hh, q2⟩ := q2.grd
        have d1 : v1 = .int _ := d1
        have d2 : v2 = .int _ := d2
        subst d1 d2
        exact ⟨_, _, rfl, q2.ok (Stp.refl _ _) m2 _ _ itv_rangeS (fun _ _ _ _ _ _ _ => True.intro) trivial⟩
      | _ => exact Post.elim q2
    | _ => exact Post.elim q2
  · rintro us s1 ⟨vs, H1, I1, rv, i, j, rfl, q⟩
    cases rv with
    | cons r rr =>
      cases rr with
      | cons r' rr =>
        cases rr
        obtain ⟨t, rfl⟩ := r
        obtain ⟨t', rfl⟩ := r'
        exact call_range_2 (range_itS I1 (by omega) q)
theorem si_range (C : Ck D W Γ X k) {p0 : Pos} (hx : ("range" : Str) ∈ Γ.G) (hg : Γ.gl "range" = .none) (hs : noStar a = true) (ha : PE X a (rdE D W f)) :
    PI X tg (.Call (.Name "range" p0) [a] [] pos) (rdI D W (iRng f)) := by
  have hm := C.glo _ hx
  rw [hg] at hm
  rintro pins s σ H R I ⟨φ, α, τ, μ, sr, mr, p⟩
  refine Call_ (ld_blt I (C.glb _ hx) hm boot_range (PyProof.Rows.callWith_type1 (thn (pa_cons ha pa_nil (noStar_of hs) pos pins s σ H (fun vs H1 => ∃ j : Int, vs = [.int j] ∧ R (ItS 0 1 (if 0 < j then (j - 0 - 1) / 1 + 1 else 0 : Int).toNat) H1) I ?_) ?_) (noStar_of hs) rfl))
  · refine ⟨φ, α, τ, μ, sr, mr, p.bind.mono fun t μ' α' H' st m q v d => ?_⟩
    cases t with
    | int n =>
      have d : v = .int _ := d
      subst d
      have q : Post D W φ α' H' σ _ (RE.grd (inL n) (RE.ok (rangeT n, lvT) μ')) := q
      obtain ⟨hn, q⟩ := q.grd
      have e2 : (if 0 < n then (n - 0 - 1) / 1 + 1 else 0 : Int).toNat = n.toNat := by
        split
        · rw [Int.ediv_one]; congr 1; omega
        · omega
      have e3 : ((List.range n.toNat).map fun (i : Nat) => T.int (0 + i * 1)) = rangeT n := by
        unfold rangeT
        refine List.map_congr_left fun i _ => ?_
        simp
      refine ⟨n, rfl, ?_⟩
      rw [e2]
      exact q.ok (Stp.refl _ _) m _ _ (e3 ▸ itv_rangeS) (fun _ _ _ _ _ _ _ => True.intro) trivial
    | _ => exact Post.elim q
  · rintro us s1 ⟨vs, H1, I1, rv, j, rfl, q⟩
    cases rv with
    | cons r rr =>
      cases rr
      obtain ⟨t, rfl⟩ := r
      exact call_range_1 (range_itS I1 (by omega) q)
def idxs (N : List Str) : List Expr → Option (List Nat)
  | [] => some []
  | .Name x _ :: r => match idx N x, idxs N r with
    | some i, some is => some (i :: is)
    | _, _ => none
  | _ :: _ => none
def tgOf (N : List Str) : Expr → Option Tg
  | .Name x _ => (idx N x).map Tg.one
  | .Tuple es _ _ => (idxs N es).map Tg.tup
  | _ => none
def tgNames : Expr → List Str
  | .Name x _ => [x]
  | .Tuple es _ _ => es.filterMap fun e => match e with | .Name x _ => some x | _ => none
  | _ => []
def Sto (X : Cx) (S : List Str) : Prop := ∀ x ∈ S, Loc X.env.scope x ∧ (X.fn x = true ∨ X.env.scope.names.lookup x = some .local)
theorem asgs_ok {S N : List Str} (hN : X.N = N) (nd : N.Nodup) (hS : Sto X S) : ∀ {es : List Expr} {is : List Nat} {ts : List T} {τ τ' : Sl}, (∀ e ∈ es, ∀ x p, e = .Name x p → x ∈ S) → idxs N es = some is → asgs is ts τ = some τ' →
    ∃ t, PGs X es t ∧ (assignEach es X.env).length = ts.length ∧ (assignEach es X.env).findIdx? (·.1) = none ∧ ∀ {σ : St} {vs : List V} {φ α H} {Q : St → Hp → Prop}, SRel D φ α H τ σ → DenL D φ α H ts vs → (∀ σ', SRel D φ α H τ' σ' → Q σ' H) → t vs σ H Q
  | [], is, ts, τ, τ', _, h0, h => by
    simp [idxs] at h0; subst h0
    cases ts with
    | nil =>
      simp [asgs] at h; subst h
      exact ⟨gNil, pgs_nil, rfl, rfl, fun sr l q => ⟨l, q _ sr⟩⟩
    | cons _ _ => simp [asgs] at h
  | e :: es, is, ts, τ, τ', hn, h0, h => by
    cases e with
    | Name x p0 =>
      simp only [idxs] at h0
      split at h0
      · rename_i i is' hi his
        cases h0
        cases ts with
        | nil => simp [asgs] at h
        | cons t ts =>
          have h : asgs is' ts (setS τ i (some t)) = some τ' := h
          have hx := hn _ List.mem_cons_self x p0 rfl
          have pg : PG X (.Name x p0) (gName i) := pg_name (hN ▸ nd) (by rw [hN]; exact idx_get hi) (hS x hx).1 (hS x hx).2
          obtain ⟨u, pgs, hl, hf, hu⟩ := asgs_ok hN nd hS (fun e he => hn e (List.mem_cons_of_mem _ he)) his h
          refine ⟨gCons (gName i) u, pgs_cons pg pgs rfl, by simpa [assignEach] using hl, ?_, fun {σ vs φ α H Q} sr l k => ?_⟩
          · have e1 : assignEach (.Name x p0 :: es) X.env = (false, assign (.Name x p0) X.env) :: assignEach es X.env := rfl
            rw [e1, List.findIdx?_cons]
            simp [hf]
          · obtain ⟨v, r, rfl, d, l⟩ := l
            exact ⟨v, r, rfl, hu (sr.set d) l k⟩
      · cases h0
    | _ => simp [idxs] at h0
theorem asg_ok {S N : List Str} (hN : X.N = N) (nd : N.Nodup) (hS : Sto X S) (hc : X.calm = true) {e : Expr} {tgt : Tg} {t : T} {τ τ' : Sl} (hn : ∀ x ∈ tgNames e, x ∈ S) (h0 : tgOf N e = some tgt) (h : asg tgt t τ = some τ') {v : V} {u : Value} (I : Inv X pins σ H s) (sr : SRel D φ α H τ σ) (d : Den D φ α H t v) (r : RelV v u) :
    wpAny (model X.prog X.w) X.A (assign e X.env u) (fun _ s' => ∃ σ', Inv X pins σ' H s' ∧ SRel D φ α H τ' σ') X.xe s := by
  cases e with
  | Name x p0 =>
    simp only [tgOf] at h0
    cases q : idx N x with
    | none => rw [q] at h0; cases h0
    | some i =>
      rw [q] at h0; cases h0
      cases (Option.some.inj h : setS τ i (some t) = τ')
      have hx : x ∈ S := hn x (by simp [tgNames])
      refine thn (pg_name (i := i) (hN ▸ nd) (by rw [hN]; exact idx_get q) (hS x hx).1 (hS x hx).2 pins s σ H v u (fun σ' H' => H' = H ∧ σ' = σ.set i (some v)) I r ⟨rfl, rfl⟩) ?_
      rintro _ s1 ⟨σ', H', I1, rfl, rfl⟩
      exact ⟨_, I1, sr.set d⟩
  | Tuple es kk p0 =>
    simp only [tgOf] at h0
    cases q : idxs N es with
    | none => rw [q] at h0; cases h0
    | some is =>
      rw [q] at h0; cases h0
      cases t with
      | tup ts =>
        obtain ⟨g, pgs, hl, hf, hu⟩ := asgs_ok (D := D) hN nd hS (fun e he x p hx => hn x (by subst hx; exact List.mem_filterMap.mpr ⟨_, he, rfl⟩)) q h
        obtain ⟨ad, xs, rfl, _, _, q, l⟩ := d
        refine thn (pg_tup (k := kk) (pos := p0) hc pgs hl hf pins s σ H (.ref ad) u (fun σ' H' => H' = H ∧ SRel D φ α H τ' σ') I r ⟨ad, xs, rfl, .inl q, l.length.symm, hu sr l fun σ' sr' => ⟨rfl, sr'⟩⟩) ?_
        rintro _ s1 ⟨σ', H', I1, rfl, sr'⟩
        exact ⟨σ', I1, sr'⟩
      | _ => cases h
  | _ => simp [tgOf] at h0
end
end NH
end
section
set_option linter.all false
set_option maxRecDepth 100000
set_option maxHeartbeats 4000000
namespace NH
open PySem PySem.Spec PyProof.Rows L2
theorem clos_go (env : Env) : ∀ (names : List (Str × NameKind)) (cs : List (Str × Addr)), (∀ p ∈ names, p.2 = .free → ∃ c, env.cells.lookup p.1 = some c) →
    ∃ cl, (forIn names cs (fun (x : Str × NameKind) r => if (x.2 == .free) = true then do let a ← cellOf env x.1; pure (ForInStep.yield ((x.1, a) :: r)) else pure (ForInStep.yield r)) : Sem (List (Str × Addr))) = pure cl ∧
      (∀ x c, cl.lookup x = some c → cs.lookup x = some c ∨ (env.cells.lookup x = some c ∧ ∃ p ∈ names, p.1 = x ∧ p.2 = .free)) ∧ (∀ x c, cs.lookup x = some c → ∃ c', cl.lookup x = some c') ∧ ∀ p ∈ names, p.2 = .free → ∃ c, cl.lookup p.1 = some c := by
  intro names
  induction names with
  | nil => intro cs _; exact ⟨cs, rfl, fun x c h => .inl h, fun x c h => ⟨c, h⟩, fun p hp => absurd hp (by simp)⟩
  | cons p names ih =>
    intro cs h
    rw [List.forIn_cons]
    by_cases hp : p.2 = .free
    · obtain ⟨c, hc⟩ := h p List.mem_cons_self hp
      have e : cellOf env p.1 = pure c := by unfold cellOf; rw [hc]
      rw [if_pos (by simp [hp]), e]
      obtain ⟨cl, e1, e2, e3, e4⟩ := ih ((p.1, c) :: cs) fun q hq => h q (List.mem_cons_of_mem _ hq)
      refine ⟨cl, e1, fun x c' hx => ?_, fun x c' hx => ?_, fun q hq hf => ?_⟩
      · rcases e2 x c' hx with z | ⟨z, q, hq, z1, z2⟩
        · rw [List.lookup_cons] at z
          cases hb : x == p.1 with
          | true =>
            simp [hb] at z
            subst z
            have hb' : x = p.1 := by simpa using hb
            exact .inr ⟨by rw [hb']; exact hc, p, List.mem_cons_self, hb'.symm, hp⟩
          | false => simp [hb] at z; exact .inl z
        · exact .inr ⟨z, q, List.mem_cons_of_mem _ hq, z1, z2⟩
      · cases hb : x == p.1 with
        | true => exact e3 x c (by simp [List.lookup_cons, hb])
        | false => exact e3 x c' (by simp [List.lookup_cons, hb, hx])
      · rcases List.mem_cons.mp hq with rfl | hq
        · exact e3 _ c (by simp [List.lookup_cons])
        · exact e4 q hq hf
    · rw [if_neg (by simp [hp])]
      obtain ⟨cl, e1, e2, e3, e4⟩ := ih cs fun q hq => h q (List.mem_cons_of_mem _ hq)
      refine ⟨cl, e1, fun x c' hx => ?_, e3, fun q hq hf => ?_⟩
      · rcases e2 x c' hx with z | ⟨z, q, hq, z1, z2⟩
        · exact .inl z
        · exact .inr ⟨z, q, List.mem_cons_of_mem _ hq, z1, z2⟩
      · rcases List.mem_cons.mp hq with rfl | hq
        · exact absurd hf hp
        · exact e4 q hq hf
def globs (sc : Scope) : List Str := (sc.names.filter fun p => p.2 == .globalImplicit).map (·.1)
def frees (sc : Scope) : List Str := (sc.names.filter fun p => p.2 == .free).map (·.1)
theorem mem_frees {sc : Scope} {x : Str} : x ∈ frees sc ↔ ∃ p ∈ sc.names, p.1 = x ∧ p.2 = .free := by
  unfold frees
  simp only [List.mem_map, List.mem_filter, beq_iff_eq]
  constructor
  · rintro ⟨p, ⟨h1, h2⟩, h3⟩; exact ⟨p, h1, h3, h2⟩
  · rintro ⟨p, h1, h3, h2⟩; exact ⟨p, ⟨h1, h2⟩, h3⟩
theorem closure_of {sc : Scope} {env : Env} (h : ∀ x ∈ frees sc, ∃ c, env.cells.lookup x = some c) :
    ∃ cl, closureFor sc env = pure cl ∧ (∀ x c, cl.lookup x = some c → env.cells.lookup x = some c ∧ x ∈ frees sc) ∧ ∀ x ∈ frees sc, ∃ c, cl.lookup x = some c := by
  obtain ⟨cl, e1, e2, e3, e4⟩ := clos_go env sc.names [] fun p hp hf => h p.1 (mem_frees.mpr ⟨p, hp, rfl, hf⟩)
  refine ⟨cl, ?_, fun x c hx => ?_, fun x hx => ?_⟩
  · rw [← e1]
    unfold closureFor
    simp
  · rcases e2 x c hx with z | ⟨z, p, hp, z1, z2⟩
    · simp at z
    · exact ⟨z, mem_frees.mpr ⟨p, hp, z1, z2⟩⟩
  · obtain ⟨p, hp, rfl, hf⟩ := mem_frees.mp hx
    exact e4 p hp hf
section
variable {M : Model} {A : Around} {E : Value → Shared → Prop} {s : Shared} {env : Env}
def BlkPost (M : Model) (A : Around) (E : Value → Shared → Prop) (use : Option (Value → Sem Unit)) (Q : Value → Shared → Prop) (acc : Value) (ce : Env) : Result → Shared → Prop
  | .ok _, t => (match use with
    | none => ∃ m, t.heap.Ns ce.locals m ∧ ∀ g, Heap.SameBut ce.locals t.heap g → Q acc { t with heap := g }
    | some u => wpAny M A (u acc) (fun _ t2 => ∃ m, t2.heap.Ns ce.locals m ∧ ∀ g, Heap.SameBut ce.locals t2.heap g → Q .none { t2 with heap := g }) E t)
  | .error x, t => ∃ m, t.heap.Ns ce.locals m ∧ ∀ g, Heap.SameBut ce.locals t.heap g → wpAny M A (passOn "comprehension.variables-let-go" x ce : Sem Value) (fun _ _ => False) E { t with heap := g }
theorem blk_run {e : Expr} {sc : Scope} {pos : Pos} {mk fst : Sem Value} {g : Comprehension} {gs : List Comprehension} {cl : List (Str × Addr)} {use : Option (Value → Sem Unit)} {Q : Value → Shared → Prop}
    (h1 : clausesOf e = g :: gs) (h2 : ∀ x, foldedSetIterable g.iter env x = pure x) (h3 : closureFor sc env = pure cl) (h4 : sc.kind = .function) (h5 : ∀ x ∈ sc.names, x.2 = .local → sc.names.lookup x.1 = some .local)
    (h : wpAny M A fst (fun x t1 => wpAny M A (pyIter x) (fun it t2 => wpAny M A mk (fun acc t3 => wpAny M A (newFunctionEnv sc env.globals cl [] env.qual none .none (some env)) (fun ce t4 =>
        codeAny M A (.compStart e 0 it acc { ce with scope := relabel sc env }) (BlkPost M A E use Q acc { ce with scope := relabel sc env }) t4) E t3) E t2) E t1) E s) :
    wpAny M A (comprehension e sc env pos mk false fst use) Q E s := by
  unfold comprehension
  rw [h3, h1]
  have id2 : ∀ (x : Value) (t : Shared), E x t → E x t := fun _ _ z => z
  refine wpAny_bind (wpAny_mono h (fun x t1 q1 => ?_) id2)
  refine wpAny_bind (wpAny_standAt (wpAny_bind (wpAny_of_eq (h2 x) (wpAny_bind (wpAny_holding (wpAny_mono q1 (fun it t2 q2 => ?_) id2))))))
  refine wpAny_standIf (wpAny_bind (wpAny_mono q2 (fun acc t3 q3 => ?_) id2))
  refine wpAny_bind (wpAny_pure (wpAny_bind (wpAny_mono q3 (fun ce t4 q4 => ?_) id2)))
  dsimp only
  have lc : ∀ y ∈ (sc.names.filter fun x => (x.2 == .local || x.2 == .cell) && x.1 != (".0" : Str)), y.2 = .local → Env.kindOf { ce with scope := relabel sc env } y.1 = some .local :=
    fun y hy hl => lookup_relabel_local (h5 y (List.mem_filter.mp hy).1 hl)
  have lr : ∀ y ∈ (sc.names.filter fun x => (x.2 == .local || x.2 == .cell) && x.1 != (".0" : Str)).reverse, y.2 = .local → Env.kindOf { ce with scope := relabel sc env } y.1 = some .local :=
    fun y hy => lc y (List.mem_reverse.mp hy)
  refine wpAny_holding (wpAny_bind (wpAny_attempt (wpAny_holding (wpAny_run (codeAny_mono q4 fun r t5 q5 => ?_)))))
  cases r with
  | error x =>
    obtain ⟨m, hn, q6⟩ := q5
    refine wpAny_bind (wpAny_holding (wpAny_comp_letGo (cenv := { ce with scope := relabel sc env }) h4 _ t5 m lr hn fun g m' _ sb => ?_))
    exact wpAny_mono (q6 g sb) (fun _ _ z => z.elim) id2
  | ok f =>
    cases use with
    | none =>
      obtain ⟨m, hn, q6⟩ := q5
      exact wpAny_bind (wpAny_holding (wpAny_comp_letGo (cenv := { ce with scope := relabel sc env }) h4 _ t5 m lr hn fun g m' _ sb => wpAny_pure (q6 g sb)))
    | some u =>
      refine wpAny_bind (wpAny_rule (wpAny_bind (wpAny_holding (wpAny_mono q5 (fun _ t6 q6 => ?_) id2))))
      obtain ⟨m, hn, q6⟩ := q6
      refine wpAny_bind (wpAny_comp_letGo (cenv := { ce with scope := relabel sc env }) h4 _ t6 m (fun y hy => ?_) hn fun g m' _ sb => wpAny_pure (q6 g sb))
      rcases List.mem_append.mp hy with z | z
      · exact lr y (List.mem_of_mem_drop z)
      · exact lr y (List.mem_of_mem_take z)
end
section
variable {prog : Program} {w : World} {A : Around} {R : Result → Shared → Prop} {s : Shared}
theorem turn_eqO (elt target iter : Expr) (ifs : List Expr) (scope : Scope) (pos : Pos) (it acc : Value) (env : Env) :
    compTurn (.ListComp elt [⟨target, iter, ifs, 0⟩] scope pos) 0 it acc env = (standAt iter.pos >>= fun _ => pyNext it >>= fun r => match r with
      | none => pure (.done .next)
      | some v => letOwnedTupleGo target it v >>= fun _ => assign target env v >>= fun _ =>
        (forIn ifs true fun c s => if s = true then isTrue c env (eval c env) >>= fun ok => pure (ForInStep.yield ok) else pure (ForInStep.yield s)) >>= fun ok =>
          if ok = true then (eval elt env >>= fun x => call (.builtin "list.append") [acc, x] >>= fun _ => pure ()) >>= fun _ =>
            again (.compLoop (.ListComp elt [⟨target, iter, ifs, 0⟩] scope pos) 0 it acc env)
          else again (.compLoop (.ListComp elt [⟨target, iter, ifs, 0⟩] scope pos) 0 it acc env)) := by rfl
def testsW (M : Model) (A : Around) (env : Env) (E : Value → Shared → Prop) : List Expr → (Bool → Shared → Prop) → Shared → Prop
  | [], Q, s => Q true s
  | c :: cs, Q, s => wpAny M A (isTrue c env (eval c env)) (fun b s1 => if b = true then testsW M A env E cs Q s1 else Q false s1) E s
theorem tests_off {M : Model} {env : Env} {E : Value → Shared → Prop} {Q : Bool → Shared → Prop} : ∀ (cs : List Expr) {s : Shared}, Q false s →
    wpAny M A (forIn cs false fun c s => if s = true then isTrue c env (eval c env) >>= fun ok => pure (ForInStep.yield ok) else pure (ForInStep.yield s)) Q E s
  | [], s, h => wpAny_pure h
  | c :: cs, s, h => by
    rw [List.forIn_cons]
    refine wpAny_bind ?_
    rw [if_neg (by decide)]
    exact wpAny_pure (tests_off cs h)
theorem tests_on {M : Model} {env : Env} {E : Value → Shared → Prop} {Q : Bool → Shared → Prop} : ∀ (cs : List Expr) {s : Shared}, testsW M A env E cs Q s →
    wpAny M A (forIn cs true fun c s => if s = true then isTrue c env (eval c env) >>= fun ok => pure (ForInStep.yield ok) else pure (ForInStep.yield s)) Q E s
  | [], s, h => wpAny_pure h
  | c :: cs, s, h => by
    rw [List.forIn_cons]
    refine wpAny_bind ?_
    rw [if_pos rfl]
    refine wpAny_bind (thn h fun b s1 h1 => wpAny_pure ?_)
    cases b with
    | true => rw [if_pos rfl] at h1; exact tests_on cs h1
    | false => rw [if_neg (by decide)] at h1; exact tests_off cs h1
theorem comp_loop {elt target iter : Expr} {ifs : List Expr} {scope : Scope} {pos : Pos} {it acc : Value} {env : Env} (I : Nat → Shared → Prop)
    (turn : ∀ n s, I n s → wpAny (model prog w) A (pyNext it) (fun r s₁ => match r with
      | none => R (.ok .next) s₁
      | some v => wpAny (model prog w) A (letOwnedTupleGo target it v) (fun _ s₂ => wpAny (model prog w) A (assign target env v) (fun _ s₃ => testsW (model prog w) A env (notedBy (model prog w) A env fun x s' => R (.error x) s') ifs (fun b s₄ =>
          if b = true then wpAny (model prog w) A (eval elt env) (fun x s₅ => wpAny (model prog w) A (call (.builtin "list.append") [acc, x]) (fun _ s₆ => ∃ m, m < n ∧ I m s₆) (fun _ _ => False) s₅) (notedBy (model prog w) A env fun x s' => R (.error x) s') s₄ else ∃ m, m < n ∧ I m s₄) s₃) (fun _ _ => False) s₂) (fun _ _ => False) s₁) (fun _ _ => False) s)
    (n : Nat) (h : I n s) : codeAny (model prog w) A (.compLoop (.ListComp elt [⟨target, iter, ifs, 0⟩] scope pos) 0 it acc env) R s := by
  refine codeAny_loop rfl I (fun n s hI => ?_) n h
  show wpAny _ _ ((compTurn (.ListComp elt [⟨target, iter, ifs, 0⟩] scope pos) 0 it acc env).onRaise (fun x => do noteFrame x env; theTreesLotGoes x)) _ _ s
  refine wpAny_noted ?_
  rw [turn_eqO]
  have nx : ∀ {α : Type} {t : Sem α} {Q : α → Shared → Prop} {s : Shared} {N : Value → Shared → Prop}, wpAny (model prog w) A t Q (fun _ _ => False) s → wpAny (model prog w) A t Q N s := fun h => wpAny_mono h (fun _ _ q => q) fun _ _ z => z.elim
  refine wpAny_bind (wpAny_standAt (wpAny_bind (nx (thn (turn n s hI) fun r s₁ h₁ => ?_))))
  cases r with
  | none => exact wpAny_pure h₁
  | some v =>
    refine wpAny_bind (nx (thn h₁ fun _ s₂ h₂ => ?_))
    refine wpAny_bind (nx (thn h₂ fun _ s₃ h₃ => ?_))
    refine wpAny_bind (thn (tests_on ifs h₃) fun b s₄ h₄ => ?_)
    cases b with
    | true =>
      rw [if_pos rfl] at h₄ ⊢
      exact wpAny_bind (wpAny_bind (thn h₄ fun x s₅ h₅ => wpAny_bind (nx (thn h₅ fun _ s₆ h₆ => wpAny_pure (wpAny_pure ⟨rfl, h₆⟩)))))
    | false =>
      rw [if_neg (by decide)] at h₄ ⊢
      exact wpAny_pure ⟨rfl, h₄⟩
end
abbrev noW : XW := fun _ _ _ _ => False
def cxC (X : Cx) (N : List Str) (sc : Scope) (cl : List (Str × Addr)) (C0 : Addr) (s3 : Shared) (H3 : Hp) (fp : List Addr) : Cx :=
  { X with N := N, s₀ := s3, H₀ := H3, env := compEnvC sc cl C0 X.env, outer := X.stack, ex := fp, fn := fun _ => false, pn := [], xe := fun _ _ => False }
def compOk (N cel : List Str) (tg : Expr) (sc : Scope) : Bool :=
  (sc.kind == .function) && sc.names.all (fun p => p.2 != .cell) && sc.names.all (fun p => p.2 != .local || sc.names.lookup p.1 == some .local) &&
  (tgNames tg).all (fun x => sc.names.lookup x == some .local && x != ("__debug__" : Str) && x != ("__classdict__" : Str)) && (frees sc).all (fun x => (idx N x).isSome && sc.names.lookup x == some .free && cel.contains x && x != ("__debug__" : Str) && x != ("__classdict__" : Str)) && decide ((tgNames tg ++ frees sc).Nodup) &&
  (globs sc).all (fun x => sc.names.lookup x == some .globalImplicit)
structure CompOk (N cel : List Str) (tg : Expr) (sc : Scope) : Prop where
  kind : sc.kind = .function
  noc : ∀ p ∈ sc.names, p.2 ≠ .cell
  lcl : ∀ p ∈ sc.names, p.2 = .local → sc.names.lookup p.1 = some .local
  own : ∀ x ∈ tgNames tg, sc.names.lookup x = some .local ∧ (x == ("__debug__" : Str)) = false ∧ (x == ("__classdict__" : Str)) = false
  fre : ∀ x ∈ frees sc, (∃ i, idx N x = some i) ∧ sc.names.lookup x = some .free ∧ x ∈ cel ∧ (x == ("__debug__" : Str)) = false ∧ (x == ("__classdict__" : Str)) = false
  nd : (tgNames tg ++ frees sc).Nodup
  glb : ∀ x ∈ globs sc, sc.names.lookup x = some .globalImplicit
theorem compOk_of {N cel : List Str} {tg : Expr} {sc : Scope} (h : compOk N cel tg sc = true) : CompOk N cel tg sc := by
  unfold compOk at h
  simp only [Bool.and_eq_true, List.all_eq_true, beq_iff_eq, bne_iff_ne, Bool.or_eq_true, decide_eq_true_eq, List.contains_iff_mem, Option.isSome_iff_exists, ne_eq] at h
  obtain ⟨⟨⟨⟨⟨⟨h1, h2⟩, h3⟩, h4⟩, h5⟩, h6⟩, h7⟩ := h
  refine ⟨h1, h2, fun p hp hl => ?_, fun x hx => ?_, fun x hx => ?_, h6, h7⟩
  · rcases h3 p hp with z | z
    · exact absurd hl z
    · exact z
  · obtain ⟨⟨a, b⟩, c⟩ := h4 x hx
    exact ⟨a, by simpa using b, by simpa using c⟩
  · obtain ⟨⟨⟨⟨a, b⟩, c⟩, d⟩, e⟩ := h5 x hx
    exact ⟨a, b, c, by simpa using d, by simpa using e⟩
theorem lookup_relabel {env : Env} {x : Str} : ∀ {names : List (Str × NameKind)} {kd : NameKind}, names.lookup x = some kd →
    (names.map fun (n, k) => if (k == NameKind.free && env.scope.kind == .function && env.kindOf n == some .cell) then (n, NameKind.cell) else (n, k)).lookup x = some (if (kd == NameKind.free && env.scope.kind == .function && env.kindOf x == some .cell) then .cell else kd)
  | [], _, h => by simp at h
  | (n, k) :: r, kd, h => by
    have ih := @lookup_relabel env x r kd
    rw [List.map_cons]
    rw [List.lookup_cons] at h
    cases hx : x == n with
    | true =>
      have hx' : x = n := by simpa using hx
      subst hx'
      simp at h
      subst h
      dsimp only
      split <;> simp_all [List.lookup_cons]
    | false =>
      simp only [hx] at h
      dsimp only
      split
      · rw [List.lookup_cons]; simp only [hx]; exact ih h
      · rw [List.lookup_cons]; simp only [hx]; exact ih h
end NH
end
section
set_option linter.all false
set_option maxRecDepth 100000
set_option maxHeartbeats 4000000
namespace NH
open PySem PySem.Spec PyProof.Rows L2
section
variable {X : Cx} {D : DP} {W : XW} {Γ : Cn} {k : Nat} {pins : List (Addr × Obj)} {s2 : Shared} {σ : St} {H2 : Hp} {φ α : List Addr} {τ : Sl} {μ : Mem} {tg : Expr} {sc : Scope} {cl : List (Str × Addr)} {fp : List Addr}
def selV (N : List Str) (σ : St) (fs : List Str) : St := fs.map fun x => (idx N x).bind fun i => (σ[i]?).join
def idxF (N : List Str) : List Str → Option (List Nat)
  | [] => some []
  | x :: r => match idx N x, idxF N r with
    | some i, some is => some (i :: is)
    | _, _ => none
theorem blk_eq : ∀ (n : Nat) {fs : List Nat} {τ : Sl}, blk n fs τ = List.replicate n none ++ selS fs τ
  | 0, _, _ => rfl
  | n + 1, fs, τ => by
    show none :: blk n fs τ = _
    rw [blk_eq n]; rfl
theorem selS_len : ∀ {fs : List Nat} {τ : Sl}, (selS fs τ).length = fs.length
  | [], _ => rfl
  | i :: r, τ => by show (selS r τ).length + 1 = _; rw [selS_len]; rfl
theorem idxF_len : ∀ {N xs : List Str} {fs : List Nat}, idxF N xs = some fs → fs.length = xs.length
  | N, [], fs, h => by cases h; rfl
  | N, x :: r, fs, h => by
    simp only [idxF] at h
    split at h
    · rename_i i is h1 h2
      cases h
      simp [idxF_len h2]
    · cases h
theorem selV_den {N : List Str} {H : Hp} (sr : SRel D φ α H τ σ) : ∀ {xs : List Str} {fs : List Nat}, idxF N xs = some fs → ∀ (j : Nat) (t : T), (selS fs τ)[j]? = some (some t) → ∃ v, (selV N σ xs)[j]? = some (some v) ∧ Den D φ α H t v
  | [], fs, h, j, t, e => by cases h; simp [selS] at e
  | x :: r, fs, h, j, t, e => by
    simp only [idxF] at h
    split at h
    · rename_i i is h1 h2
      cases h
      cases j with
      | zero =>
        have e : some (getS τ i) = some (some t) := e
        obtain ⟨v, hv, d⟩ := sr.get (Option.some.inj e)
        exact ⟨v, by simp [selV, h1, hv], d⟩
      | succ j =>
        have e : (selS is τ)[j]? = some (some t) := e
        obtain ⟨v, hv, d⟩ := selV_den sr h2 j t e
        exact ⟨v, by simpa [selV] using hv, d⟩
    · cases h
theorem blk_rel {N : List Str} {H : Hp} {ns xs : List Str} {fs : List Nat} (sr : SRel D φ α H τ σ) (h : idxF N xs = some fs) : SRel D φ α H (blk ns.length fs τ) (ns.map (fun _ => none) ++ selV N σ xs) := by
  rw [blk_eq]
  refine ⟨by simp [selS_len, idxF_len h, selV], fun j t e => ?_⟩
  rcases Nat.lt_or_ge j ns.length with hj | hj
  · rw [List.getElem?_append_left (by simpa using hj), List.getElem?_replicate] at e
    split at e <;> cases e
  · rw [List.getElem?_append_right (by simpa using hj)] at e
    rw [List.getElem?_append_right (by simpa using hj)]
    simp only [List.length_map, List.length_replicate] at e ⊢
    exact selV_den sr h _ t e
theorem comp_start (C : Ck D W Γ X k) (ok : CompOk Γ.N Γ.cel tg sc) (I2 : Inv X pins σ H2 s2) (hf : ∀ b ∈ fp, FpOk X pins H2 b) (hfo : ∀ b ∈ fp, ∃ o, s2.heap.get? b = some o) (hcl : ∀ x c, cl.lookup x = some c → X.env.cells.lookup x = some c ∧ x ∈ frees sc) (hcl2 : ∀ x ∈ frees sc, ∃ c, cl.lookup x = some c)
    {h1 : Heap} (hns : h1.Ns (s2.heap.objs.size + 1) (fun _ => none)) (hsb : Heap.SameBut (s2.heap.objs.size + 1) ((s2.heap.push { cls := .type "list", data := .seq ([] : List Value).toArray }).push { cls := .type "dict", data := .dict #[] }) h1) {tk : Nat} :
    Inv X pins σ (upd H2 s2.heap.objs.size (.lst [])) { s2 with heap := s2.heap.push { cls := .type "list", data := .seq ([] : List Value).toArray } } ∧
    Inv (cxC X (tgNames tg ++ frees sc) sc cl (s2.heap.objs.size + 1) { s2 with heap := s2.heap.push { cls := .type "list", data := .seq ([] : List Value).toArray } } (upd H2 s2.heap.objs.size (.lst [])) fp) []
      ((tgNames tg).map (fun _ => none) ++ selV Γ.N σ (frees sc)) (upd H2 s2.heap.objs.size (.lst [])) { s2 with heap := h1, toks := tk } := by
  have I3 : Inv X pins σ (upd H2 s2.heap.objs.size (.lst [])) { s2 with heap := s2.heap.push { cls := .type "list", data := .seq ([] : List Value).toArray } } := I2.lnew (its := []) (t' := s2.toks) .nil (by simp)
  refine ⟨I3, ?_⟩
  generalize hA : s2.heap.push { cls := .type "list", data := .seq ([] : List Value).toArray } = HA at hsb I3 ⊢
  have szA : HA.objs.size = s2.heap.objs.size + 1 := by rw [← hA, Heap.size_push]
  have old : ∀ b o, HA.get? b = some o → h1.get? b = some o := fun b o e => hsb.extBut b o (by rw [← szA]; exact Nat.ne_of_lt (Heap.lt_size e)) (Heap.get?_push_of_some _ e)
  have fresh : (upd H2 s2.heap.objs.size (.lst [])) (s2.heap.objs.size + 1) = none := by rw [← szA]; exact I3.hok.fresh (Nat.le_refl _)
  have kindC : ∀ x ∈ frees sc, (cxC X (tgNames tg ++ frees sc) sc cl (s2.heap.objs.size + 1) { s2 with heap := HA } (upd H2 s2.heap.objs.size (.lst [])) fp).env.kindOf x = some .cell ∨ (cxC X (tgNames tg ++ frees sc) sc cl (s2.heap.objs.size + 1) { s2 with heap := HA } (upd H2 s2.heap.objs.size (.lst [])) fp).env.kindOf x = some .free := fun x hx => by
    have := lookup_relabel (env := X.env) (ok.fre x hx).2.1
    show (relabel sc X.env).names.lookup x = some .cell ∨ (relabel sc X.env).names.lookup x = some .free
    unfold relabel
    dsimp only
    rw [this]
    split
    · exact .inl rfl
    · exact .inr rfl
  refine ⟨⟨I2.ok.mod, ok.kind, I2.ok.glob, I2.ok.blt, ?_, ?_, ?_, fun x c h => absurd h (by simp [cxC]), I2.ok.hd, I2.ok.frames, .inl rfl, ?_, ?_, ?_, ?_, ?_, ?_, ?_⟩, rfl, I2.bare, Un.kept old, ⟨_, hns, ?_⟩, ?_, fresh, ?_, fun p hp => absurd hp (by simp [cxC]), I3.hok.kept old, ?_⟩
  · show HA.objs.size ≤ s2.heap.objs.size + 1
    omega
  · intro x y c h1 h2
    exact I2.ok.inj x y c (hcl x c h1).1 (hcl y c h2).1
  · intro x hx
    have hx' : (relabel sc X.env).names.lookup x = some .cell ∨ (relabel sc X.env).names.lookup x = some .free := hx
    by_cases hm : x ∈ frees sc
    · exact hcl2 x hm
    · exfalso
      cases q : sc.names.lookup x with
      | none =>
        have : (relabel sc X.env).names.lookup x = none := by
          unfold relabel
          dsimp only
          rw [List.lookup_eq_none_iff] at q ⊢
          intro p hp
          obtain ⟨p0, hp0, rfl⟩ := List.mem_map.mp hp
          have := q p0 hp0
          try dsimp only
          split <;> exact this
        rw [this] at hx'
        rcases hx' with z | z <;> cases z
      | some kd =>
        have hr := lookup_relabel (env := X.env) q
        have hx2 := hx'
        unfold relabel at hx2
        dsimp only at hx2
        rw [hr] at hx2
        have hmem : (x, kd) ∈ sc.names := PySem.mem_of_lookup q
        by_cases hkf : kd = .free
        · exact hm (mem_frees.mpr ⟨_, hmem, rfl, hkf⟩)
        · have e : (kd == NameKind.free) = false := by simpa using hkf
          rw [e] at hx2
          simp only [Bool.false_and, Bool.false_eq_true, if_false, Option.some.injEq] at hx2
          rcases hx2 with z | z
          · exact ok.noc _ hmem z
          · exact hkf z
  · intro b hb
    obtain ⟨f0, f1, f2, f3, f4, f5⟩ := hf b hb
    obtain ⟨o, ho⟩ := hfo b hb
    refine ⟨?_, fun x c h => f4 x c (hcl x c h).1⟩
    show b ≠ s2.heap.objs.size + 1
    exact Nat.ne_of_lt (Nat.lt_succ_of_lt (Heap.lt_size ho))
  · intro b o e
    exact I3.bs b o e
  · exact Nat.le_trans I3.ok.bsz I3.sz
  · intro b o e hb
    obtain ⟨f0, f1, f2, f3, f4, f5⟩ := hf b hb
    rcases f3 with z | z
    · exact I2.ok.noex b o e z
    · exact absurd (Nat.lt_of_lt_of_le (Heap.lt_size e) (Nat.le_trans I2.ok.bsz z)) (Nat.lt_irrefl _)
  · intro b hb hfs
    obtain ⟨f0, f1, f2, f3, f4, f5⟩ := hf b hb
    rcases List.mem_cons.mp (I2.stkSub b hfs) with z | z
    · exact f1 z
    · exact f2 z
  · exact I3.stack
  · intro b hb
    exact I3.stkFree b hb
  · intro i x v hN hσ hv
    obtain ⟨m, hn, hl⟩ := I2.loc
    by_cases hi : i < (tgNames tg).length
    · exfalso
      rw [List.getElem?_append_left (by simpa using hi), List.getElem?_map] at hσ
      cases q : (tgNames tg)[i]? with
      | none => rw [q] at hσ; cases hσ
      | some y => rw [q] at hσ; cases hσ
    · have hN' : (frees sc)[i - (tgNames tg).length]? = some x := by
        have : (tgNames tg ++ frees sc)[i]? = some x := hN
        rwa [List.getElem?_append_right (by omega)] at this
      rw [List.getElem?_append_right (by simpa using hi)] at hσ
      simp only [List.length_map] at hσ
      unfold selV at hσ
      rw [List.getElem?_map, hN'] at hσ
      simp only [Option.map_some, Option.some.injEq] at hσ
      have hx : x ∈ frees sc := List.mem_of_getElem? hN'
      obtain ⟨⟨j, hj⟩, _, hcelm, _⟩ := ok.fre x hx
      rw [hj] at hσ
      simp only [Option.bind_some] at hσ
      cases u : σ[j]? with
      | none => rw [u] at hσ; cases hσ
      | some o =>
        rw [u] at hσ
        simp only [Option.join_some] at hσ
        subst hσ
        obtain ⟨w, rw', lk⟩ := hl j x v (by rw [C.hN]; exact idx_get hj) u (C.vis x (idx_mem hj))
        refine ⟨w, rw', .inr ⟨kindC x hx, ?_⟩⟩
        have kx := C.cel x hcelm
        rcases lk with ⟨z, _⟩ | ⟨_, c, hc, hcell⟩
        · rw [z] at kx
          rcases kx with kx | kx <;> cases kx
        · obtain ⟨c', hc'⟩ := hcl2 x hx
          have := (hcl x c' hc').1
          rw [hc] at this
          cases this
          refine ⟨c, hc', ?_⟩
          obtain ⟨oc, ho, hd⟩ := hcell
          exact ⟨oc, old c oc (by rw [← hA]; exact Heap.get?_push_of_some _ ho), hd⟩
  · intro x c h
    obtain ⟨v, oc, ho, hd⟩ := I2.cell x c (hcl x c h).1
    exact ⟨v, oc, old c oc (by rw [← hA]; exact Heap.get?_push_of_some _ ho), hd⟩
  · intro x c h
    exact I3.freeC x c (hcl x c h).1
  · show _ = (tgNames tg ++ frees sc).length
    simp [selV]
end
end NH
end
section
set_option linter.all false
set_option maxRecDepth 100000
set_option maxHeartbeats 4000000
namespace NH
open PySem PySem.Spec PyProof.Rows L2
section
variable {X : Cx} {D : DP} {W : XW} {Γ : Cn} {k : Nat} {pins : List (Addr × Obj)} {s : Shared} {σ : St} {H : Hp} {φ α : List Addr} {τ : Sl} {μ : Mem} {tg iter elt : Expr} {sc : Scope} {fp : List Addr} {pos pos' : Pos}
def inComp (Γ : Cn) (tg : Expr) (sc : Scope) : Cn := { Γ with N := tgNames tg ++ frees sc, G := (globs sc).filter Γ.U.contains, cel := frees sc, lam := none }
theorem ck_comp {W' : XW} {pn : List (Addr × Obj)} {xe : Value → Shared → Prop} (C : Ck D W Γ X k) (ok : CompOk Γ.N Γ.cel tg sc) {cl : List (Str × Addr)} {C0 : Addr} {s3 : Shared} {H3 : Hp}
    (hxe : ∀ e s, XP { (cxC X (tgNames tg ++ frees sc) sc cl C0 s3 H3 fp) with pn := pn, xe := xe } W' e s → xe e s) : Ck D W' (inComp Γ tg sc) { (cxC X (tgNames tg ++ frees sc) sc cl C0 s3 H3 fp) with pn := pn, xe := xe } k := by
  have kindC : ∀ x ∈ frees sc, (relabel sc X.env).names.lookup x = some .cell ∨ (relabel sc X.env).names.lookup x = some .free := fun x hx => by
    have := lookup_relabel (env := X.env) (ok.fre x hx).2.1
    unfold relabel
    dsimp only
    rw [this]
    split
    · exact .inl rfl
    · exact .inr rfl
  have other : ∀ {x kd}, sc.names.lookup x = some kd → kd ≠ .free → (relabel sc X.env).names.lookup x = some kd := fun {x kd} h hk => by
    have := lookup_relabel (env := X.env) h
    unfold relabel
    dsimp only
    rw [this]
    have e : (kd == NameKind.free) = false := by simpa using hk
    simp [e]
  refine ⟨C.hK, rfl, ok.nd, fun x hx => ?_, fun x hx => ?_, fun x hx => ?_, fun x hx => ?_, fun x hx => ?_, C.glU, kindC, C.isi, C.fld, C.xcx, C.ocx, C.clv, C.clm, C.rom, C.rmh, hxe, ?_, LamOk.no rfl⟩
  · rcases List.mem_append.mp hx with h | h
    · exact .inl (other (ok.own x h).1 (by decide))
    · rcases kindC x h with z | z
      · exact .inr (.inl z)
      · exact .inr (.inr z)
  · rcases List.mem_append.mp hx with h | h
    · exact (ok.own x h).2
    · exact (ok.fre x h).2.2.2
  · exact (C.glU x (by have := (List.mem_filter.mp hx).2; simpa using this)).2
  · exact other (ok.glb x (List.mem_filter.mp hx).1) (by decide)
  · exact (C.glU x (by have := (List.mem_filter.mp hx).2; simpa using this)).1
  · obtain ⟨e0, out, L, F⟩ := C.frm
    exact ⟨e0, out, L, ⟨F.stk, F.f0, F.fe⟩⟩
theorem sto_comp (ok : CompOk Γ.N Γ.cel tg sc) {cl : List (Str × Addr)} {C0 : Addr} {s3 : Shared} {H3 : Hp} : Sto (cxC X (tgNames tg ++ frees sc) sc cl C0 s3 H3 fp) (tgNames tg) := fun x hx => by
  have e := lookup_relabel (env := X.env) (ok.own x hx).1
  have e' : (relabel sc X.env).names.lookup x = some .local := by
    unfold relabel
    dsimp only
    rw [e]
    rfl
  exact ⟨.inl e', .inr e'⟩
theorem idx_lt {M : List Str} {x : Str} : ∀ {L : List Str} {i : Nat}, x ∈ L → idx (L ++ M) x = some i → i < L.length
  | [], _, h, _ => absurd h (by simp)
  | y :: L, i, h, e => by
    rw [List.cons_append] at e
    simp only [idx] at e
    split at e
    · cases e; simp
    · rename_i hn
      have hm : x ∈ L := (List.mem_cons.mp h).resolve_left fun z => hn z.symm
      cases q : idx (L ++ M) x with
      | none => rw [q] at e; cases e
      | some j => rw [q] at e; cases e; simpa using idx_lt hm q
theorem setS_keep {n i : Nat} {t : Option T} {τ : Sl} (h : i < n) : ∀ j, n ≤ j → (setS τ i t)[j]? = τ[j]? := fun j hj => by
  rw [setS_eq, List.getElem?_set_ne (by omega)]
theorem asgs_keep {L M : List Str} : ∀ {es : List Expr} {is : List Nat} {ts : List T} {τ τ' : Sl}, (∀ e ∈ es, ∀ x p, e = .Name x p → x ∈ L) → idxs (L ++ M) es = some is → asgs is ts τ = some τ' → ∀ j, L.length ≤ j → τ'[j]? = τ[j]?
  | [], is, ts, τ, τ', _, h0, h => by
    cases h0
    cases ts with
    | nil => cases h; exact fun _ _ => rfl
    | cons _ _ => cases h
  | e :: es, is, ts, τ, τ', hn, h0, h => by
    cases e with
    | Name x p0 =>
      simp only [idxs] at h0
      split at h0
      · rename_i i is' hi his
        cases h0
        cases ts with
        | nil => cases h
        | cons t ts =>
          intro j hj
          rw [asgs_keep (fun e he => hn e (List.mem_cons_of_mem _ he)) his (show asgs is' ts (setS τ i (some t)) = some τ' from h) j hj]
          exact setS_keep (idx_lt (hn _ List.mem_cons_self x p0 rfl) hi) j hj
      · cases h0
    | _ => simp [idxs] at h0
theorem asg_keep {M : List Str} {e : Expr} {tgt : Tg} {t : T} {τ τ' : Sl} (h0 : tgOf (tgNames e ++ M) e = some tgt) (h : asg tgt t τ = some τ') : ∀ j, (tgNames e).length ≤ j → τ'[j]? = τ[j]? := by
  cases e with
  | Name x p0 =>
    simp only [tgOf] at h0
    cases q : idx (tgNames (.Name x p0) ++ M) x with
    | none => rw [q] at h0; cases h0
    | some i =>
      rw [q] at h0; cases h0
      cases (Option.some.inj h : setS τ i (some t) = τ')
      exact setS_keep (idx_lt (by simp [tgNames]) q)
  | Tuple es kk p0 =>
    simp only [tgOf] at h0
    cases q : idxs (tgNames (.Tuple es kk p0) ++ M) es with
    | none => rw [q] at h0; cases h0
    | some is =>
      rw [q] at h0; cases h0
      cases t with
      | tup ts => exact asgs_keep (fun e he x p hx => by subst hx; exact List.mem_filterMap.mpr ⟨_, he, rfl⟩) q h
      | _ => cases h
  | _ => simp [tgOf] at h0
def TsOk (X : Cx) (D : DP) (W : XW) : List Expr → List Dt → Prop
  | [], [] => True
  | e :: es, f :: fs => PT X e (rdT D W f) ∧ TsOk X D W es fs
  | _, _ => False
theorem elt_go {M : Model} {A : Around} {β : Type} {R : β → Mem → List Addr → Hp → Prop} {fe : De} {kk : Option T → Mem → RE β} {Qf : Bool → Shared → Prop} : ∀ {cs : List Expr} {fs : List Dt} {s : Shared} {H : Hp} {α : List Addr} {μ : Mem}, TsOk X D W cs fs → Inv X pins σ H s → SRel D φ α H τ σ → MRel D φ α H μ → Post D W φ α H σ R ((cElt fs fe τ μ).bind kk) →
    (∀ s' H' α' μ', Inv X pins σ H' s' → Stp α H α' H' → SRel D φ α' H' τ σ → MRel D φ α' H' μ' → Post D W φ α' H' σ R ((fe τ μ').bind fun y μ1 => kk (some y) μ1) → Qf true s') →
    (∀ s' H' α' μ', Inv X pins σ H' s' → Stp α H α' H' → SRel D φ α' H' τ σ → MRel D φ α' H' μ' → Post D W φ α' H' σ R (kk none μ') → Qf false s') →
    testsW (model X.prog X.w) X.A X.env X.xe cs Qf s
  | [], [], s, H, α, μ, _, I, sr, mr, p, h1, _ => h1 s H α μ I (Stp.refl _ _) sr mr p
  | [], _ :: _, _, _, _, _, h, _, _, _, _, _, _ => h.elim
  | _ :: _, [], _, _, _, _, h, _, _, _, _, _, _ => h.elim
  | c :: cs, f :: fs, s, H, α, μ, h, I, sr, mr, p, h1, h2 => by
    have p : Post D W φ α H σ R ((f τ μ).bind fun b μ1 => (RE.br b (cElt fs fe τ μ1) (.ok none μ1)).bind kk) := p
    refine thn (subT h.1 I sr mr p) ?_
    rintro b s1 ⟨H1, μ1, α1, I1, st1, sr1, mr1, p1⟩
    cases b with
    | true =>
      rw [if_pos rfl]
      exact elt_go (M := M) (A := A) h.2 I1 sr1 mr1 p1 (fun s' H' α' μ' a b => h1 s' H' α' μ' a (st1.trans b)) (fun s' H' α' μ' a b => h2 s' H' α' μ' a (st1.trans b))
    | false =>
      rw [if_neg (by decide)]
      exact h2 s1 H1 α1 μ1 I1 st1 sr1 mr1 p1
end
end NH
end
section
set_option linter.all false
set_option maxRecDepth 100000
set_option maxHeartbeats 4000000
namespace NH
open PySem PySem.Spec PyProof.Rows L2
section
variable {X : Cx} {D : DP} {W : XW} {Γ : Cn} {k : Nat} {pins : List (Addr × Obj)} {s : Shared} {σ : St} {H : Hp} {φ α : List Addr} {τ : Sl} {μ : Mem} {tg iter elt : Expr} {sc : Scope} {fp : List Addr} {pos pos' : Pos}
theorem testsW_mono {M : Model} {A : Around} {env : Env} {E E' : Value → Shared → Prop} {Q : Bool → Shared → Prop} (h : ∀ e s, E e s → E' e s) : ∀ {cs : List Expr} {s : Shared}, testsW M A env E cs Q s → testsW M A env E' cs Q s
  | [], _, q => q
  | c :: cs, s, q => wpAny_mono q (fun b s1 q1 => by
    cases b with
    | true => rw [if_pos rfl] at q1 ⊢; exact testsW_mono h q1
    | false => rw [if_neg (by decide)] at q1 ⊢; exact q1) h
theorem XTr.but {C0 x T : Addr} {cls fl : Value} {d : Option Addr} {h g : Heap} (t : XTr h x T cls d fl) (sb : Heap.SameBut C0 h g) (hx : x ≠ C0) (hT : T ≠ C0) : XTr g x T cls d fl := by
  obtain ⟨oe, vs, a0, oT, ts, ho, hc, hd, hv0, hv1, hTx, hoT, hdT, h3⟩ := t
  exact ⟨oe, vs, a0, oT, ts, sb.extBut x oe hx ho, hc, hd, hv0, hv1, hTx, sb.extBut T oT hT hoT, hdT, h3⟩
theorem inv_but {C0 : Addr} {h' : Heap} (I : Inv X pins σ H s) (xo : XOk X H C0) (hp : ∀ q ∈ pins, q.1 ≠ C0) (sb : Heap.SameBut C0 s.heap h') : Inv X pins σ H { s with heap := h' } :=
  inv_step (ch := [C0]) I (fun b hb => by rw [List.mem_singleton.mp hb]; exact ⟨xo, hp⟩) (fun b o _ hc e => sb.extBut b o (fun z => hc (by simp [z])) e) fun b o _ hc e => ⟨o.slots, sb.extBut b o (fun z => hc (by simp [z])) e⟩
theorem comp_core {β : Type} {R : β → Mem → List Addr → Hp → Prop} {fi : Di} {fs : List Nat} {tgt : Tg} {ifs : List Expr} {cs : List Dt} {fe : De} {kk : List T → Mem → RE β} {use : Option (Value → Sem Unit)} {Qf : Value → Shared → Prop}
    (C : Ck D W Γ X k) (hc : Γ.calm = true) (ok : CompOk Γ.N Γ.cel tg sc) (hfs : idxF Γ.N (frees sc) = some fs) (htg : tgOf (tgNames tg ++ frees sc) tg = some tgt) (hi : PI X tg iter (rdI D W fi)) (hel : ∀ X' W', Ck D W' (inComp Γ tg sc) X' k → PE X' elt (rdE D W' fe)) (hts : ∀ X' W', Ck D W' (inComp Γ tg sc) X' k → TsOk X' D W' ifs cs) (hs : ∀ x, foldedSetIterable iter X.env x = pure x)
    (I : Inv X pins σ H s) (sr : SRel D φ α H τ σ) (mr : MRel D φ α H μ)
    (p : Post D W φ α H σ R ((fi τ μ).go fun xs o μ1 => .grd (xs.length ≤ room) ((compO tgt (cElt cs fe) o (blk (tgNames tg).length fs τ) xs μ1).bind kk)))
    (Kq : ∀ acc C0 s' α1 H1 H' α' ys vs μ', Inv X pins σ H' s' → Stp α H α1 H1 → Stp α1 H1 α' H' → H1 acc = none → acc ∉ φ → acc ∉ α1 → SRel D (φ ++ [acc]) α' H' τ σ → MRel D (φ ++ [acc]) α' H' μ' → H' acc = some (.lst vs) → DenL D (φ ++ [acc]) α' H' ys vs → Post D W φ α1 H1 σ R (kk ys μ') → XOk X H' C0 → (∀ q ∈ pins, q.1 ≠ C0) → (∃ m, s'.heap.Ns C0 m) →
      (match use with
        | none => ∃ m, s'.heap.Ns C0 m ∧ ∀ g, Heap.SameBut C0 s'.heap g → Qf (.ref acc) { s' with heap := g }
        | some u => wpAny (model X.prog X.w) X.A (u (.ref acc)) (fun _ t2 => ∃ m, t2.heap.Ns C0 m ∧ ∀ g, Heap.SameBut C0 t2.heap g → Qf .none { t2 with heap := g }) X.xe s')) :
    wpAny (model X.prog X.w) X.A (comprehension (.ListComp elt [⟨tg, iter, ifs, 0⟩] sc pos) sc X.env pos' (newList []) false (eval iter X.env) use) Qf X.xe s := by
  obtain ⟨cl, hclos, hcl, hcl2⟩ := closure_of (sc := sc) (env := X.env) fun x hx => I.ok.has x (C.cel x (ok.fre x hx).2.2.1)
  refine blk_run (use := use) rfl hs hclos ok.kind ok.lcl (thn (hi pins s σ H (fun J H2 => ∃ xs o μ1 α1 Ok, ItV D J Ok xs ∧ OkI D φ α1 H2 xs o Ok ∧ o μ1 ∧ Stp α H α1 H2 ∧ MRel D φ α1 H2 μ1 ∧
    Post D W φ α1 H2 σ R (.grd (xs.length ≤ room) ((compO tgt (cElt cs fe) o (blk (tgNames tg).length fs τ) xs μ1).bind kk))) I
    ⟨φ, α, τ, μ, sr, mr, (show Post D W φ α H σ R ((fi τ μ).re.bind fun pr μ1 => .grd (pr.1.length ≤ room) ((compO tgt (cElt cs fe) pr.2 (blk (tgNames tg).length fs τ) pr.1 μ1).bind kk)) from p).bind.mono fun pr μ' α' H' st m q J Ok iv okk lv => ⟨pr.1, pr.2, μ', α', Ok, iv, okk, lv, st, m, q⟩⟩) fun v s1 h1 => thn h1 fun itv s2 h2 => ?_)
  obtain ⟨it, fp, tn, J, H2, rfl, I2, Tn, tn0, f2, xs, Lv, μ1, α1, Ok, iv, okk, lv1, st1, mr1, p1⟩ := h2
  obtain ⟨hroom, K0, Z0, q0, hk0, hz0⟩ := p1.grd
  have fo : ∀ b ∈ fp, ∃ o, s2.heap.get? b = some o := fun b hb => let ⟨o, e, _⟩ := Tn.obj 0 _ tn0 b hb; ⟨o, e⟩
  refine wpAny_newObj_type (wpAny_newFunctionEnv ok.noc (by intro y hy; simp at hy) (fun h₁ hns₁ hsb₁ => ?_) ok.kind)
  have sz : (s2.heap.push { cls := .type "list", dict := none, data := .seq ([] : List Value).toArray }).objs.size = s2.heap.objs.size + 1 := Heap.size_push ..
  dsimp only at hns₁ hsb₁ ⊢
  rw [sz] at hns₁ hsb₁ ⊢
  have hns : h₁.Ns (s2.heap.objs.size + 1) (fun _ => none) := by simpa using hns₁
  obtain ⟨I3, J0⟩ := comp_start (tk := s2.toks + ([] : List (Str × Value)).length) C ok I2 f2 fo hcl hcl2 hns hsb₁
  have hD : H2 s2.heap.objs.size = none := I2.hok.fresh (Nat.le_refl _)
  have nph : s2.heap.objs.size ∉ φ := fresh_phi mr1 hD
  have nal : s2.heap.objs.size ∉ α1 := fresh_out mr1 hD
  have old : ∀ b o, s2.heap.get? b = some o → h₁.get? b = some o := fun b o e => hsb₁.extBut b o (Nat.ne_of_lt (Nat.lt_succ_of_lt (Heap.lt_size e))) (Heap.get?_push_of_some _ (Heap.get?_push_of_some _ e))
  have n3 : ({ s2 with heap := s2.heap.push { cls := .type "list", data := .seq ([] : List Value).toArray } } : Shared).heap.get? (s2.heap.objs.size + 1) = none := Heap.get?_none_of_le (by show (s2.heap.push _).objs.size ≤ _; rw [Heap.size_push]; exact Nat.le_refl _)
  have xo0 := inv_xok I3 n3
  have pn3 : ∀ q ∈ pins, q.1 ≠ s2.heap.objs.size + 1 := fun q hq z => by
    have := (I3.pin q (List.mem_append_right _ hq)).1
    rw [z, n3] at this; cases this
  generalize hS3 : ({ s2 with heap := s2.heap.push { cls := .type "list", data := .seq ([] : List Value).toArray } } : Shared) = S3 at I3 J0 n3
  generalize hH3 : upd H2 s2.heap.objs.size (.lst []) = H3 at I3 J0 xo0
  generalize hXb : cxC X (tgNames tg ++ frees sc) sc cl (s2.heap.objs.size + 1) S3 H3 fp = Xb at J0
  have hXb' : Xb.prog = X.prog ∧ Xb.w = X.w ∧ Xb.K = X.K ∧ Xb.A = X.A ∧ Xb.env = compEnvC sc cl (s2.heap.objs.size + 1) X.env ∧ Xb.calm = X.calm ∧ Xb.pn = [] ∧ Xb.stack = X.stack ∧ Xb.N = tgNames tg ++ frees sc ∧ Xb.fs = frs X.stack := by subst hXb; exact ⟨rfl, rfl, rfl, rfl, rfl, rfl, rfl, rfl, rfl, rfl⟩
  have sto : Sto Xb (tgNames tg) := by subst hXb; exact sto_comp (Γ := Γ) ok
  have cm : Xb.calm = true := by rw [hXb'.2.2.2.2.2.1]; exact C.clm hc
  have back : ∀ {s4 : Shared} {σ4 : St} {H4 : Hp} {pp : List (Addr × Obj)}, Inv Xb pp σ4 H4 s4 → Inv X pins σ H4 s4 := fun {s4 σ4 H4 pp} I4 => by
    subst hXb
    exact I3.call' (ch := fp) I4.os I4.base I4.hok I4.bare fun b hb => by
      obtain ⟨f0, f1, f2', f3, f4, f5⟩ := f2 b hb
      exact ⟨f3, f1, f4, f5⟩
  have fpk : ∀ {H' : Hp}, (∀ b ∈ fp, H' b = none) → ∀ b ∈ fp, FpOk Xb [] H' b := fun hn b hb => by
    obtain ⟨f0, f1, f2', f3, f4, f5⟩ := f2 b hb
    obtain ⟨o, ho⟩ := fo b hb
    subst hXb
    refine ⟨hn b hb, Nat.ne_of_lt (Nat.lt_succ_of_lt (Heap.lt_size ho)), fun z => ?_, .inl hb, fun x c h => f4 x c (hcl x c h).1, fun q hq => absurd hq (by simp [cxC])⟩
    rcases List.mem_cons.mp (I2.stkSub b z) with z | z
    · exact f1 z
    · exact f2' z
  have TnI := Tn.item Xb hXb'.1 hXb'.2.1 hXb'.2.2.1 cm
  have TnD := Tn.done Xb hXb'.1 hXb'.2.1 hXb'.2.2.1 cm
  obtain ⟨e0, out, L, F⟩ := C.frm
  have ce : (compEnvC sc cl (s2.heap.objs.size + 1) X.env).frame = some L := F.fe
  have leave : ∀ {pp : List (Addr × Obj)} {e : Value} {t : Shared}, (∀ b ∈ fp, ∃ o, (b, o) ∈ pp) → XP (Cx.pin' Xb pp) (fun cls d _ He => ∃ c fs' μ' α' Cc, Z0 c fs' μ' ∧ Stp α1 H2 α' He ∧ MRel D (φ ++ [s2.heap.objs.size]) α' He μ' ∧ D.adr c = some Cc ∧ cls = .ref Cc ∧ XDict D (φ ++ [s2.heap.objs.size]) α' He fs' d) e t →
      notedBy (model X.prog X.w) X.A (compEnvC sc cl (s2.heap.objs.size + 1) X.env) (fun x s' => BlkPost (model X.prog X.w) X.A X.xe use Qf (.ref s2.heap.objs.size) (compEnvC sc cl (s2.heap.objs.size + 1) X.env) (.error x) s') e t := fun {pp e t} hpp xp => by
    have Fb : Frm (Cx.pin' Xb pp) e0 out L := ⟨by show Xb.stack = _; rw [hXb'.2.2.2.2.2.2.2.1]; exact F.stk, F.f0, by show Xb.env.frame = _; rw [hXb'.2.2.2.2.1]; exact ce⟩
    have hfr : X.A.frames = some (Cx.pin' Xb pp).stack := by show _ = some Xb.stack; rw [hXb'.2.2.2.2.2.2.2.1]; exact I.ok.frames
    unfold notedBy
    rw [show compEnvC sc cl (s2.heap.objs.size + 1) X.env = (Cx.pin' Xb pp).env from hXb'.2.2.2.2.1.symm]
    refine xp_note (X := Cx.pin' Xb pp) Fb hfr xp fun x cls d σe He T h' ee Ie ox oT tr w => ?_
    subst ee
    have en : (Cx.pin' Xb pp).env = compEnvC sc cl (s2.heap.objs.size + 1) X.env := hXb'.2.2.2.2.1
    rw [en]
    have Iu : Inv Xb pp σe He { t with heap := h' } := inv_unpin' Ie
    have IX := back Iu
    have nw : ∀ b, XOk (Cx.pin' Xb pp) He b → XOk X He b ∧ b ≠ s2.heap.objs.size + 1 := fun b o => by
      have hb : b ∉ fp := fun z => by
        obtain ⟨ob, hm⟩ := hpp b z
        exact o.pin (b, ob) (List.mem_append_right _ hm) rfl
      have h3 : S3.heap.get? b = none := by
        have := o.new
        subst hXb
        exact this.resolve_left hb
      have q := inv_xok I3 h3
      refine ⟨⟨o.free, q.loc, q.nfs, q.new, q.cel, q.pin⟩, ?_⟩
      have := o.loc
      have e2 : (Cx.pin' Xb pp).env.locals = s2.heap.objs.size + 1 := by rw [en]; rfl
      rw [e2] at this; exact this
    have xoC : XOk X He (s2.heap.objs.size + 1) := ⟨by have := Iu.free; rw [hXb'.2.2.2.2.1] at this; exact this, xo0.loc, xo0.nfs, xo0.new, xo0.cel, xo0.pin⟩
    obtain ⟨m, hm, _⟩ := Iu.loc
    rw [hXb'.2.2.2.2.1] at hm
    refine ⟨m, hm, fun g sb => ?_⟩
    have sb' : Heap.SameBut (s2.heap.objs.size + 1) h' g := sb
    have Ig : Inv X [] σ He { t with heap := g } := (inv_but IX xoC pn3 sb').pins_of fun p hp => absurd hp (by simp)
    have tg' := tr.but sb' (nw x ox).2 (nw T oT).2
    unfold PySem.passOn
    obtain ⟨oe, vs', a0, oT', ts, ho, hcc, hd, hv0, hv1, hT, hoT, hdT, h3⟩ := id tg'
    refine wpAny_bind (wpAny_field ho hd hv1 ?_)
    rw [if_neg (show ¬ ((Value.ref T == Value.none) = true) from by simp)]
    have go : ∀ {t2 : Shared}, XP X W (.ref x) t2 → wpAny (model X.prog X.w) X.A (throw (Value.ref x) : Sem Value) (fun _ _ => False) X.xe t2 := fun {t2} xp => wpAny_throw (C.xe _ _ xp)
    have fin : wpAny (model X.prog X.w) X.A (setFlight (.ref x) (compEnvC sc cl (s2.heap.objs.size + 1) X.env).frame) (fun _ t2 => XP X W (.ref x) t2) X.xe { t with heap := g } := by
      refine xp_flight (s := { t with heap := g }) Ig (nw x ox).1 (nw T oT).1 tg' fun h4 I4 tr4 => ?_
      obtain ⟨c, fs', μ', α', Cc, z, stp, m', ad, rfl, xd⟩ := w
      refine ⟨x, .ref Cc, d, σ, He, some T, rawInt L, rfl, I4, (nw x ox).1, fun t ht => ?_, ?_, .inr ⟨L, F.fe, rfl⟩, ?_⟩
      · have : t = T := by simpa using ht
        rw [this]; exact (nw T oT).1
      · rw [ce] at tr4; exact tr4
      · refine hz0 c fs' μ' z α' He Cc d stp (m'.lk look_less (fun a ha => ⟨rfl, fun z => m'.dis a ha (List.mem_append_left _ z)⟩) fun b hb => m'.phi b (List.mem_append_left _ hb)) ad (xd.lk look_less)
    first
      | exact wpAny_bind (thn fin fun _ t2 xp => go xp)
      | exact wpAny_bind (wpAny_pure (wpAny_bind (thn fin fun _ t2 xp => go xp)))
  have loop : codeAny (model X.prog X.w) X.A (.compLoop (.ListComp elt [⟨tg, iter, ifs, 0⟩] sc pos) 0 (.ref it) (.ref s2.heap.objs.size) (compEnvC sc cl (s2.heap.objs.size + 1) X.env)) (BlkPost (model X.prog X.w) X.A X.xe use Qf (.ref s2.heap.objs.size) (compEnvC sc cl (s2.heap.objs.size + 1) X.env)) { s2 with heap := h₁, toks := s2.toks + ([] : List (Str × Value)).length } := by
    refine comp_loop (fun n s' => ∃ i σ' H' α' μ' yT yV, n = xs.length - i ∧ i ≤ xs.length ∧ Inv Xb [] σ' H' s' ∧ tn i s'.heap ∧ (∀ b ∈ fp, H' b = none) ∧
      Stp α1 H2 α' H' ∧ MRel D (φ ++ [s2.heap.objs.size]) α' H' μ' ∧ SRel D (φ ++ [s2.heap.objs.size]) α' H' (blk (tgNames tg).length fs τ) σ' ∧ H' s2.heap.objs.size = some (.lst yV) ∧ DenL D (φ ++ [s2.heap.objs.size]) α' H' yT yV ∧ yT.length ≤ i ∧
      Lv μ' ∧ compO tgt (cElt cs fe) Lv (blk (tgNames tg).length fs τ) (xs.drop i) μ' (fun rest μ2 => kk (yT ++ rest) μ2 K0 Z0) Z0) ?_ xs.length ?_
    · rintro n s' ⟨i, σ', H', α', μ', yT, yV, rfl, hi', Iv, tni, fr, stp, mr', sr', hacc, dly, hyl, lv', hcmi⟩
      have okH : Ok (φ ++ [s2.heap.objs.size]) α' H' := okk _ α' H' μ' ((look_more hD).trans stp.lk) mr' lv'
      by_cases hlt : i < xs.length
      · have TI := TnI i [] s' σ' H' (fun _ _ => False) Iv (fpk fr) tni (iv.go i _ _ H' okH (by omega))
        rw [hXb'.2.2.2.1] at TI
        refine thn TI ?_
        rintro r s4 ⟨u, rfl, h4⟩
        refine thn h4 ?_
        rintro _ s5 ⟨x, H5, I5, r5, y5, tn5, fr5⟩
        obtain ⟨sm5, dx'⟩ := iv.yld i _ _ H' x H5 xs[i] okH (by simp [hlt]) y5
        have stp := stp.trans (Stp.new (α := α') sm5)
        have sr' := sr'.step (Stp.new (α := α') sm5)
        have mr' := mr'.new sm5
        have hacc := sm5 _ _ hacc
        have dly := dly.step (Stp.new (α := α') sm5)
        have hdr : xs.drop i = xs[i] :: xs.drop (i + 1) := List.drop_eq_getElem_cons hlt
        rw [hdr] at hcmi
        obtain ⟨τ', ha, hfe⟩ := hcmi
        have I5' := I5.pinned (fpk fr5) (Tn.obj _ _ tn5)
        have A6 := asg_ok (S := tgNames tg) (X := Xb) hXb'.2.2.2.2.2.2.2.2.1 ok.nd sto cm (fun x h => h) htg ha I5' sr' dx' r5
        rw [hXb'.1, hXb'.2.1, hXb'.2.2.2.1, hXb'.2.2.2.2.1, show Xb.xe = fun _ _ => False by subst hXb; rfl] at A6
        refine thn A6 ?_
        rintro _ s6 ⟨σ6, I6, sr6⟩
        generalize hpp : ([] ++ pinsAt fp s5.heap : List (Addr × Obj)) = pp at I6
        have hppm : ∀ b ∈ fp, ∃ o, (b, o) ∈ pp := fun b hb => by
          obtain ⟨o, e, _⟩ := Tn.obj _ _ tn5 b hb
          exact ⟨o, by rw [← hpp]; exact List.mem_append_right _ (mem_pinsAt hb e)⟩
        generalize hW1 : (fun (cls : Value) (d : Option Addr) (_ : St) (He : Hp) => ∃ c fs' μ' α' Cc, Z0 c fs' μ' ∧ Stp α1 H2 α' He ∧ MRel D (φ ++ [s2.heap.objs.size]) α' He μ' ∧ D.adr c = some Cc ∧ cls = .ref Cc ∧ XDict D (φ ++ [s2.heap.objs.size]) α' He fs' d : XW) = W1
        have lv : ∀ e t, XP (Cx.pin' Xb pp) W1 e t → notedBy (model X.prog X.w) X.A (compEnvC sc cl (s2.heap.objs.size + 1) X.env) (fun x s' => BlkPost (model X.prog X.w) X.A X.xe use Qf (.ref s2.heap.objs.size) (compEnvC sc cl (s2.heap.objs.size + 1) X.env) (.error x) s') e t := fun e t xp => by
          rw [← hW1] at xp; exact leave hppm xp
        have ck : Ck D W1 (inComp Γ tg sc) ((Cx.pin' Xb pp).wish (XP (Cx.pin' Xb pp) W1)) k := by
          subst hXb
          exact ck_comp (W' := W1) (pn := [] ++ pp) (xe := XP (Cx.pin' (cxC X (tgNames tg ++ frees sc) sc cl (s2.heap.objs.size + 1) S3 H3 fp) pp) W1) C ok fun e s p => xp_unwish (X := Cx.pin' (cxC X (tgNames tg ++ frees sc) sc cl (s2.heap.objs.size + 1) S3 H3 fp) pp) p
        have I6' : Inv ((Cx.pin' Xb pp).wish (XP (Cx.pin' Xb pp) W1)) [] σ6 H5 s6 := (inv_pin' I6).wish _
        have next : ∀ {s7 : Shared} {H7 : Hp} {α7 : List Addr} {μ7 : Mem} {yT' : List T} {yV' : List V}, Inv ((Cx.pin' Xb pp).wish (XP (Cx.pin' Xb pp) W1)) [] σ6 H7 s7 → Stp α1 H2 α7 H7 → MRel D (φ ++ [s2.heap.objs.size]) α7 H7 μ7 → SRel D (φ ++ [s2.heap.objs.size]) α7 H7 τ' σ6 → H7 s2.heap.objs.size = some (.lst yV') → DenL D (φ ++ [s2.heap.objs.size]) α7 H7 yT' yV' → yT'.length ≤ i + 1 →
            Lv μ7 → compO tgt (cElt cs fe) Lv (blk (tgNames tg).length fs τ) (xs.drop (i + 1)) μ7 (fun rest μ2 => kk (yT' ++ rest) μ2 K0 Z0) Z0 →
            ∃ m, m < xs.length - i ∧ ∃ i σ' H' α' μ' yT yV, m = xs.length - i ∧ i ≤ xs.length ∧ Inv Xb [] σ' H' s7 ∧ tn i s7.heap ∧ (∀ b ∈ fp, H' b = none) ∧ Stp α1 H2 α' H' ∧ MRel D (φ ++ [s2.heap.objs.size]) α' H' μ' ∧ SRel D (φ ++ [s2.heap.objs.size]) α' H' (blk (tgNames tg).length fs τ) σ' ∧ H' s2.heap.objs.size = some (.lst yV) ∧ DenL D (φ ++ [s2.heap.objs.size]) α' H' yT yV ∧ yT.length ≤ i ∧
              Lv μ' ∧ compO tgt (cElt cs fe) Lv (blk (tgNames tg).length fs τ) (xs.drop i) μ' (fun rest μ2 => kk (yT ++ rest) μ2 K0 Z0) Z0 := fun {s7 H7 α7 μ7 yT' yV'} I7 st7 m7 sr7 ac7 dy7 hy7 lv7 q7 => by
          have I7u : Inv Xb pp σ6 H7 s7 := inv_unpin' I7.unwish
          have pinned : ∀ b ∈ fp, ∃ o, s5.heap.get? b = some o ∧ s7.heap.get? b = some o ∧ H7 b = none := fun b hb => by
            obtain ⟨o, e, _⟩ := Tn.obj _ _ tn5 b hb
            have := I7u.pin (b, o) (List.mem_append_right _ (by rw [← hpp]; exact List.mem_append_right _ (mem_pinsAt hb e)))
            exact ⟨o, e, this.1, this.2.1⟩
          refine ⟨xs.length - (i + 1), by omega, i + 1, σ6, H7, α7, μ7, yT', yV', rfl, hlt, I7u.pins_of (fun p hp => absurd hp (by simp)), Tn.keep _ _ _ tn5 (fun b hb o e => ?_), fun b hb => (pinned b hb).choose_spec.2.2, st7, m7, ⟨?_, fun j t e => ?_⟩, ac7, dy7, hy7, lv7, q7⟩
          · obtain ⟨o', e1, e2, _⟩ := pinned b hb
            rw [e] at e1; cases e1; exact e2
          · have := I7u.len
            rw [hXb'.2.2.2.2.2.2.2.2.1] at this
            rw [blk_eq, this]
            simp [selS_len, idxF_len hfs]
          · have hj : (tgNames tg).length ≤ j := by
              rcases Nat.lt_or_ge j (tgNames tg).length with h | h
              · rw [blk_eq, List.getElem?_append_left (by simpa using h), List.getElem?_replicate] at e
                split at e <;> cases e
              · exact h
            exact sr7.val j t (by rw [asg_keep htg ha j hj]; exact e)
        have P0 : Post D W1 (φ ++ [s2.heap.objs.size]) α' H5 σ6 (fun (o : Option T) μ7 α7 H7 => match o with
            | some y => ∀ v, Den D (φ ++ [s2.heap.objs.size]) α7 H7 y v → Lv μ7 ∧ compO tgt (cElt cs fe) Lv (blk (tgNames tg).length fs τ) (xs.drop (i + 1)) μ7 (fun ys μ2 => kk (yT ++ y :: ys) μ2 K0 Z0) Z0
            | none => Lv μ7 ∧ compO tgt (cElt cs fe) Lv (blk (tgNames tg).length fs τ) (xs.drop (i + 1)) μ7 (fun ys μ2 => kk (yT ++ ys) μ2 K0 Z0) Z0) ((cElt cs fe τ' μ').bind fun o μ7 => RE.ok o μ7) := by
          refine ⟨_, Z0, hfe, fun o μ7 e α7 H7 st m => ?_, fun c fs' μ7 z α7 H7 Cc d st m ad xd => ?_⟩
          · cases o with
            | some y => exact fun v _ => e
            | none => exact e
          · rw [← hW1]; exact ⟨c, fs', μ7, α7, Cc, z, stp.trans st, m, ad, rfl, xd⟩
        have ep : ((Cx.pin' Xb pp).wish (XP (Cx.pin' Xb pp) W1)).prog = X.prog := hXb'.1
        have ew : ((Cx.pin' Xb pp).wish (XP (Cx.pin' Xb pp) W1)).w = X.w := hXb'.2.1
        have eA : ((Cx.pin' Xb pp).wish (XP (Cx.pin' Xb pp) W1)).A = X.A := hXb'.2.2.2.1
        have ee : ((Cx.pin' Xb pp).wish (XP (Cx.pin' Xb pp) W1)).env = compEnvC sc cl (s2.heap.objs.size + 1) X.env := hXb'.2.2.2.2.1
        have nD : s2.heap.objs.size ∉ α' := fun z => mr'.dis _ z (by simp)
        have G := elt_go (X := (Cx.pin' Xb pp).wish (XP (Cx.pin' Xb pp) W1)) (M := model X.prog X.w) (A := X.A) (Qf := fun b s₄ => if b = true then wpAny (model X.prog X.w) X.A (eval elt (compEnvC sc cl (s2.heap.objs.size + 1) X.env)) (fun x s₅ => wpAny (model X.prog X.w) X.A (call (.builtin "list.append") [.ref s2.heap.objs.size, x]) (fun _ s₆ => ∃ m, m < xs.length - i ∧ ∃ i σ' H' α' μ' yT yV, m = xs.length - i ∧ i ≤ xs.length ∧ Inv Xb [] σ' H' s₆ ∧ tn i s₆.heap ∧ (∀ b ∈ fp, H' b = none) ∧ Stp α1 H2 α' H' ∧ MRel D (φ ++ [s2.heap.objs.size]) α' H' μ' ∧ SRel D (φ ++ [s2.heap.objs.size]) α' H' (blk (tgNames tg).length fs τ) σ' ∧ H' s2.heap.objs.size = some (.lst yV) ∧ DenL D (φ ++ [s2.heap.objs.size]) α' H' yT yV ∧ yT.length ≤ i ∧
              Lv μ' ∧ compO tgt (cElt cs fe) Lv (blk (tgNames tg).length fs τ) (xs.drop i) μ' (fun rest μ2 => kk (yT ++ rest) μ2 K0 Z0) Z0) (fun _ _ => False) s₅) (notedBy (model X.prog X.w) X.A (compEnvC sc cl (s2.heap.objs.size + 1) X.env) fun x s' => BlkPost (model X.prog X.w) X.A X.xe use Qf (.ref s2.heap.objs.size) (compEnvC sc cl (s2.heap.objs.size + 1) X.env) (.error x) s') s₄ else ∃ m, m < xs.length - i ∧ ∃ i σ' H' α' μ' yT yV, m = xs.length - i ∧ i ≤ xs.length ∧ Inv Xb [] σ' H' s₄ ∧ tn i s₄.heap ∧ (∀ b ∈ fp, H' b = none) ∧ Stp α1 H2 α' H' ∧ MRel D (φ ++ [s2.heap.objs.size]) α' H' μ' ∧ SRel D (φ ++ [s2.heap.objs.size]) α' H' (blk (tgNames tg).length fs τ) σ' ∧ H' s2.heap.objs.size = some (.lst yV) ∧ DenL D (φ ++ [s2.heap.objs.size]) α' H' yT yV ∧ yT.length ≤ i ∧
              Lv μ' ∧ compO tgt (cElt cs fe) Lv (blk (tgNames tg).length fs τ) (xs.drop i) μ' (fun rest μ2 => kk (yT ++ rest) μ2 K0 Z0) Z0) (hts _ W1 ck) I6' sr6 mr' P0 (fun s7 H7 α7 μ7 I7 st7 sr7 m7 p7 => ?_) (fun s7 H7 α7 μ7 I7 st7 sr7 m7 p7 => ?_)
        · rw [ep, ew, eA, ee] at G
          exact testsW_mono (fun e t h => lv e t h) G
        · rw [if_pos rfl]
          have E7 := sub (hel _ W1 ck) I7 sr7 m7 p7
          rw [ep, ew, eA, ee] at E7
          refine wpAny_mono E7 (fun x8 s8 h8 => ?_) fun e t h => lv e t h
          obtain ⟨v8, H8, y8, μ8, α8, I8, r8, st8, sr8, m8, d8, p8⟩ := h8
          have q8 := p8.ok (Stp.refl _ _) m8 v8 d8
          have acc8 : H8 s2.heap.objs.size = some (.lst yV) := st8.keep _ _ (fun z => m7.dis _ z (by simp)) (st7.keep _ _ nD hacc)
          have hyv : yV.length ≤ i := by rw [← dly.length]; exact hyl
          have AP := mt_append (X := Cx.pin' Xb pp) [] s8 σ6 H8 (.ref s2.heap.objs.size) [v8] (.ref s2.heap.objs.size) [x8] (fun _ H9 => H9 = upd H8 s2.heap.objs.size (.lst (yV ++ [v8]))) I8.unwish rfl (.cons r8 .nil) ⟨_, yV, v8, rfl, rfl, acc8, Nat.lt_of_le_of_lt hyv (Nat.lt_of_lt_of_le hlt (room_line hroom)), rfl⟩
          rw [show (Cx.pin' Xb pp).prog = X.prog from hXb'.1, show (Cx.pin' Xb pp).w = X.w from hXb'.2.1, show (Cx.pin' Xb pp).A = X.A from hXb'.2.2.2.1, show (Cx.pin' Xb pp).xe = fun _ _ => False by subst hXb; rfl] at AP
          refine thn AP ?_
          rintro x9 s9 ⟨v9, H9, I9, r9, rfl⟩
          have inphi : s2.heap.objs.size ∈ φ ++ [s2.heap.objs.size] := by simp
          have t := (stp.trans st7).trans st8
          have one : DenL D (φ ++ [s2.heap.objs.size]) α8 H8 [y8] [v8] := ⟨v8, [], rfl, d8, rfl⟩
          refine next (I9.wish _) ⟨t.ext, fun b o n e => ?_, fun b e => t.live b ?_⟩ (m8.lk (look_upd inphi) (fun a ha' => ⟨by rw [upd_ne (fun z => m8.dis a ha' (by rw [z]; simp))], m8.dis a ha'⟩) (fun b hb => ?_)) (sr8.lk (look_upd inphi)) upd_same ((((dly.step st7).step st8).append one).lk (look_upd inphi)) (by simp; omega) q8.1 (by simpa using q8.2)
          · rw [upd_ne (ne_of_none e hD)]; exact t.keep b o n e
          · by_cases hb : b = s2.heap.objs.size
            · rw [hb, upd_same] at e; cases e
            · rw [upd_ne hb] at e; exact e
          · by_cases hb' : b = s2.heap.objs.size
            · rw [hb', upd_same]; exact ⟨_, rfl⟩
            · rw [upd_ne hb']; exact m8.phi b hb
        · rw [if_neg (by decide)]
          exact next I7 (stp.trans st7) m7 sr7 (st7.keep _ _ nD hacc) (dly.step st7) (by omega) (p7.ok (Stp.refl _ _) m7).1 (p7.ok (Stp.refl _ _) m7).2
      · have hie : i = xs.length := by omega
        have TD := TnD i [] s' σ' H' (fun _ _ => False) Iv (fpk fr) tni (by rw [hie]; exact iv.stop _ _ H' okH)
        rw [hXb'.2.2.2.1] at TD
        refine thn TD ?_
        rintro r s4 ⟨rfl, I4⟩
        have hdr : xs.drop i = [] := by rw [hie]; simp
        rw [hdr] at hcmi
        have q4 : kk yT μ' K0 Z0 := by
          have : kk (yT ++ []) μ' K0 Z0 := hcmi
          simpa using this
        have I5 := back I4
        obtain ⟨m, hm, _⟩ := I4.loc
        rw [hXb'.2.2.2.2.1] at hm
        exact Kq s2.heap.objs.size (s2.heap.objs.size + 1) s4 α1 H2 H' α' yT yV μ' I5 st1 stp hD nph nal (((sr.step st1).lk (look_more hD)).step stp) mr' hacc dly ⟨K0, Z0, q4, hk0, hz0⟩ ⟨by have := I4.free; rw [hXb'.2.2.2.2.1] at this; exact this, xo0.loc, xo0.nfs, xo0.new, xo0.cel, xo0.pin⟩ pn3 ⟨m, hm⟩
    · have sm : Same H2 H3 := by rw [← hH3]; exact same_upd hD
      refine ⟨0, _, _, α1, μ1, [], [], rfl, Nat.zero_le _, J0, Tn.keep _ _ _ tn0 fun b hb o e => old b o e, fun b hb => ?_, Stp.new sm, ?_, ?_, by rw [← hH3]; exact upd_same, rfl, Nat.le_refl _, lv1, by simpa using q0⟩
      · obtain ⟨o, ho⟩ := fo b hb
        rw [← hH3, upd_ne (Nat.ne_of_lt (Heap.lt_size ho))]
        exact (f2 b hb).1
      · refine mr1.lk (look_new hD sm) (fun a ha => ?_) fun b hb => ?_
        · have na : a ≠ s2.heap.objs.size := fun z => nal (z ▸ ha)
          exact ⟨by rw [← hH3]; exact upd_ne na, fun z => (List.mem_append.mp z).elim (mr1.dis a ha) fun z => na (List.mem_singleton.mp z)⟩
        · rcases List.mem_append.mp hb with z | z
          · obtain ⟨o, e⟩ := mr1.phi b z
            exact ⟨o, sm b o e⟩
          · rw [List.mem_singleton.mp z, ← hH3, upd_same]; exact ⟨_, rfl⟩
      · exact (blk_rel (sr.step st1) hfs).lk (look_new hD sm)
  exact codeAny_compStart_list loop (wpAny_mono (Tn.self _ 0 _ _ _ (Tn.keep _ _ _ tn0 fun b hb o e => old b o e) loop) (fun _ _ q => q) fun _ _ q => q)
end
end NH
end
section
set_option linter.all false
set_option maxRecDepth 100000
set_option maxHeartbeats 4000000
namespace NH
open PySem PySem.Spec PyProof.Rows L2
section
variable {X : Cx} {D : DP} {W : XW} {Γ : Cn} {k : Nat} {pins : List (Addr × Obj)} {s : Shared} {σ : St} {H : Hp} {φ α : List Addr} {τ : Sl} {μ : Mem} {tg iter elt : Expr} {sc : Scope} {pos : Pos} {fi : Di} {fs : List Nat} {tgt : Tg} {ifs : List Expr} {cs : List Dt} {fe : De}
theorem blk_tree {β : Type} {R : β → Mem → List Addr → Hp → Prop} {kk : T → Mem → RE β} {acc : Addr} {α1 α' : List Addr} {H1 H' : Hp} {ys : List T} {vs : List V} {μ' : Mem} (st : Stp α1 H1 α' H') (hn : H1 acc = none) (nph : acc ∉ φ) (mr : MRel D (φ ++ [acc]) α' H' μ') (ha : H' acc = some (.lst vs)) (dl : DenL D (φ ++ [acc]) α' H' ys vs) (p : Post D W φ α1 H1 σ R (kk (.lst ys) μ')) :
    MRel D φ α' H' μ' ∧ Den D φ α' H' (.lst ys) (.ref acc) ∧ Post D W φ α' H' σ R (kk (.lst ys) μ') :=
  ⟨mr.lk look_less (fun a ha => ⟨rfl, fun z => mr.dis a ha (List.mem_append_left _ z)⟩) fun b hb => mr.phi b (List.mem_append_left _ hb), ⟨acc, vs, rfl, nph, fun z => mr.dis _ z (by simp), .inl ha, dl.lk look_less⟩, p.step st⟩
theorem look_adopt {acc : Addr} {α' : List Addr} {H' : Hp} : Lk (φ ++ [acc]) α' H' φ (α' ++ [acc]) H' := ⟨fun a o n1 n2 e => ⟨fun z => n1 (List.mem_append_left _ z), fun z => (List.mem_append.mp z).elim n2 fun z => n1 (by rw [List.mem_singleton.mp z]; simp), e⟩, fun i a e => by
  rw [List.getElem?_append_left (List.getElem?_eq_some_iff.mp e).1]; exact e⟩
theorem blk_store {acc : Addr} {α1 α' : List Addr} {H1 H' : Hp} {ys : List T} {vs : List V} {μ' : Mem} (st : Stp α1 H1 α' H') (hn : H1 acc = none) (nph : acc ∉ φ) (mr : MRel D (φ ++ [acc]) α' H' μ') (ha : H' acc = some (.lst vs)) (dl : DenL D (φ ++ [acc]) α' H' ys vs) :
    Stp α1 H1 (α' ++ [acc]) H' ∧ MRel D φ (α' ++ [acc]) H' (μ' ++ [.lst ys]) ∧ Den D φ (α' ++ [acc]) H' (.mut μ'.length) (.ref acc) := by
  have nal : acc ∉ α' := fun z => mr.dis _ z (by simp)
  refine ⟨?_, ⟨by simp [mr.len], ?_, fun b hb => ?_, fun b hb => mr.phi b (List.mem_append_left _ hb), fun i a o e1 e2 => ?_⟩, acc, by rw [← mr.len, List.getElem?_append_right (Nat.le_refl _)]; simp, rfl⟩
  · obtain ⟨β, e, hβ⟩ := st.ext
    exact ⟨⟨β ++ [acc], by rw [e]; simp, fun b hb => (List.mem_append.mp hb).elim (hβ b) fun z => by rw [List.mem_singleton.mp z]; exact hn⟩, st.keep, st.live⟩
  · rw [List.nodup_append]
    exact ⟨mr.nd, by simp, fun a ha b hb z => nal (by rw [List.mem_singleton.mp hb] at z; exact z ▸ ha)⟩
  · rcases List.mem_append.mp hb with h | h
    · exact fun z => mr.dis b h (List.mem_append_left _ z)
    · rw [List.mem_singleton.mp h]; exact nph
  · by_cases hi : i < α'.length
    · rw [List.getElem?_append_left hi] at e1
      rw [List.getElem?_append_left (by rw [← mr.len]; exact hi)] at e2
      exact (mr.ob i a o e1 e2).lk look_adopt rfl
    · have hl := mr.len
      rw [List.getElem?_append_right (by omega)] at e1 e2
      have hi' : i - α'.length = 0 := by
        by_cases z : i - α'.length = 0
        · exact z
        · rw [List.getElem?_eq_none (by simp; omega)] at e1; cases e1
      have hi2 : i - μ'.length = 0 := by omega
      rw [hi'] at e1
      rw [hi2] at e2
      have e1 : some acc = some a := e1
      have e2 : some (MO.lst ys) = some o := e2
      cases e1; cases e2
      exact ⟨vs, ha, dl.lk look_adopt⟩
theorem se_comp (C : Ck D W Γ X k) (hc : Γ.calm = true) (ok : CompOk Γ.N Γ.cel tg sc) (hfs : idxF Γ.N (frees sc) = some fs) (htg : tgOf (tgNames tg ++ frees sc) tg = some tgt) (hi : PI X tg iter (rdI D W fi)) (hel : ∀ X' W', Ck D W' (inComp Γ tg sc) X' k → PE X' elt (rdE D W' fe)) (hts : ∀ X' W', Ck D W' (inComp Γ tg sc) X' k → TsOk X' D W' ifs cs) (hs : ∀ x, foldedSetIterable iter X.env x = pure x) :
    PE X (.ListComp elt [⟨tg, iter, ifs, 0⟩] sc pos) (rdE D W (eComp (tgNames tg).length fs tgt fi cs fe)) := by
  rintro pins s σ H Q I ⟨φ, α, τ, μ, sr, mr, p⟩
  rw [eval_ListComp]
  refine comp_core (kk := fun ys μ => RE.ok (T.lst ys) μ) (use := none) (Qf := EP X pins σ Q) C hc ok hfs htg hi hel hts hs I sr mr p ?_
  rintro acc C0 s' α1 H1 H' α' ys vs μ' I' st1 st hn nph nal sr' m ha dl post xo hp ⟨mm, hm⟩
  obtain ⟨m2, d, post⟩ := blk_tree (kk := fun t μ => RE.ok t μ) st hn nph m ha dl post
  exact ⟨mm, hm, fun g sb => ⟨.ref acc, H', inv_but I' xo hp sb, rfl, post.here m2 d⟩⟩
theorem se_compL (C : Ck D W Γ X k) (hc : Γ.calm = true) (ok : CompOk Γ.N Γ.cel tg sc) (hfs : idxF Γ.N (frees sc) = some fs) (htg : tgOf (tgNames tg ++ frees sc) tg = some tgt) (hi : PI X tg iter (rdI D W fi)) (hel : ∀ X' W', Ck D W' (inComp Γ tg sc) X' k → PE X' elt (rdE D W' fe)) (hts : ∀ X' W', Ck D W' (inComp Γ tg sc) X' k → TsOk X' D W' ifs cs) (hs : ∀ x, foldedSetIterable iter X.env x = pure x) :
    PE X (.ListComp elt [⟨tg, iter, ifs, 0⟩] sc pos) (rdE D W (eCompL (tgNames tg).length fs tgt fi cs fe)) := by
  rintro pins s σ H Q I ⟨φ, α, τ, μ, sr, mr, p⟩
  rw [eval_ListComp]
  refine comp_core (kk := fun ys μ => RE.ok (T.mut μ.length) (μ ++ [MO.lst ys])) (use := none) (Qf := EP X pins σ Q) C hc ok hfs htg hi hel hts hs I sr mr p ?_
  rintro acc C0 s' α1 H1 H' α' ys vs μ' I' st1 st hn nph nal sr' m ha dl post xo hp ⟨mm, hm⟩
  obtain ⟨st2, m2, d⟩ := blk_store st hn nph m ha dl
  exact ⟨mm, hm, fun g sb => ⟨.ref acc, H', inv_but I' xo hp sb, rfl, post.ok st2 m2 _ d⟩⟩
theorem look_eq {x : Str} {g : GM} (h : Γ.look x = g) (hg : g ≠ .bad) : x ∈ Γ.G ∧ Γ.gl x = g := by
  unfold Cn.look at h
  split at h
  · rename_i hm
    exact ⟨by simpa using hm, h⟩
  · exact absurd h.symm hg
theorem noSet {iter : Expr} (h : plainIn iter = true) : ∀ x, foldedSetIterable iter X.env x = pure x := by
  intro x
  cases iter <;> first | rfl | (simp [plainIn] at h)
end
end NH
end
section
set_option linter.all false
set_option maxRecDepth 100000
set_option maxHeartbeats 4000000
namespace NH
open PySem PySem.Spec PyProof.Rows L2
def PostS (D : DP) (W : XW) (φ α : List Addr) (H : Hp) (E : Ends) (o : Out) : Prop :=
  ∃ Q : En, o Q ∧ (∀ τ μ, Q.nx τ μ → ∀ α' H' σ', Stp α H α' H' → MRel D φ α' H' μ → SRel D φ α' H' τ σ' → E.nx σ' H') ∧
    (∀ τ μ, Q.bk τ μ → ∀ α' H' σ', Stp α H α' H' → MRel D φ α' H' μ → SRel D φ α' H' τ σ' → E.bk σ' H') ∧
    (∀ τ μ, Q.ct τ μ → ∀ α' H' σ', Stp α H α' H' → MRel D φ α' H' μ → SRel D φ α' H' τ σ' → E.ct σ' H') ∧
    (∀ t μ, Q.rt t μ → ∀ α' H' v, Stp α H α' H' → MRel D φ α' H' μ → Den D φ α' H' t v → E.rt v H') ∧
    (∀ c fs τ μ, Q.ex c fs τ μ → ∀ α' H' σ' C d, Stp α H α' H' → MRel D φ α' H' μ → SRel D φ α' H' τ σ' → D.adr c = some C → XDict D φ α' H' fs d → W (.ref C) d σ' H')
def rdS (D : DP) (W : XW) (f : Ds) : TS := fun E σ H => ∃ φ α τ μ, SRel D φ α H τ σ ∧ MRel D φ α H μ ∧ PostS D W φ α H E (f τ μ)
structure Sk (D : DP) (W : XW) (Γ : Cn) (X : Cx) (k : Nat) : Prop extends Ck D W Γ X k where
  sto : Sto X Γ.N
  lcl : ∀ x ∈ Γ.N, Γ.cel.contains x = false → X.env.scope.names.lookup x = some .local
  pso : PassesOwn (model X.prog X.w) X.A X.env X.xe
  xmt : ∀ t x c, (x, c) ∈ Γ.cls → c < 40 → ∀ Ct Cc, D.adr t = some Ct → X.mg x = some (.ref Cc) → PySem.W.exmOne X.K (.ref Ct) (.ref Cc) = some (isinN t c)
section
variable {X : Cx} {D : DP} {W : XW} {Γ : Cn} {k : Nat} {pins : List (Addr × Obj)} {s : Shared} {σ : St} {H : Hp} {φ α : List Addr} {τ : Sl} {μ : Mem} {f g : De} {a b c e : Expr} {pos : Pos} {E : Ends} {u v : Ds}
theorem PostS.step {α' : List Addr} {H' : Hp} {o : Out} (p : PostS D W φ α H E o) (st : Stp α H α' H') : PostS D W φ α' H' E o := by
  obtain ⟨Q, q, h1, h2, h3, h4, h5⟩ := p
  exact ⟨Q, q, fun τ μ z α2 H2 σ2 s2 => h1 τ μ z α2 H2 σ2 (st.trans s2), fun τ μ z α2 H2 σ2 s2 => h2 τ μ z α2 H2 σ2 (st.trans s2), fun τ μ z α2 H2 σ2 s2 => h3 τ μ z α2 H2 σ2 (st.trans s2), fun τ μ z α2 H2 σ2 s2 => h4 τ μ z α2 H2 σ2 (st.trans s2), fun c fs τ μ z α2 H2 σ2 C d s2 => h5 c fs τ μ z α2 H2 σ2 C d (st.trans s2)⟩
theorem PostS.elim {C : Prop} (p : PostS D W φ α H E Out.st) : C := by obtain ⟨_, q, _⟩ := p; exact q.elim
theorem PostS.nx {τ : Sl} {μ : Mem} (p : PostS D W φ α H E (.nx τ μ)) {α' : List Addr} {H' : Hp} {σ' : St} (s : Stp α H α' H') (m : MRel D φ α' H' μ) (r : SRel D φ α' H' τ σ') : E.nx σ' H' := by
  obtain ⟨Q, q, h1, _⟩ := p
  exact h1 τ μ q α' H' σ' s m r
theorem PostS.rt {t : T} {μ : Mem} (p : PostS D W φ α H E (.rt t μ)) {α' : List Addr} {H' : Hp} {v : V} (s : Stp α H α' H') (m : MRel D φ α' H' μ) (r : Den D φ α' H' t v) : E.rt v H' := by
  obtain ⟨Q, q, _, _, _, h, _⟩ := p
  exact h t μ q α' H' v s m r
theorem PostS.ex {c : Nat} {fs : List (Nat × T)} {τ : Sl} {μ : Mem} (p : PostS D W φ α H E (.ex c fs τ μ)) {α' : List Addr} {H' : Hp} {σ' : St} {C : Addr} {d : Option Addr} (s : Stp α H α' H') (m : MRel D φ α' H' μ) (r : SRel D φ α' H' τ σ') (ad : D.adr c = some C) (x : XDict D φ α' H' fs d) : W (.ref C) d σ' H' := by
  obtain ⟨Q, q, _, _, _, _, h⟩ := p
  exact h c fs τ μ q α' H' σ' C d s m r ad x
theorem PostS.grd {c : Prop} {o : Out} (p : PostS D W φ α H E (Out.grd c o)) : c ∧ PostS D W φ α H E o := by
  obtain ⟨Q, q, h⟩ := p
  exact ⟨q.1, Q, q.2, h⟩
theorem PostS.som {γ : Type} {o : Option γ} {k : γ → Out} (p : PostS D W φ α H E (Out.som o k)) : ∃ a, o = some a ∧ PostS D W φ α H E (k a) := by
  obtain ⟨Q, ⟨a, e, q⟩, h⟩ := p
  exact ⟨a, e, Q, q, h⟩
theorem PostS.br {b : Bool} {r s : Out} (p : PostS D W φ α H E (Out.br b r s)) : (b = true ∧ PostS D W φ α H E r) ∨ (b = false ∧ PostS D W φ α H E s) := by
  obtain ⟨Q, q, h⟩ := p
  cases b with
  | true => exact .inl ⟨rfl, Q, q, h⟩
  | false => exact .inr ⟨rfl, Q, q, h⟩
theorem PostS.ex2 {δ1 δ2 : Type} {P P2 : δ1 → δ2 → Prop} {r : δ1 → δ2 → Out} (p : PostS D W φ α H E (fun Q => ∃ x y, P x y ∧ P2 x y ∧ r x y Q)) : ∃ x y, P x y ∧ P2 x y ∧ PostS D W φ α H E (r x y) := by
  obtain ⟨Q, ⟨x, y, h1, h2, q⟩, h⟩ := p
  exact ⟨x, y, h1, h2, Q, q, h⟩
theorem PostS.ex1 {δ1 : Type} {P P2 : δ1 → Prop} {r : δ1 → Out} (p : PostS D W φ α H E (fun Q => ∃ x, P x ∧ P2 x ∧ r x Q)) : ∃ x, P x ∧ P2 x ∧ PostS D W φ α H E (r x) := by
  obtain ⟨Q, ⟨x, h1, h2, q⟩, h⟩ := p
  exact ⟨x, h1, h2, Q, q, h⟩
theorem PostS.out {β : Type} {r : RE β} {kk : β → Mem → Out} (sr : SRel D φ α H τ σ) (p : PostS D W φ α H E (r.out τ kk)) : Post D W φ α H σ (fun t μ' α' H' => PostS D W φ α' H' E (kk t μ')) r := by
  obtain ⟨Q, q, h⟩ := p
  refine ⟨_, _, q, fun a μ' e α' H' st m => PostS.step ⟨Q, e, h⟩ st, fun c fs μ' e α' H' C d st m ad xd => ?_⟩
  exact h.2.2.2.2 c fs τ μ' e α' H' σ C d st m (sr.step st) ad xd
theorem ss_ret (ha : PE X a (rdE D W f)) : PS X (.Return (some a) pos) (rdS D W (sRet f)) := by
  rintro pins s σ H E I ⟨φ, α, τ, μ, sr, mr, p⟩
  refine ps_ret ha pins s σ H E I ⟨φ, α, τ, μ, sr, mr, (PostS.out sr p).mono fun t μ' α' H' st m q v d => PostS.rt q (Stp.refl _ _) m d⟩
theorem ss_retN : PS X (.Return none pos) (rdS D W sRetN) := by
  rintro pins s σ H E I ⟨φ, α, τ, μ, sr, mr, p⟩
  exact ps_retN pins s σ H E I (PostS.rt p (Stp.refl _ _) mr rfl)
theorem ss_expr (hs : swapsWith a none pos.line X.env = pure false) (ha : PE X a (rdE D W f)) : PS X (.Expr a pos) (rdS D W (sExpr f)) := by
  rintro pins s σ H E I ⟨φ, α, τ, μ, sr, mr, p⟩
  refine ps_expr ha hs pins s σ H E I ⟨φ, α, τ, μ, sr, mr, (PostS.out sr p).mono fun t μ' α' H' st m q v d => PostS.nx q (Stp.refl _ _) m (sr.step st)⟩
theorem sss_nil : PSs X [] (rdS D W (blks [])) := by
  rintro pins s σ H E I ⟨φ, α, τ, μ, sr, mr, p⟩
  exact pss_nil pins s σ H E I (PostS.nx p (Stp.refl _ _) mr sr)
theorem sss_cons {st : Stmt} {r : List Stmt} {fs : List Ds} (h1 : PS X st (rdS D W u)) (h2 : PSs X r (rdS D W (blks fs))) : PSs X (st :: r) (rdS D W (blks (u :: fs))) := by
  rintro pins s σ H E I ⟨φ, α, τ, μ, sr, mr, Q, q, h3, h4, h5, h6, h7⟩
  refine pss_cons h1 h2 pins s σ H E I ⟨φ, α, τ, μ, sr, mr, _, q, fun τ1 μ1 e α' H' σ' st m sr' => ?_, h4, h5, h6, h7⟩
  exact ⟨φ, α', τ1, μ1, sr', m, PostS.step ⟨Q, e, h3, h4, h5, h6, h7⟩ st⟩
def SsOk (X : Cx) (D : DP) (W : XW) : List Stmt → List Ds → Prop
  | [], [] => True
  | e :: es, f :: fs => PS X e (rdS D W f) ∧ SsOk X D W es fs
  | _, _ => False
theorem sss_all : ∀ {sts : List Stmt} {fs : List Ds}, SsOk X D W sts fs → PSs X sts (rdS D W (blks fs))
  | [], [], _ => sss_nil
  | st :: r, f :: fs, h => sss_cons h.1 (sss_all h.2)
  | [], _ :: _, h => h.elim
  | _ :: _, [], h => h.elim
theorem ss_if {ft : Dt} {as bs : List Stmt} {us vs : List Ds} (hc : PT X c (rdT D W ft)) (ha : SsOk X D W as us) (hb : SsOk X D W bs vs) : PS X (.If c as bs pos) (rdS D W (sIf ft us vs)) := by
  rintro pins s σ H E I ⟨φ, α, τ, μ, sr, mr, p⟩
  refine ps_if hc (sss_all ha) (sss_all hb) pins s σ H E I ⟨φ, α, τ, μ, sr, mr, (PostS.out sr p).mono fun b μ' α' H' st m q => ?_⟩
  rcases PostS.br q with ⟨rfl, q⟩ | ⟨rfl, q⟩
  · exact ⟨φ, α', τ, μ', sr.step st, m, q⟩
  · exact ⟨φ, α', τ, μ', sr.step st, m, q⟩
theorem ss_set (C : Sk D W Γ X k) {x : Str} {i : Nat} {p0 : Pos} (hi : idx Γ.N x = some i) (hs : swapsWith a (some (.Name x p0)) pos.line X.env = pure false) (ha : PE X a (rdE D W f)) : PS X (.Assign [.Name x p0] a pos) (rdS D W (sSet i f)) := by
  rintro pins s σ H E I ⟨φ, α, τ, μ, sr, mr, p⟩
  have hx := idx_mem hi
  refine ps_set (i := i) (X := X) (by rw [C.hN]; exact C.nd) (by rw [C.hN]; exact idx_get hi) (C.sto x hx).1 ha hs (C.sto x hx).2 pins s σ H E I ⟨φ, α, τ, μ, sr, mr, (PostS.out sr p).mono fun t μ' α' H' st m q v d => ?_⟩
  exact PostS.nx q (Stp.refl _ _) m ((sr.step st).set d)
theorem idxs_mem {N : List Str} : ∀ {es : List Expr} {is : List Nat}, idxs N es = some is → ∀ e ∈ es, ∀ x p, e = .Name x p → x ∈ N
  | [], _, _, e, he, _, _, _ => absurd he (by simp)
  | e0 :: es, is, h, e, he, x, p, hx => by
    cases e0 with
    | Name y p0 =>
      simp only [idxs] at h
      split at h
      · rename_i i is' hi his
        rcases List.mem_cons.mp he with rfl | he
        · cases hx; exact idx_mem hi
        · exact idxs_mem his e he x p hx
      · cases h
    | _ => simp [idxs] at h
theorem tgOf_mem {N : List Str} {e : Expr} {tgt : Tg} (h : tgOf N e = some tgt) : ∀ x ∈ tgNames e, x ∈ N := by
  intro x hx
  cases e with
  | Name y p =>
    simp [tgNames] at hx
    subst hx
    simp only [tgOf] at h
    cases q : idx N x with
    | none => rw [q] at h; cases h
    | some i => exact idx_mem q
  | Tuple es kk p =>
    obtain ⟨e, he, q⟩ := List.mem_filterMap.mp hx
    simp only [tgOf] at h
    cases q2 : idxs N es with
    | none => rw [q2] at h; cases h
    | some is =>
      cases e with
      | Name y p0 =>
        have q : some y = some x := q
        cases q
        exact idxs_mem q2 _ he x p0 rfl
      | _ => cases q
  | _ => simp [tgNames] at hx
theorem sg_of (C : Sk D W Γ X k) (hc : X.calm = true) {tg : Expr} {tgt : Tg} (ht : tgOf Γ.N tg = some tgt) : PG X tg (fun v σ H Q => ∃ φ α τ t τ', SRel D φ α H τ σ ∧ Den D φ α H t v ∧ asg tgt t τ = some τ' ∧ ∀ σ', SRel D φ α H τ' σ' → Q σ' H) := by
  rintro pins s σ H v u Q I r ⟨φ, α, τ, t, τ', sr, d, ha, q⟩
  refine thn (asg_ok (S := Γ.N) C.hN C.nd C.sto hc (tgOf_mem ht) ht ha I sr d r) ?_
  rintro _ s1 ⟨σ', I1, sr'⟩
  exact ⟨σ', H, I1, q σ' sr'⟩
def plainTup : Expr → Bool
  | .Call _ _ _ _ => true
  | .Name _ _ => true
  | .Subscript _ _ _ => true
  | .Attribute _ _ _ => true
  | _ => false
theorem ss_tup (C : Sk D W Γ X k) (hc : Γ.calm = true) {es : List Expr} {is : List Nat} {kk : Nat} {p0 : Pos} (hp : plainTup a = true) (hn : idxs Γ.N es = some is) (ha : PE X a (rdE D W f)) : PS X (.Assign [.Tuple es kk p0] a pos) (rdS D W (sTup is f)) := by
  rintro pins s σ H E I ⟨φ, α, τ, μ, sr, mr, p⟩
  have h1 : swapsWithSole [.Tuple es kk p0] a pos.line X.env = pure false := by cases a <;> first | (simp [plainTup] at hp; done) | rfl
  have h2 : swappedStores [.Tuple es kk p0] a X.env = pure none := by cases a <;> first | (simp [plainTup] at hp; done) | rfl
  refine ps_asg ha (sg_of C (C.clm hc) (tg := .Tuple es kk p0) (tgt := .tup is) (by simp [tgOf, hn])) h1 h2 rfl pins s σ H E I ⟨φ, α, τ, μ, sr, mr, (PostS.out sr p).mono fun t μ' α' H' st m q v d => ?_⟩
  obtain ⟨τ', h, q⟩ := PostS.som q
  exact ⟨φ, α', τ, t, τ', sr.step st, d, h, fun σ' sr' => PostS.nx q (Stp.refl _ _) m sr'⟩
theorem ss_fld (C : Sk D W Γ X k) {o : Expr} {x : Str} {n : Nat} {p1 : Pos} {go : De} (hn : (x, n) ∈ Γ.fld) (ha : PE X a (rdE D W f)) (ho : PE X o (rdE D W go)) :
    PS X (.Assign [.Attribute o x p1] a pos) (rdS D W (sFld go n f)) := by
  rintro pins s σ H E I ⟨φ, α, τ, μ, sr, mr, p⟩
  have hs : swapsWith a (some (.Attribute o x p1)) pos.line X.env = pure false := by cases a <;> rfl
  refine ps_fld ho ha hs pins s σ H E I ⟨φ, α, τ, μ, sr, mr, (PostS.out sr p).mono fun t μ1 α1 H1 st1 m1 q v d => ?_⟩
  have sr1 := sr.step st1
  refine ⟨φ, α1, τ, μ1, sr1, m1, (PostS.out sr1 q).mono fun ot μ2 α2 H2 st2 m2 q2 ov dv => ?_⟩
  split at q2
  case h_2 => exact PostS.elim q2
  rename_i i
  obtain ⟨c, fs, hμ, hl, q2⟩ := PostS.ex2 q2
  obtain ⟨y, hx, rfl⟩ := dv
  obtain ⟨C0, dx, gs, ad, hH, df⟩ := m2.ob i y _ hx hμ
  obtain ⟨fx, cl, na⟩ := C.fld c C0 x n ad hn
  refine ⟨y, C0, dx, gs, rfl, hH, cl, na, by rw [← df.length]; omega, ?_⟩
  have st3 : Stp α2 H2 α2 (upd H2 y (.ins C0 dx (putF x v gs))) := Stp.turn (List.mem_of_getElem? hx) ⟨_, hH⟩
  have hi : i < μ2.length := (List.getElem?_eq_some_iff.mp hμ).1
  exact PostS.nx q2 st3 (m2.turn hx hi st3 ⟨C0, dx, _, ad, upd_same, DenF.put fx (df.step st3) ((d.step st2).step st3)⟩) ((sr1.step st2).step st3)
theorem set_list : PSet X (fun o i v H Q => ∃ l k xs, o = .ref l ∧ i = .int k ∧ H l = some (.lst xs) ∧ 0 ≤ k ∧ k < xs.length ∧ k < 9223372036854775808 ∧ Q (upd H l (.lst (xs.set k.toNat v)))) := by
  intro pins s σ H o i v ov iv u Q I ro ri rv h
  obtain ⟨l, k, xs, rfl, rfl, hH, h0, h1, h2, q⟩ := h
  cases ro
  obtain ⟨t, rfl⟩ := ri
  obtain ⟨z, its, n, r, hl, e⟩ := I.lstM hH
  refine PySem.W.ki_setAt (n := n) (items := its.toArray) e h0 (by simpa using h2) (by rw [List.size_toArray, ← hl]; exact h1) ?_
  exact ⟨_, I.lset (t' := s.toks) (ys := xs.set k.toNat v) (its' := its.set k.toNat u) (f := fun a => a.setIfInBounds k.toNat u) hH e (by simp) (Vals.set rv _ r) (by rw [List.length_set]; exact z), q⟩
theorem ss_put (C : Sk D W Γ X k) {o : Expr} {p1 : Pos} {fo fb : De} (hb' : plainIx b = true) (ha : PE X a (rdE D W f)) (ho : PE X o (rdE D W fo)) (hb : PE X b (rdE D W fb)) :
    PS X (.Assign [.Subscript o b p1] a pos) (rdS D W (sPut fo fb f)) := by
  rintro pins s σ H E I ⟨φ, α, τ, μ, sr, mr, p⟩
  have h1 : swapsWithSole [.Subscript o b p1] a pos.line X.env = pure false := by cases a <;> rfl
  have h2 : swappedStores [.Subscript o b p1] a X.env = pure none := by cases a <;> rfl
  refine ps_asg ha (pg_sub ho hb set_list (fun v => by cases b <;> first | (simp [plainIx] at hb'; done) | rfl)) h1 h2 rfl pins s σ H E I ⟨φ, α, τ, μ, sr, mr, (PostS.out sr p).mono fun t μ1 α1 H1 st1 m1 q v d => ?_⟩
  have sr1 := sr.step st1
  refine ⟨φ, α1, τ, μ1, sr1, m1, (PostS.out sr1 q).mono fun ot μ2 α2 H2 st2 m2 q2 ov dv => ?_⟩
  have sr2 := sr1.step st2
  refine ⟨φ, α2, τ, μ2, sr2, m2, (PostS.out sr2 q2).mono fun it μ3 α3 H3 st3 m3 q3 iv di => ?_⟩
  have d3 := (d.step st2).step st3
  split at q3
  case h_2 => exact PostS.elim q3
  rename_i i kk
  have dv := dv.step st3
  obtain ⟨ts, hμ, hk, q3⟩ := PostS.ex1 q3
  obtain ⟨x, hx, rfl⟩ := dv
  have di : iv = .int kk := di
  subst di
  obtain ⟨xs, hH, l⟩ := m3.ob i x _ hx hμ
  have st4 : Stp α3 H3 α3 (upd H3 x (.lst (xs.set kk.toNat v))) := Stp.turn (List.mem_of_getElem? hx) ⟨_, hH⟩
  have hi : i < μ3.length := (List.getElem?_eq_some_iff.mp hμ).1
  exact ⟨x, kk, xs, rfl, rfl, hH, hk.1, by rw [← l.length]; exact hk.2.1, hk.2.2, PostS.nx q3 st4 (m3.turn hx hi st4 ⟨_, upd_same, DenL.set (l.step st4) (d3.step st4)⟩) ((sr2.step st3).step st4)⟩
theorem ss_for (C : Sk D W Γ X k) (hc : Γ.calm = true) {tg iter : Expr} {tgt : Tg} (ht : tgOf Γ.N tg = some tgt) {fi : Di} {body : List Stmt} {vs : List Ds} (hi : PI X tg iter (rdI D W fi)) (hb : SsOk X D W body vs) (hs : ∀ x, foldedSetIterable iter X.env x = pure x) :
    PS X (.For tg iter body [] pos) (rdS D W (sFor tgt fi vs)) := by
  rintro pins s σ H E I ⟨φ, α, τ, μ, sr, mr, p⟩
  refine ps_for C.pso (C.clm hc) hi (sg_of C (C.clm hc) ht) (sss_all hb) hs pins s σ H E I ⟨φ, α, τ, μ, sr, mr, (PostS.out sr (show PostS D W φ α H E ((fi τ μ).re.out τ fun pr μ1 => forM tgt (blks vs) pr.2 pr.1 τ μ1) from p)).mono fun pr μ1 α1 H1 st1 m1 q J Ok iv okk lv1 => ?_⟩
  obtain ⟨xs, o⟩ := pr
  obtain ⟨Q, q, h1, h2, h3, h4, h5⟩ := q
  refine ⟨fun i m σ' H' => m = xs.length - i ∧ i ≤ xs.length ∧ ∃ α' τ' μ', Stp α1 H1 α' H' ∧ MRel D φ α' H' μ' ∧ SRel D φ α' H' τ' σ' ∧ o μ' ∧ forM tgt (blks vs) o (xs.drop i) τ' μ' Q, ⟨xs.length, by simp, Nat.zero_le _, α1, τ, μ1, Stp.refl _ _, m1, sr.step st1, lv1, by simpa using q⟩, ?_⟩
  rintro i m σ' H' ⟨rfl, hi', α', τ', μ', stp, mr', sr', lv', pf⟩
  have okH : Ok φ α' H' := okk _ α' H' μ' stp.lk mr' lv'
  by_cases hlt : i < xs.length
  · refine .inr ⟨iv.go i _ _ H' okH hlt, fun σ2 H2 => ∃ α2 τ2 μ2, Stp α1 H1 α2 H2 ∧ MRel D φ α2 H2 μ2 ∧ SRel D φ α2 H2 τ2 σ2 ∧ o μ2 ∧ forM tgt (blks vs) o (xs.drop (i + 1)) τ2 μ2 Q, fun σ2 H2 h2 => ⟨xs.length - (i + 1), by omega, rfl, hlt, h2⟩, fun x H2 y => ?_⟩
    obtain ⟨sm, dx⟩ := iv.yld i _ _ H' x H2 xs[i] okH (by simp [hlt]) y
    have stp := stp.trans (Stp.new (α := α') sm)
    have sr' := sr'.step (Stp.new (α := α') sm)
    have mr' := mr'.new sm
    rw [List.drop_eq_getElem_cons hlt] at pf
    obtain ⟨τ3, ha, pf⟩ := pf
    refine ⟨φ, α', τ', xs[i], τ3, sr', dx, ha, fun σ3 sr3 => ⟨φ, α', τ3, μ', sr3, mr', _, pf, ?_, ?_, ?_, ?_, ?_⟩⟩
    · exact fun τ4 μ4 e α4 H4 σ4 st4 m4 sr4 => ⟨α4, τ4, μ4, stp.trans st4, m4, sr4, e⟩
    · exact fun τ4 μ4 e α4 H4 σ4 st4 m4 sr4 => h1 τ4 μ4 e α4 H4 σ4 (stp.trans st4) m4 sr4
    · exact fun τ4 μ4 e α4 H4 σ4 st4 m4 sr4 => ⟨α4, τ4, μ4, stp.trans st4, m4, sr4, e⟩
    · exact fun t μ4 e α4 H4 v st4 m4 d4 => h4 t μ4 e α4 H4 v (stp.trans st4) m4 d4
    · exact fun c fs τ4 μ4 e α4 H4 σ4 Cc d st4 m4 sr4 => h5 c fs τ4 μ4 e α4 H4 σ4 Cc d (stp.trans st4) m4 sr4
  · have hie : i = xs.length := by omega
    rw [hie, List.drop_length] at pf
    exact .inl ⟨by rw [hie]; exact iv.stop _ _ H' okH, h1 τ' μ' pf α' H' σ' stp mr' sr'⟩
theorem ss_while (C : Sk D W Γ X k) {ft : Dt} {body : List Stmt} {vs : List Ds} (hc : PT X c (rdT D W ft)) (hb : SsOk X D W body vs) : PS X (.While c body [] pos) (rdS D W (sWhile ft vs)) := by
  rintro pins s σ H E I ⟨φ, α, τ, μ, sr, mr, Q, ⟨J, ⟨N, hN⟩, hJ⟩, h1, h2, h3, h4, h5⟩
  refine ps_while C.pso hc (sss_all hb) pins s σ H E I ?_
  refine ⟨fun m σ' H' => ∃ α' τ' μ', Stp α H α' H' ∧ MRel D φ α' H' μ' ∧ SRel D φ α' H' τ' σ' ∧ J m τ' μ', ⟨N, α, τ, μ, Stp.refl _ _, mr, sr, hN⟩, ?_⟩
  rintro m σ' H' ⟨α', τ', μ', stp, mr', sr', pf⟩
  refine ⟨φ, α', τ', μ', sr', mr', _, _, hJ m τ' μ' pf, fun b μ1 e α2 H2 st2 m2 => ?_, fun c fs μ1 e α2 H2 Cc d st2 m2 ad xd => h5 c fs τ' μ1 e α2 H2 σ' Cc d (stp.trans st2) m2 (sr'.step st2) ad xd⟩
  cases b with
  | false => exact h1 τ' μ1 e α2 H2 σ' (stp.trans st2) m2 (sr'.step st2)
  | true =>
    rw [if_pos rfl]
    have t2 := stp.trans st2
    refine ⟨fun σ4 H4 => ∃ j, j < m ∧ ∃ α4 τ4 μ4, Stp α H α4 H4 ∧ MRel D φ α4 H4 μ4 ∧ SRel D φ α4 H4 τ4 σ4 ∧ J j τ4 μ4, fun σ4 H4 h4 => h4, φ, α2, τ', μ1, sr'.step st2, m2, _, e, ?_, ?_, ?_, ?_, ?_⟩
    · exact fun τ4 μ4 ⟨j, hj, q⟩ α4 H4 σ4 st4 m4 sr4 => ⟨j, hj, α4, τ4, μ4, t2.trans st4, m4, sr4, q⟩
    · exact fun τ4 μ4 e α4 H4 σ4 st4 m4 sr4 => h1 τ4 μ4 e α4 H4 σ4 (t2.trans st4) m4 sr4
    · exact fun τ4 μ4 ⟨j, hj, q⟩ α4 H4 σ4 st4 m4 sr4 => ⟨j, hj, α4, τ4, μ4, t2.trans st4, m4, sr4, q⟩
    · exact fun t μ4 e α4 H4 v st4 m4 d4 => h4 t μ4 e α4 H4 v (t2.trans st4) m4 d4
    · exact fun c fs τ4 μ4 e α4 H4 σ4 Cc d st4 m4 sr4 => h5 c fs τ4 μ4 e α4 H4 σ4 Cc d (t2.trans st4) m4 sr4
theorem ss_comp (C : Sk D W Γ X k) (hc : Γ.calm = true) {tg iter elt : Expr} {sc : Scope} {fi : Di} {fs : List Nat} {tgt : Tg} {ifs : List Expr} {cs : List Dt} {fe : De} {x : Str} {ix : Nat} {p0 p1 : Pos} (hix : idx Γ.N x = some ix) (ok : CompOk Γ.N Γ.cel tg sc) (hfs : idxF Γ.N (frees sc) = some fs) (htg : tgOf (tgNames tg ++ frees sc) tg = some tgt) (hi : PI X tg iter (rdI D W fi)) (hel : ∀ X' W', Ck D W' (inComp Γ tg sc) X' k → PE X' elt (rdE D W' fe)) (hts : ∀ X' W', Ck D W' (inComp Γ tg sc) X' k → TsOk X' D W' ifs cs) (hs : ∀ x, foldedSetIterable iter X.env x = pure x)
    (own : Bool) (hsw : swapsWith (.ListComp elt [⟨tg, iter, ifs, 0⟩] sc p1) (some (.Name x p0)) pos.line X.env = pure true) :
    PS X (.Assign [.Name x p0] (.ListComp elt [⟨tg, iter, ifs, 0⟩] sc p1) pos) (rdS D W (sSet ix (match own with | true => eCompL (tgNames tg).length fs tgt fi cs fe | false => eComp (tgNames tg).length fs tgt fi cs fe))) := by
  rintro pins s σ H E I ⟨φ, α, τ, μ, sr, mr, p⟩
  rw [exec_Assign_Name_used _ _ _ _ hsw]
  refine wpAny_bind (wpAny_standAt (wpAny_bind ?_))
  show wpAny _ _ (do let _ ← comprehension (.ListComp elt [⟨tg, iter, ifs, 0⟩] sc p1) sc X.env _ (newList []) false (eval iter X.env) (some (assign (.Name x p0) X.env))) _ _ s
  refine wpAny_bind (thn (comp_core (kk := fun ys μ => match own with | true => RE.ok (T.mut μ.length) (μ ++ [MO.lst ys]) | false => RE.ok (T.lst ys) μ) (use := some (assign (.Name x p0) X.env)) (Qf := fun _ s' => ∃ σ' H', Inv X pins σ' H' s' ∧ E.nx σ' H') C.toCk hc ok hfs htg hi hel hts hs I sr mr (PostS.out sr (by cases own <;> exact p)) ?_) fun _ s' hq => wpAny_pure (wpAny_pure hq))
  rintro acc C0 s' α1 H1 H' α' ys vs μ' I' st1 st hn nph nal sr' m ha dl post xo hp ⟨mm, hm⟩
  have hx := idx_mem hix
  obtain ⟨oc, es, ep, hoc, hdc, hrest⟩ := hm
  have I2 : Inv X (pins ++ [(C0, oc)]) σ H' s' := I'.pins_of fun p hp' => (List.mem_append.mp hp').elim (fun z => I'.pin p (List.mem_append_right _ z)) fun z => by
    rw [List.mem_singleton.mp z]
    exact ⟨hoc, xo.free, xo.loc, xo.nfs, fun v e => by rw [hdc] at e; cases e⟩
  have fin : ∀ {α'' : List Addr} {t : T} {μ2 : Mem}, SRel D φ α'' H' τ σ → Den D φ α'' H' t (.ref acc) → (∀ σ', SRel D φ α'' H' (setS τ ix (some t)) σ' → E.nx σ' H') → wpAny (model X.prog X.w) X.A (assign (.Name x p0) X.env (.ref acc)) (fun _ t2 => ∃ m, t2.heap.Ns C0 m ∧ ∀ g, Heap.SameBut C0 t2.heap g → ∃ σ' H', Inv X pins σ' H' { t2 with heap := g } ∧ E.nx σ' H') X.xe s' := fun {α'' t μ2} sr2 d q => by
    refine thn (asg_ok (e := .Name x p0) (S := Γ.N) (tgt := .one ix) (t := t) (τ := τ) C.hN C.nd C.sto (C.clm hc) (fun y hy => by simp [tgNames] at hy; rw [hy]; exact hx) (by simp [tgOf, hix]) rfl I2 sr2 d (show RelV (.ref acc) (.ref acc) from rfl)) ?_
    rintro _ s2 ⟨σ', I3, sr3⟩
    have hpin := (I3.pin (C0, oc) (List.mem_append_right _ (List.mem_append_right _ (List.mem_singleton.mpr rfl)))).1
    refine ⟨mm, ⟨oc, es, ep, hpin, hdc, hrest⟩, fun g sb => ⟨σ', H', ?_, q σ' sr3⟩⟩
    exact inv_but (I3.pins_of fun p hp' => I3.pin p (List.mem_append_right _ (List.mem_append_left _ hp'))) xo hp sb
  cases own with
  | false =>
    obtain ⟨m2, d, post⟩ := blk_tree (kk := fun t μ => RE.ok t μ) st hn nph m ha dl post
    exact fin (μ2 := μ') (sr'.lk look_less) d fun σ' sr3 => PostS.nx (post.ok (Stp.refl _ _) m2) (Stp.refl _ _) m2 sr3
  | true =>
    obtain ⟨st2, m2, d⟩ := blk_store st hn nph m ha dl
    exact fin (μ2 := μ') (sr'.lk look_adopt) d fun σ' sr3 => PostS.nx (post.ok st2 m2) (Stp.refl _ _) m2 sr3
end
end NH
end
section
set_option linter.all false
set_option maxRecDepth 100000
set_option maxHeartbeats 4000000
namespace NH
open PySem PySem.Spec PyProof.Rows L2
def XcCls (C : Addr) (h : Heap) : Prop := ∃ tl N nm q bs hd sn sub ab col dd k0 k1 k2 k3 k5 mN, h.get? C = some (excClassObj nm q C N bs tl hd sn sub ab col dd k0 k1 k2 k3 k5 "ValueError.__new__") ∧ h.Ns N mN ∧ mN "__init__" = none ∧ OwnTail h veMro tl
theorem xcCls_of {K : PySem.W.Frag} {h : Heap} {C : Addr} (kin : K.In h) (e : PySem.W.excIn K C veMro "ValueError.__new__" = true) : XcCls C h := by
  simp only [PySem.W.excIn] at e
  revert e
  cases hk : K.lookup C with
  | none => intro e; cases e
  | some o =>
    intro e
    split at e
    case h_2 => cases e
    rename_i dd cd sl ho
    cases ho
    split at e
    case h_2 => cases e
    rename_i C' tl k0 k1 k2 k3 n k5 hm hs
    simp only [Bool.and_eq_true, beq_iff_eq, Bool.not_eq_true'] at e
    obtain ⟨⟨⟨⟨⟨e1, e2⟩, e3⟩, e4⟩, e5⟩, e6⟩ := e
    cases cd
    rename_i nm bs mro ns qn hd sn sub ab col del
    simp only at hm e3 e5 e6
    cases e1; cases e2; cases hm; cases e3
    have hsl : sl = #[k0, k1, k2, k3, some (.builtin "ValueError.__new__"), k5] := by
      cases sl; simp only at hs; rw [hs]
    cases hsl
    exact ⟨tl, ns, nm, qn, bs, hd, sn, sub, ab, col, dd, k0, k1, k2, k3, k5, h.nsMap ns, kin _ _ hk, .of_isNs (PySem.W.isNs_of_in kin e5), PySem.W.nsMap_none_of_in kin e5 e6, PySem.W.tail_of_in kin e4⟩
section
variable {X : Cx} {pins : List (Addr × Obj)} {s : Shared} {σ : St} {H : Hp}
theorem inv_unset {i : Nat} {x : Str} {m : Str → Option Value} {h' : Heap} {u : Option Value} {tk : Nat} (I : Inv X pins σ H s) (hN : X.N.Nodup) (hi : X.N[i]? = some x)
    (hm : ∀ (i : Nat) (x : Str) (v : V), X.N[i]? = some x → σ[i]? = some (some v) → Vis X.env.scope x → ∃ u, RelV v u ∧ Look X.env s.heap m x u)
    (hn : h'.Ns X.env.locals fun y => if y = x then u else m y) (hs : Heap.SameBut X.env.locals s.heap h') : Inv X pins (σ.set i none) H { s with heap := h', toks := tk } := by
  have cne := I.cne
  have low : ∀ b o, X.s₀.heap.get? b = some o → b ≠ X.env.locals := fun b o e => Nat.ne_of_lt (Nat.lt_of_lt_of_le (Heap.lt_size e) I.ok.above)
  refine ⟨I.ok, I.os, I.bare, ⟨fun b o e n hb hx => ?_, fun b o e n hb hx => ?_, I.base.free, fun b o e hx => ?_, I.base.tups, I.base.frzs, I.base.tbls⟩, ⟨_, hn, fun j y v e1 e2 e3 => ?_⟩, fun y c e => ?_, I.free, I.freeC, fun p hp => ?_, fun b ob e => ?_, by simpa using I.len⟩
  · exact (hs.2 b (low b o e)).trans (I.base.keep b o e n hb hx)
  · obtain ⟨sl, e1⟩ := I.base.slot b o e n hb hx
    exact ⟨sl, (hs.2 b (low b o e)).trans e1⟩
  · obtain ⟨o', e1⟩ := I.base.there b o e hx
    exact ⟨o', (hs.2 b (low b o e)).trans e1⟩
  · by_cases hj : j = i
    · subst hj
      rw [List.getElem?_set_self'] at e2
      cases q : σ[j]? with
      | none => rw [q] at e2; cases e2
      | some w => rw [q] at e2; cases e2
    · rw [List.getElem?_set_ne (Ne.symm hj)] at e2
      obtain ⟨w, r, q⟩ := hm j y v e1 e2 e3
      refine ⟨w, r, ?_⟩
      rcases q with ⟨k, e⟩ | ⟨k, c, e, z⟩
      · have : y ≠ x := fun z => hj (nodup_ix hN e1 (by rw [z]; exact hi))
        exact .inl ⟨k, by simp [this, e]⟩
      · exact .inr ⟨k, c, e, z.sameBut hs (cne y c e)⟩
  · obtain ⟨w, z⟩ := I.cell y c e
    exact ⟨w, z.sameBut hs (cne y c e)⟩
  · obtain ⟨e, n, ne, nf, d⟩ := I.pin p hp
    exact ⟨(hs.2 p.1 ne).trans e, n, ne, nf, d⟩
  · refine (I.hok b ob e).stay (fun c w hc q => (hs.2 c ?_).trans q) (fun _ q => q) fun _ _ q => q
    rintro rfl
    rcases hc with rfl | hc
    · rw [I.free] at e; cases e
    · rw [I.free] at hc; cases hc
theorem inv_track {x C : Addr} {d : Option Addr} (I : Inv X pins σ H s) (ox : XOk X H x) (hp : ∀ p ∈ pins, p.1 ≠ x) (hx : XcAt x C d s.heap) : Inv X pins σ (upd H x (.ext (XcAt x C d))) s := by
  have ne : ∀ b, H b ≠ none → b ≠ x := fun b h z => h (by rw [z]; exact ox.free)
  refine ⟨I.ok, I.os, I.bare, ⟨I.base.keep, I.base.slot, fun b o e n hx' => ?_, I.base.there, fun b xs e => ?_, fun b o u e => ?_, fun b ps e => ?_⟩, I.loc, I.cell, ?_, fun y c e => ?_, fun p hp' => ?_, fun b ob e => ?_, I.len⟩
  · have : b ≠ x := fun z => by
      rcases ox.new with q | q
      · exact hx' (by rw [z]; exact q)
      · rw [← z, e] at q; cases q
    rw [upd_ne this]; exact I.base.free b o e n hx'
  · have q := I.base.tups b xs e
    rw [upd_ne (ne b (by rw [q]; simp))]; exact q
  · have q := I.base.frzs b o u e
    rw [upd_ne (ne b (by rw [q]; simp))]; exact q
  · obtain ⟨more, q⟩ := I.base.tbls b ps e
    exact ⟨more, by rw [upd_ne (ne b (by rw [q]; simp))]; exact q⟩
  · rw [upd_ne (Ne.symm ox.loc)]; exact I.free
  · rw [upd_ne (ox.cel y c e)]; exact I.freeC y c e
  · obtain ⟨e, n, r⟩ := I.pin p hp'
    have : p.1 ≠ x := (List.mem_append.mp hp').elim (ox.pin p) (hp p)
    exact ⟨e, by rw [upd_ne this]; exact n, r⟩
  · by_cases z : b = x
    · subst z
      rw [upd_same] at e
      cases e
      obtain ⟨oe, vs, h1, h2⟩ := id hx
      refine ⟨hx, ⟨oe, h1⟩, fun g1 g2 p k => ?_⟩
      obtain ⟨oe', vs', h1', h2'⟩ := p
      exact ⟨oe', vs', k _ h1', h2'⟩
    · rw [upd_ne z] at e
      have sm : ∀ c o, H c = some o → upd H x (.ext (XcAt x C d)) c = some o := fun c o q => by rw [upd_ne (ne c (by rw [q]; simp))]; exact q
      exact (I.hok b ob e).stay (fun _ _ _ q => q) (fun c q => sm c _ q) fun c xs q => sm c _ q
end
section
variable {X : Cx} {D : DP} {W : XW} {Γ : Cn} {k : Nat} {pins : List (Addr × Obj)} {s : Shared} {σ : St} {H : Hp} {φ α : List Addr} {τ : Sl} {μ : Mem} {a b c e : Expr} {pos : Pos} {E : Ends} {es : List Expr} {fs : List De}
theorem ss_raise (C : Sk D W Γ X k) (hc : Γ.calm = true) {x : Str} {n : Nat} {p0 p1 : Pos} (hx : x ∈ Γ.G) (hg : Γ.gl x = .xcl n) (ha : EsOk X D W (a :: es) fs) :
    PS X (.Raise (some (.Call (.Name x p0) (a :: es) [] p1)) none pos) (rdS D W (sRaise n fs)) := by
  rintro pins s σ H E I ⟨φ, α, τ, μ, sr, mr, p⟩
  have q := C.glo x hx
  rw [hg] at q
  obtain ⟨C0, ad, hm, hex⟩ := q
  have hs := ha.stars
  obtain ⟨tl, N, nm, qn, bs, hd, sn, sub, ab, col, dd, k0, k1, k2, k3, k5, mN, o1, o2, o3, o4⟩ := xcCls_of I.ok.mod.kin hex
  have hb : tl.contains (.type "BaseException") = true := o4.hasType PySem.F.excBase_ValueError.hasBase
  have hp : (backTo p1 (starEach (a :: es) X.env)).any (·.1) = false := noStars hs
  refine wpAny_Raise_call_subT (nm := nm) (q := qn) (C := C0) (N := N) (bs := bs) (bm := tl) (hdct := hd) (sn := sn) (sub := sub) (ab := ab) (col := col) (dd := dd) (k0 := k0) (k1 := k1) (k2 := k2) (k3 := k3) (k5 := k5) (mN := mN) PySem.F.excBase_ValueError hb (I.ok.hd (C.clm hc)) hp o3 ?_
  refine ld_glob I (C.glb x hx) hm ⟨rfl, ?_⟩ (C.dbG x hx)
  have hs1 : noStar a = true := by simp only [List.all_cons, Bool.and_eq_true] at hs; exact hs.1
  have sA := thn (sa_all ha p1 pins s σ H (fun vs H1 => ∃ ts μ1 α1, Stp α H α1 H1 ∧ SRel D φ α1 H1 τ σ ∧ MRel D φ α1 H1 μ1 ∧ DenL D φ α1 H1 ts vs ∧ PostS D W φ α1 H1 E (.grd (ts.length ≤ room) (.ex n [] τ μ1))) I ⟨φ, α, τ, μ, sr, mr, (PostS.out sr p).mono fun ts μ' α' H' st m q vs d _ => ⟨ts, μ', α', st, sr.step st, m, d, q⟩⟩) (Q' := fun us s1 => us.length ≤ sizeLine ∧ s1.heap.get? C0 = some (excClassObj nm qn C0 N bs tl hd sn sub ab col dd k0 k1 k2 k3 k5 "ValueError.__new__") ∧ s1.heap.Ns N mN ∧ OwnTail s1.heap veMro tl ∧ ∀ h' e, Heap.MadeExcOf s1.heap h' e (.ref C0) us → X.xe (.ref e) { s1 with heap := h' }) ?_
  · rw [noStar_of hs1] at sA ⊢
    exact Calls.evalArgs_plain (thn sA fun us s1 h1 => ⟨rfl, h1⟩)
  · rintro us s1 ⟨vs, H1, I1, r, ts, μ1, α1, st, sr1, m1, dl, q⟩
    obtain ⟨hl, q⟩ := PostS.grd q
    refine ⟨?_, I1.bk _ _ o1, o2.keeps I1.bk, o4.keeps I1.bk, fun h' e mk => ?_⟩
    · have e1 := dl.length
      have e2 := r.length
      have := room_line hl
      rw [← e2, ← e1]
      exact this
    · exact C.xe _ _ (xp_made I1 mk (PostS.ex q (Stp.refl _ _) m1 sr1 ad rfl))
theorem XTr.at {h : Heap} {x T C : Addr} {d : Option Addr} {fl : Value} (t : XTr h x T (.ref C) d fl) : XcAt x C d h := by
  obtain ⟨oe, vs, a0, oT, ts, h1, ⟨h2, h3⟩, h4, _⟩ := t
  exact ⟨oe, vs, h1, h2, h4, h3⟩
theorem XcAt.ty {M : Model} {h : Heap} {x C : Addr} {d : Option Addr} (t : XcAt x C d h) : PySem.W.Looks M h (typeOf (.ref x)) (.ref C) := by
  obtain ⟨oe, vs, h1, h2, h3, h4⟩ := t
  exact h2 ▸ (PySem.W.Looks.ld h1).andThen .now
def HcOk (Γ : Cn) (x : Str) (c : Nat) : Prop := x ∈ Γ.G ∧ (x, c) ∈ Γ.cls ∧ ((∃ f, Γ.gl x = .xcf c f) ∨ Γ.gl x = .xcl c) ∧ c < 40
def HsOk (D : DP) (Γ : Cn) (k : Nat) : List ExceptHandler → List (List Nat × Option Nat × List Ds) → Prop
  | [], [] => True
  | .ExceptHandler (some (.Name x _)) nm (b0 :: suite) _ :: hs, ([c], i, vs) :: r => HcOk Γ x c ∧
    (match nm, i with
      | none, none => True
      | some e, some j => idx Γ.N e = some j ∧ Γ.cel.contains e = false
      | _, _ => False) ∧ (∀ X', Sk D noW { Γ with calm := false } X' k → SsOk X' D noW (b0 :: suite) vs) ∧ HsOk D Γ k hs r
  | _, _ => False
theorem HcOk.mg (C : Sk D W Γ X k) {x : Str} {c : Nat} (h : HcOk Γ x c) : ∃ Cc, X.mg x = some (.ref Cc) := by
  have q := C.glo x h.1
  rcases h.2.2.1 with ⟨f, g⟩ | g
  · rw [g] at q
    obtain ⟨Cc, _, hm⟩ := q
    exact ⟨Cc, hm⟩
  · rw [g] at q
    obtain ⟨Cc, _, hm, _⟩ := q
    exact ⟨Cc, hm⟩
theorem han_go (C : Sk D W Γ X k) {x Tt Ck : Addr} {d : Option Addr} {kk : Nat} {xfs : List (Nat × T)} (ad : D.adr kk = some Ck) : ∀ {hs : List ExceptHandler} {r : List (List Nat × Option Nat × List Ds)} {s1 : Shared} {σ1 : St} {H1 : Hp} {α1 : List Addr} {τ1 : Sl} {μ1 : Mem}, HsOk D Γ k hs r → Inv (Cx.pin' X pins) [] σ1 H1 s1 → XOk (Cx.pin' X pins) H1 x → XOk (Cx.pin' X pins) H1 Tt → XTr s1.heap x Tt (.ref Ck) d .none →
    XDict D φ α1 H1 xfs d → MRel D φ α1 H1 μ1 → SRel D φ α1 H1 τ1 σ1 → PostS D W φ α1 H1 E (hanS r kk xfs τ1 μ1) → wpAny (model X.prog X.w) X.A (handleBy (.ref x) X.env hs) (SP X pins E) X.xe s1
  | [], [], s1, σ1, H1, α1, τ1, μ1, _, I1, ox, oT, tr, xd, m1, sr1, p => by
    obtain ⟨e0, out, L, F⟩ := C.frm
    refine wpAny_handleBy_nil ?_
    unfold PySem.passOn
    obtain ⟨oe, vs', a0, oT', ts, ho, hcc, hd, hv0, hv1, hT, hoT, hdT, h3⟩ := id tr
    refine wpAny_bind (wpAny_field ho hd hv1 ?_)
    rw [if_neg (show ¬ ((Value.ref Tt == Value.none) = true) from by simp)]
    have go : ∀ {t2 : Shared}, XP X W (.ref x) t2 → wpAny (model X.prog X.w) X.A (throw (Value.ref x) : Sem Flow) (SP X pins E) X.xe t2 := fun {t2} xp => wpAny_throw (C.xe _ _ xp)
    have un : ∀ b, XOk (Cx.pin' X pins) H1 b → XOk X H1 b := fun b o => ⟨o.free, o.loc, o.nfs, o.new, o.cel, fun p hp => o.pin p (List.mem_append_left _ hp)⟩
    have fin : wpAny (model X.prog X.w) X.A (setFlight (.ref x) X.env.frame) (fun _ t2 => XP X W (.ref x) t2) X.xe s1 := by
      refine xp_flight ((inv_unpin' I1).pins_of fun p hp => absurd hp (by simp)) (un x ox) (un Tt oT) tr fun h4 I4 tr4 => ?_
      refine ⟨x, .ref Ck, d, σ1, H1, some Tt, rawInt L, rfl, I4, un x ox, fun t ht => ?_, ?_, .inr ⟨L, F.fe, rfl⟩, PostS.ex p (Stp.refl _ _) m1 sr1 ad xd⟩
      · have : t = Tt := by simpa using ht
        rw [this]; exact un Tt oT
      · rw [F.fe] at tr4; exact tr4
    first
      | exact wpAny_bind (thn fin fun _ t2 xp => go xp)
      | exact wpAny_bind (wpAny_pure (wpAny_bind (thn fin fun _ t2 xp => go xp)))
  | [], _ :: _, _, _, _, _, _, _, h, _, _, _, _, _, _, _, _ => h.elim
  | .ExceptHandler none _ _ _ :: _, _, _, _, _, _, _, _, h, _, _, _, _, _, _, _, _ => by unfold HsOk at h; exact h.elim
  | .ExceptHandler (some t) nm suite pp :: hs, r, s1, σ1, H1, α1, τ1, μ1, h, I1, ox, oT, tr, xd, m1, sr1, p => by
    unfold HsOk at h
    split at h
    · rename_i hnil; cases hnil
    · rename_i x0 p0 nm' b0 suite' p1 hs' c i vs r' heq
      cases heq
      obtain ⟨hcx, hnm, hsu, hrest⟩ := h
      obtain ⟨Cc, hmc⟩ := hcx.mg C
      have IX : Inv (Cx.han (Cx.pin' X pins) x) [] σ1 H1 s1 := inv_han I1
      have hexm := C.xmt kk x0 c hcx.2.1 hcx.2.2.2 Ck Cc ad hmc
      refine wpAny_handleBy_cons (codeAny_handlers_test (ld_glob (X := Cx.han (Cx.pin' X pins) x) IX (C.glb x0 hcx.1) hmc ?_ (C.dbG x0 hcx.1))) (fun q => by cases q)
      refine (PySem.W.exm_one (M := model X.prog X.w) IX.kIn (XcAt.ty (XTr.at tr)) hexm).at ?_
      have hio : isAny kk [c] = isinN kk c := by
        rw [isAny_cons]; show bOr _ false = _
        cases isinN kk c <;> rfl
      have p : PostS D W φ α1 H1 E (.br (isinN kk c) (hanI i vs kk xfs τ1 μ1) (hanS r' kk xfs τ1 μ1)) := by rw [← hio]; exact p
      rcases PostS.br p with ⟨hb, p⟩ | ⟨hb, p⟩
      · rw [hb]
        obtain ⟨Q, q, h1, h2, h3, h4, h5⟩ := p
        have C2 : ∀ {X' : Cx}, X' = Cx.han (Cx.pin' X pins) x → Sk D noW { Γ with calm := false } X' k := fun {X'} hX' => by
          subst hX'
          obtain ⟨e0, out, L, F⟩ := C.frm
          exact { hK := C.hK, hN := C.hN, nd := C.nd, vis := C.vis, dbg := C.dbg, dbG := C.dbG, glb := C.glb, glo := C.glo, glU := C.glU, cel := C.cel, isi := C.isi, fld := C.fld, xcx := C.xcx, ocx := C.ocx, clv := C.clv, clm := (fun z => by cases z), rom := (fun z => by cases z), rmh := ⟨C.rmh.dp, C.rmh.un⟩, xe := (fun e s p => by obtain ⟨_, _, _, _, _, _, _, _, _, _, _, _, _, z⟩ := p; exact z), frm := ⟨e0, out, L, F.stk, F.f0, F.fe⟩, lam := C.lam, sto := C.sto, lcl := C.lcl, pso := PassesOwn.never, xmt := C.xmt }
        have okX : X.Ok := ok_unpin I1.ok
        cases nm with
        | none =>
          cases i with
          | some j => exact hnm.elim
          | none =>
            refine codeAny_handlers_suite (xp_flight (X := Cx.pin' X pins) I1 ox oT tr fun h3' I3 tr3 => ?_)
            have S := sss_all (hsu _ (C2 rfl)) [] _ _ _ { nx := E.nx, rt := E.rt } (inv_han (x := x) I3) ⟨φ, α1, τ1, μ1, sr1, m1, _, q, h1, (fun _ _ z => z.elim), (fun _ _ z => z.elim), h4, (fun _ _ _ _ z => z.elim)⟩
            refine wpAny_mono S (fun f s6 h6 => ?_) (fun _ _ z => z.elim)
            cases f with
            | next => obtain ⟨σ', H', I', q'⟩ := h6; exact ⟨σ', H', inv_unpin' (inv_unhan I1.ok I'), q'⟩
            | brk => obtain ⟨σ', H', I', q'⟩ := h6; exact q'.elim
            | cont => obtain ⟨σ', H', I', q'⟩ := h6; exact q'.elim
            | ret w => obtain ⟨y, σ', H', I', r, q'⟩ := h6; exact ⟨y, σ', H', inv_unpin' (inv_unhan I1.ok I'), r, q'⟩
        | some e =>
          cases i with
          | none => exact hnm.elim
          | some j =>
            obtain ⟨hidx, hce⟩ := hnm
            refine codeAny_handlers_suite_as (xp_flight (X := Cx.pin' X pins) I1 ox oT tr fun h3' I3 tr3 => ?_)
            have I4 := inv_track (C := Ck) (d := d) I3 ox (fun p hp => absurd hp (by simp)) (XTr.at tr3)
            have st2 : Stp α1 H1 α1 (upd H1 x (.ext (XcAt x Ck d))) := Stp.new (same_upd ox.free)
            have hloc : X.env.scope.names.lookup e = some .local := C.lcl e (idx_mem hidx) hce
            have hNd : X.N.Nodup := by rw [C.hN]; exact C.nd
            have hNi : X.N[j]? = some e := by rw [C.hN]; exact idx_get hidx
            refine store_ok (X := Cx.han (Cx.pin' X pins) x) (i := j) (v := .ref x) (inv_han I4) hNd hNi (.inl hloc) rfl (fun s5 I5 => ?_) (.inr hloc)
            have xd5 := xd.lk (st2.lk (φ := φ))
            have den : Den D φ α1 (upd H1 x (.ext (XcAt x Ck d))) (.exc kk xfs) (.ref x) := ⟨x, Ck, d, rfl, fresh_phi m1 ox.free, fresh_out m1 ox.free, ad, upd_same, by cases d <;> exact xd5⟩
            have sr5 := (sr1.step st2).set (i := j) den
            have m5 := m1.new (same_upd (o := HO.ext (XcAt x Ck d)) ox.free)
            have S := sss_all (hsu _ (C2 rfl)) [] s5 _ _ { nx := fun σ' H' => E.nx (σ'.set j none) H', rt := E.rt } I5 ⟨φ, α1, _, μ1, sr5, m5, _, q, (fun τ2 μ2 z α' H' σ' st m r => h1 _ μ2 z α' H' _ (st2.trans st) m r.unset), (fun _ _ z => z.elim), (fun _ _ z => z.elim), (fun t μ2 z α' H' v st m dd => h4 t μ2 z α' H' v (st2.trans st) m dd), (fun _ _ _ _ z => z.elim)⟩
            have hkf : (X.env.scope.kind == .class || (X.env.scope.kind == .module && X.env.locals != X.env.globals)) = false := by rw [okX.kind]; rfl
            refine wpAny_mono S (fun f s6 h6 => ?_) (fun _ _ z => z.elim)
            have fin : ∀ {σ6 H6}, Inv (Cx.han (Cx.pin' X pins) x) [] σ6 H6 s6 → (∀ s7, Inv X pins (σ6.set j none) H6 s7 → SP X pins E f s7) → wpAny (model X.prog X.w) X.A (do bindName X.env e .none; unbindBehindTheSuite X.env e pp) (fun _ s7 => SP X pins E f s7) X.xe s6 := fun {σ6 H6} I6 q => by
              have I7 : Inv X pins σ6 H6 s6 := inv_unpin' (inv_unhan (ok_pin okX) I6)
              obtain ⟨m, hn, hl⟩ := I7.loc
              refine wpAny_nameGoes_keeps hloc hn hkf fun h7 u7 hn7 hs7 => ?_
              exact q _ (inv_unset I7 hNd hNi hl hn7 hs7)
            cases f with
            | next => obtain ⟨σ', H', I', q'⟩ := h6; exact fin I' fun s7 I7 => ⟨_, H', I7, q'⟩
            | brk => obtain ⟨σ', H', I', q'⟩ := h6; exact q'.elim
            | cont => obtain ⟨σ', H', I', q'⟩ := h6; exact q'.elim
            | ret w => obtain ⟨y, σ', H', I', r, q'⟩ := h6; exact fin I' fun s7 I7 => ⟨y, _, H', I7, r, q'⟩
      · rw [hb]
        exact han_go C ad hrest I1 ox oT tr xd m1 sr1 p
    · exact h.elim
theorem ss_try (C : Sk D W Γ X k) (hc : Γ.calm = true) {body : List Stmt} {us : List Ds} {h0 : ExceptHandler} {hs : List ExceptHandler} {r : List (List Nat × Option Nat × List Ds)} (hb : ∀ X' W', Sk D W' Γ X' k → SsOk X' D W' body us) (hh : HsOk D Γ k (h0 :: hs) r) :
    PS X (.Try body (h0 :: hs) [] [] pos) (rdS D W (sTry us r)) := by
  rintro pins s σ H E I ⟨φ, α, τ, μ, sr, mr, Q, q, h1, h2, h3, h4, h5⟩
  obtain ⟨e0, out, L, F⟩ := C.frm
  have F0 : Frm (Cx.pin' X pins) e0 out L := ⟨F.stk, F.f0, F.fe⟩
  generalize hW : (fun (cls : Value) (d : Option Addr) (σ' : St) (H' : Hp) => ∃ kk fs τ1 μ1 α1 Ck, hanS r kk fs τ1 μ1 Q ∧ D.adr kk = some Ck ∧ cls = .ref Ck ∧ Stp α H α1 H' ∧ MRel D φ α1 H' μ1 ∧ SRel D φ α1 H' τ1 σ' ∧ XDict D φ α1 H' fs d : XW) = W1
  have C1 : Sk D W1 Γ ((Cx.pin' X pins).wish (XP (Cx.pin' X pins) W1)) k := { hK := C.hK, hN := C.hN, nd := C.nd, vis := C.vis, dbg := C.dbg, dbG := C.dbG, glb := C.glb, glo := C.glo, glU := C.glU, cel := C.cel, isi := C.isi, fld := C.fld, xcx := C.xcx, ocx := C.ocx, clv := C.clv, clm := C.clm, rom := C.rom, rmh := ⟨C.rmh.dp, C.rmh.un⟩, xe := fun e s p => xp_unwish p, frm := ⟨e0, out, L, F.stk, F.f0, F.fe⟩, lam := C.lam, sto := C.sto, lcl := C.lcl, pso := xp_passes F0 I.ok.frames, xmt := C.xmt }
  have B := sss_all (hb _ W1 C1) [] s σ H E ((inv_pin' I).wish _) ⟨φ, α, τ, μ, sr, mr, _, q, h1, h2, h3, h4, fun kk fs τ1 μ1 z α' H' σ' Ck d st m sr' ad xd => by rw [← hW]; exact ⟨kk, fs, τ1, μ1, α', Ck, z, ad, rfl, st, m, sr', xd⟩⟩
  refine wpAny_Try_except (wpAny_mono B (fun f s1 h1 => ?_) (fun e1 s1 hx => ?_))
  · cases f with
    | next => obtain ⟨σ', H', I', q⟩ := h1; exact pss_nil pins s1 σ' H' E (inv_unpin' I'.unwish) q
    | brk => obtain ⟨σ', H', I', q⟩ := h1; exact ⟨σ', H', inv_unpin' I'.unwish, q⟩
    | cont => obtain ⟨σ', H', I', q⟩ := h1; exact ⟨σ', H', inv_unpin' I'.unwish, q⟩
    | ret w => obtain ⟨y, σ', H', I', r, q⟩ := h1; exact ⟨y, σ', H', inv_unpin' I'.unwish, r, q⟩
  have hx : XP (Cx.pin' X pins) W1 e1 s1 := hx
  refine xp_note (X := Cx.pin' X pins) F0 I.ok.frames hx fun x cls d σ1 H1 Tt h' ee I1 ox oT tr w => ?_
  subst ee
  refine xp_flight (X := Cx.pin' X pins) (s := { s1 with heap := h' }) I1 ox oT tr fun h2' I2 tr2 => ?_
  rw [← hW] at w
  obtain ⟨kk, fs, τ1, μ1, α1, Ck, z, ad, rfl, st1, m1, sr1, xd⟩ := w
  exact han_go C ad hh I2 ox oT tr2 xd m1 sr1 (PostS.step ⟨Q, z, h1, h2, h3, h4, h5⟩ st1)
end
end NH
end
section
set_option linter.all false
set_option maxRecDepth 100000
set_option maxHeartbeats 4000000
namespace NH
open PySem PySem.Spec PyProof.Rows L2
structure Rec where
  e : Cn → Expr → Option De
  t : Cn → Expr → Option Dt
  w : Cn → Expr → Option Dt
  i : Cn → Expr → Option Di
  o : Cn → Expr → Option De
  s : Cn → Stmt → Option Ds
abbrev ER := Rec → Cn → Expr → Option De
abbrev TR := Rec → Cn → Expr → Option Dt
abbrev IR := Rec → Cn → Expr → Option Di
abbrev SR := Rec → Cn → Stmt → Option Ds
structure Rules where
  e : List ER
  t : List TR
  w : List TR
  i : List IR
  o : List ER
  s : List SR
def fstR {α β : Type} : List (Rec → Cn → α → Option β) → Rec → Cn → α → Option β
  | [], _, _, _ => none
  | f :: fs, r, Γ, e => match f r Γ e with
    | some d => some d
    | none => fstR fs r Γ e
def comp (R : Rules) : Nat → Rec
  | 0 => ⟨fun _ _ => none, fun _ _ => none, fun _ _ => none, fun _ _ => none, fun _ _ => none, fun _ _ => none⟩
  | n + 1 => ⟨fstR R.e (comp R n), fstR R.t (comp R n), fstR R.w (comp R n), fstR R.i (comp R n), fstR R.o (comp R n), fstR R.s (comp R n)⟩
def okTg (tg e : Expr) : Bool := match e with
  | .Call (.Name x _) _ _ _ => (x != ("enumerate" : Str) && x != ("zip" : Str)) || (match tg with | .Tuple _ _ _ => true | _ => false)
  | _ => true
structure RecOk (D : DP) (r : Rec) : Prop where
  e : ∀ {X W Γ k e f}, Ck D W Γ X k → r.e Γ e = some f → PE X e (rdE D W f)
  t : ∀ {X W Γ k e f}, Ck D W Γ X k → r.t Γ e = some f → PT X e (rdT D W f)
  w : ∀ {X W Γ k e f}, Ck D W Γ X k → r.w Γ e = some f → PW X e (rdT D W f)
  i : ∀ {X W Γ k tg e f}, Ck D W Γ X k → okTg tg e = true → r.i Γ e = some f → PI X tg e (rdI D W f)
  o : ∀ {X W Γ k e f}, Ck D W Γ X k → r.o Γ e = some f → PE X e (rdE D W f)
  s : ∀ {X W Γ k e f}, Sk D W Γ X k → r.s Γ e = some f → PS X e (rdS D W f)
def EOk (D : DP) (f : ER) : Prop := ∀ r, RecOk D r → ∀ {X W Γ k e d}, Ck D W Γ X k → f r Γ e = some d → PE X e (rdE D W d)
def TOk (D : DP) (f : TR) : Prop := ∀ r, RecOk D r → ∀ {X W Γ k e d}, Ck D W Γ X k → f r Γ e = some d → PT X e (rdT D W d)
def WOk (D : DP) (f : TR) : Prop := ∀ r, RecOk D r → ∀ {X W Γ k e d}, Ck D W Γ X k → f r Γ e = some d → PW X e (rdT D W d)
def IOk (D : DP) (f : IR) : Prop := ∀ r, RecOk D r → ∀ {X W Γ k tg e d}, Ck D W Γ X k → okTg tg e = true → f r Γ e = some d → PI X tg e (rdI D W d)
def SOk (D : DP) (f : SR) : Prop := ∀ r, RecOk D r → ∀ {X W Γ k e d}, Sk D W Γ X k → f r Γ e = some d → PS X e (rdS D W d)
def AllOk {α : Type} (P : α → Prop) : List α → Prop
  | [] => True
  | f :: fs => P f ∧ AllOk P fs
structure RulesOk (D : DP) (R : Rules) : Prop where
  e : AllOk (EOk D) R.e
  t : AllOk (TOk D) R.t
  w : AllOk (WOk D) R.w
  i : AllOk (IOk D) R.i
  o : AllOk (EOk D) R.o
  s : AllOk (SOk D) R.s
theorem fstR_ok {α β : Type} {P : (Rec → Cn → α → Option β) → Prop} {C : Prop} {r : Rec} {Γ : Cn} {e : α} {d : β} : ∀ {fs : List (Rec → Cn → α → Option β)}, AllOk P fs → (∀ f, P f → f r Γ e = some d → C) → fstR fs r Γ e = some d → C
  | [], _, _, h => by cases h
  | f :: fs, a, k, h => by
    unfold fstR at h
    cases q : f r Γ e with
    | some d' => rw [q] at h; cases h; exact k f a.1 q
    | none => rw [q] at h; exact fstR_ok a.2 k h
theorem comp_ok {D : DP} {R : Rules} (H : RulesOk D R) : ∀ n, RecOk D (comp R n)
  | 0 => ⟨fun _ h => (by cases h), fun _ h => (by cases h), fun _ h => (by cases h), fun _ _ h => (by cases h), fun _ h => (by cases h), fun _ h => (by cases h)⟩
  | n + 1 => ⟨fun C h => fstR_ok H.e (fun f p q => p _ (comp_ok H n) C q) h, fun C h => fstR_ok H.t (fun f p q => p _ (comp_ok H n) C q) h, fun C h => fstR_ok H.w (fun f p q => p _ (comp_ok H n) C q) h, fun C ht h => fstR_ok H.i (fun f p q => p _ (comp_ok H n) C ht q) h, fun C h => fstR_ok H.o (fun f p q => p _ (comp_ok H n) C q) h, fun C h => fstR_ok H.s (fun f p q => p _ (comp_ok H n) C q) h⟩
def gd {α : Type} (b : Bool) (o : Option α) : Option α := match b with
  | true => o
  | false => none
theorem gd_of {α : Type} {b : Bool} {o : Option α} {x : α} (h : gd b o = some x) : b = true ∧ o = some x := by
  cases b with
  | true => exact ⟨rfl, h⟩
  | false => cases h
theorem bnd {α β : Type} {o : Option α} {f : α → Option β} {x : β} (h : o.bind f = some x) : ∃ a, o = some a ∧ f a = some x := Option.bind_eq_some_iff.mp h
def mapE {α β : Type} (f : α → Option β) : List α → Option (List β)
  | [] => some []
  | a :: r => (f a).bind fun b => (mapE f r).bind fun bs => some (b :: bs)
def cEs (r : Rec) (Γ : Cn) (es : List Expr) : Option (List De) := mapE (fun e => gd (noStar e) (r.e Γ e)) es
section
variable {D : DP} {r : Rec} {X : Cx} {W : XW} {Γ : Cn} {k : Nat}
theorem cEs_ok (h : RecOk D r) (C : Ck D W Γ X k) : ∀ {es : List Expr} {fs : List De}, cEs r Γ es = some fs → EsOk X D W es fs
  | [], fs, e => by cases e; trivial
  | a :: es, fs, e => by
    obtain ⟨f, h1, e⟩ := bnd e
    obtain ⟨gs, h2, e⟩ := bnd e
    cases e
    obtain ⟨h3, h4⟩ := gd_of h1
    exact ⟨h3, h.e C h4, cEs_ok h C h2⟩
theorem mapT_ok (h : RecOk D r) (C : Ck D W Γ X k) : ∀ {es : List Expr} {fs : List Dt}, mapE (r.t Γ) es = some fs → TsOk X D W es fs
  | [], fs, e => by cases e; trivial
  | a :: es, fs, e => by
    obtain ⟨f, h1, e⟩ := bnd e
    obtain ⟨gs, h2, e⟩ := bnd e
    cases e
    exact ⟨h.t C h1, mapT_ok h C h2⟩
theorem mapS_ok (h : RecOk D r) (C : Sk D W Γ X k) : ∀ {es : List Stmt} {fs : List Ds}, mapE (r.s Γ) es = some fs → SsOk X D W es fs
  | [], fs, e => by cases e; trivial
  | a :: es, fs, e => by
    obtain ⟨f, h1, e⟩ := bnd e
    obtain ⟨gs, h2, e⟩ := bnd e
    cases e
    exact ⟨h.s C h1, mapS_ok h C h2⟩
end
def rCon : ER := fun _ _ e => match e with
  | .Constant c _ _ => (match c with
    | .int i => some (eC (.int i))
    | .bool b => some (eC (.bl b))
    | .none => some (eC .non)
    | .str x => some (eC (.str x))
    | _ => none)
  | _ => none
theorem rCon_ok {D : DP} : EOk D rCon := by
  intro r H X W Γ k e d C h
  cases e with
  | Constant c j p =>
    cases c with
    | int i => cases h; exact se_int
    | bool i => cases h; exact se_bl
    | none => cases h; exact se_non
    | str i => cases h; exact se_str
    | _ => cases h
  | _ => cases h
def rNam : ER := fun _ Γ e => match e with
  | .Name x _ => (match idx Γ.N x with
    | some i => some (eV i)
    | none => (match Γ.look x with
      | .cst t => some (eC t)
      | _ => none))
  | _ => none
theorem rNam_ok {D : DP} : EOk D rNam := by
  intro r H X W Γ k e d C h
  cases e with
  | Name x p =>
    simp only [rNam] at h
    cases q : idx Γ.N x with
    | some i => rw [q] at h; cases h; exact se_var C q
    | none =>
      rw [q] at h
      cases hl : Γ.look x with
      | cst t =>
        simp only [hl] at h
        cases h
        obtain ⟨hx, hg⟩ := look_eq hl (by intro z; cases z)
        exact se_cst C hx hg
      | _ => simp [hl] at h
  | _ => cases h
def rBin : ER := fun r Γ e => match e with
  | .BinOp a op b _ => (r.e Γ a).bind fun f => (r.e Γ b).bind fun g => some (eBin op f g)
  | _ => none
theorem rBin_ok {D : DP} : EOk D rBin := by
  intro r H X W Γ k e d C h
  cases e with
  | BinOp a op b p =>
    obtain ⟨f, h1, h⟩ := bnd h
    obtain ⟨g, h2, h⟩ := bnd h
    cases h
    exact se_bin (H.e C h1) (H.e C h2)
  | _ => cases h
def rUn : ER := fun r Γ e => match e with
  | .UnaryOp op a _ => (r.e Γ a).bind fun f => (match op with
    | .USub => some (eNeg f)
    | .Not => some (eNot f)
    | _ => none)
  | _ => none
theorem rUn_ok {D : DP} : EOk D rUn := by
  intro r H X W Γ k e d C h
  cases e with
  | UnaryOp op a p =>
    obtain ⟨f, h1, h⟩ := bnd h
    cases op with
    | USub => cases h; exact se_neg (H.e C h1)
    | Not => cases h; exact se_not (H.e C h1)
    | _ => cases h
  | _ => cases h
def rBool : ER := fun r Γ e => match e with
  | .BoolOp op es p => (match es with
    | [a] => r.e Γ a
    | a :: b :: l => (r.e Γ a).bind fun f => (r.e Γ (.BoolOp op (b :: l) p)).bind fun g => some (match op with | .And => eAnd f g | .Or => eOr f g)
    | [] => none)
  | _ => none
theorem rBool_ok {D : DP} : EOk D rBool := by
  intro r H X W Γ k e d C h
  cases e with
  | BoolOp op es p =>
    match es with
    | [] => cases h
    | [a] => exact se_one (H.e C h)
    | a :: b :: l =>
      obtain ⟨f, h1, h⟩ := bnd h
      obtain ⟨g, h2, h⟩ := bnd h
      cases h
      cases op with
      | And => exact se_and (H.e C h1) (H.e C h2)
      | Or => exact se_or (H.e C h1) (H.e C h2)
  | _ => cases h
def chs (r : Rec) (Γ : Cn) : List CmpOp → List Expr → Option (List (CmpOp × De))
  | [], [] => some []
  | op :: ops, e :: es => gd (bySize op) ((r.e Γ e).bind fun f => (chs r Γ ops es).bind fun ps => some ((op, f) :: ps))
  | _, _ => none
theorem chs_ok {D : DP} {r : Rec} {X : Cx} {W : XW} {Γ : Cn} {k : Nat} (H : RecOk D r) (C : Ck D W Γ X k) : ∀ {ops : List CmpOp} {es : List Expr} {ps : List (CmpOp × De)}, chs r Γ ops es = some ps → ChOk X D W es ps ∧ ps.map (·.1) = ops ∧ ps.all (fun p => bySize p.1) = true
  | [], [], ps, h => by cases h; exact ⟨trivial, rfl, rfl⟩
  | [], _ :: _, ps, h => by cases h
  | _ :: _, [], ps, h => by cases h
  | op :: ops, e :: es, ps, h => by
    obtain ⟨hb, h⟩ := gd_of h
    obtain ⟨f, h1, h⟩ := bnd h
    obtain ⟨qs, h2, h⟩ := bnd h
    cases h
    obtain ⟨k1, k2, k3⟩ := chs_ok H C h2
    exact ⟨⟨H.e C h1, k1⟩, by simp [k2], by simp [hb, k3]⟩
def cmpD (r : Rec) (Γ : Cn) (a : Expr) (ops : List CmpOp) (es : List Expr) : Option De := (r.e Γ a).bind fun f => (match ops, es with
  | [op], [b] => gd (okCmp op b) ((r.e Γ b).bind fun g => some (eCmp op f g))
  | _ :: _ :: _, _ :: _ :: _ => (chs r Γ ops es).bind fun ps => some (eCh f ps)
  | _, _ => none)
theorem cmpD_ok {D : DP} {r : Rec} {X : Cx} {W : XW} {Γ : Cn} {k : Nat} (H : RecOk D r) (C : Ck D W Γ X k) {a : Expr} {ops : List CmpOp} {es : List Expr} {p : Pos} {d : De} (h : cmpD r Γ a ops es = some d) : PE X (.Compare a ops es p) (rdE D W d) ∧ PT X (.Compare a ops es p) (rdT D W (tE d)) := by
  obtain ⟨f, h1, h⟩ := bnd h
  match ops, es with
  | [op], [b] =>
    obtain ⟨ho, h⟩ := gd_of h
    obtain ⟨g, h2, h⟩ := bnd h
    cases h
    exact ⟨se_cmp C ho (H.e C h1) (H.e C h2), stest_cmp1 C ho (H.e C h1) (H.e C h2)⟩
  | op :: op' :: ops, e :: e' :: es =>
    obtain ⟨ps, h2, h⟩ := bnd h
    cases h
    obtain ⟨k1, k2, k3⟩ := chs_ok H C h2
    match ps with
    | [] => cases k2
    | [p1] => simp at k2
    | p1 :: p2 :: ps =>
      simp only [List.map_cons, List.cons.injEq] at k2
      obtain ⟨rfl, rfl, rfl⟩ := k2
      exact ⟨se_chain C k3 (H.e C h1) k1, stest_chain C k3 (H.e C h1) k1⟩
  | [], es => cases h
  | [_], [] => cases h
  | [_], _ :: _ :: _ => cases h
  | _ :: _ :: _, [] => cases h
  | _ :: _ :: _, [_] => cases h
def rCmp : ER := fun r Γ e => match e with
  | .Compare a ops es _ => cmpD r Γ a ops es
  | _ => none
theorem rCmp_ok {D : DP} : EOk D rCmp := by
  intro r H X W Γ k e d C h
  cases e with
  | Compare a ops es p => exact (cmpD_ok H C h).1
  | _ => cases h
def rFld : ER := fun r Γ e => match e with
  | .Attribute a x _ => gd (plainOb a) ((r.e Γ a).bind fun f => (Γ.fld.lookup x).bind fun n => some (eFld f n))
  | _ => none
theorem rFld_ok {D : DP} : EOk D rFld := by
  intro r H X W Γ k e d C h
  cases e with
  | Attribute a x p =>
    obtain ⟨hp, h⟩ := gd_of h
    obtain ⟨f, h1, h⟩ := bnd h
    obtain ⟨n, h2, h⟩ := bnd h
    cases h
    exact se_fld C hp (lookup_mem h2) (H.e C h1)
  | _ => cases h
def prt (r : Rec) (Γ : Cn) : Option Expr → Option Dp
  | none => some pN
  | some e => (r.e Γ e).bind fun f => some (pS f)
theorem prt_ok {D : DP} {r : Rec} {X : Cx} {W : XW} {Γ : Cn} {k : Nat} (H : RecOk D r) (C : Ck D W Γ X k) {o : Option Expr} {d : Dp} (h : prt r Γ o = some d) : PO X o (rdO D W d) := by
  cases o with
  | none => cases h; exact so_none
  | some e =>
    obtain ⟨f, h1, h⟩ := bnd h
    cases h
    exact so_some (H.e C h1)
def rSub : ER := fun r Γ e => match e with
  | .Subscript a b _ => (match b with
    | .Slice lo hi st _ => (match st with
      | none => (r.e Γ a).bind fun f => (prt r Γ lo).bind fun l => (prt r Γ hi).bind fun u => some (eSl f l u)
      | some _ => none)
    | b => gd (plainIx b) ((r.e Γ a).bind fun f => (r.e Γ b).bind fun g => some (eIx f g)))
  | _ => none
theorem rSub_ok {D : DP} : EOk D rSub := by
  intro r H X W Γ k e d C h
  cases e with
  | Subscript a b p =>
    have gen : ∀ {b}, gd (plainIx b) ((r.e Γ a).bind fun f => (r.e Γ b).bind fun g => some (eIx f g)) = some d → PE X (.Subscript a b p) (rdE D W d) := fun {b} h => by
      obtain ⟨hp, h⟩ := gd_of h
      obtain ⟨f, h1, h⟩ := bnd h
      obtain ⟨g, h2, h⟩ := bnd h
      cases h
      exact se_ix hp C.hK (H.e C h1) (H.e C h2)
    cases b with
    | Slice lo hi st p2 =>
      cases st with
      | some _ => cases h
      | none =>
        obtain ⟨f, h1, h⟩ := bnd h
        obtain ⟨l, h2, h⟩ := bnd h
        obtain ⟨u, h3, h⟩ := bnd h
        cases h
        exact se_slice (H.e C h1) (prt_ok H C h2) (prt_ok H C h3)
    | _ => exact gen h
  | _ => cases h
def rLst : ER := fun r Γ e => match e with
  | .List es _ => gd (decide (es.length ≤ room)) ((cEs r Γ es).bind fun fs => some (eLst fs))
  | .Tuple es _ _ => gd (decide (es.length ≤ room)) ((cEs r Γ es).bind fun fs => some (eTup fs))
  | _ => none
theorem rLst_ok {D : DP} : EOk D rLst := by
  intro r H X W Γ k e d C h
  cases e with
  | List es p =>
    obtain ⟨hl, h⟩ := gd_of h
    obtain ⟨fs, h1, h⟩ := bnd h
    cases h
    exact se_lst (of_decide_eq_true hl) (cEs_ok H C h1)
  | Tuple es kk p =>
    obtain ⟨hl, h⟩ := gd_of h
    obtain ⟨fs, h1, h⟩ := bnd h
    cases h
    exact se_tup (of_decide_eq_true hl) (cEs_ok H C h1)
  | _ => cases h
def rCal : ER := fun r Γ e => match e with
  | .Call (.Name x _) es [] _ => gd ((idx Γ.N x).isNone && Γ.calm) ((cEs r Γ es).bind fun fs => (match Γ.look x with
    | .fn g => some (eCall g fs)
    | .mk c true g => some (eMk c g fs)
    | _ => none))
  | _ => none
theorem rCal_ok {D : DP} : EOk D rCal := by
  intro r H X W Γ k e d C h
  unfold rCal at h
  split at h
  · rename_i x p0 es pos
    obtain ⟨hb, h⟩ := gd_of h
    simp only [Bool.and_eq_true] at hb
    obtain ⟨fs, h1, h⟩ := bnd h
    cases hl : Γ.look x with
    | fn g =>
      simp only [hl] at h
      cases h
      obtain ⟨hx, hg⟩ := look_eq hl (by intro z; cases z)
      exact se_call C hx hg hb.2 (cEs_ok H C h1)
    | mk c z g =>
      cases z with
      | true =>
        simp only [hl] at h
        cases h
        obtain ⟨hx, hg⟩ := look_eq hl (by intro z; cases z)
        exact se_make C hx hg hb.2 (cEs_ok H C h1)
      | false => simp [hl] at h
    | _ => simp [hl] at h
  · cases h
def rB1 (nm : Str) (op : T → Mem → RE T) (cl : Bool) : ER := fun r Γ e => match e with
  | .Call (.Name x _) [a] [] _ => gd (x == nm && (idx Γ.N x).isNone && noStar a && (!cl || Γ.calm)) ((r.e Γ a).bind fun f => (match Γ.look x with
    | .none => some (eB1 op f)
    | _ => none))
  | _ => none
theorem rB1_ok {D : DP} {nm : Str} {op : T → Mem → RE T} {cl : Bool} (H1 : ∀ {X : Cx} {W : XW} {Γ : Cn} {k : Nat} {a : Expr} {f : De} {p0 pos : Pos}, Ck D W Γ X k → nm ∈ Γ.G → Γ.gl nm = .none → (cl = true → Γ.calm = true) → noStar a = true → PE X a (rdE D W f) → PE X (.Call (.Name nm p0) [a] [] pos) (rdE D W (eB1 op f))) : EOk D (rB1 nm op cl) := by
  intro r H X W Γ k e d C h
  unfold rB1 at h
  split at h
  · rename_i x p0 a pos
    have hh := gd_of h
    clear h
    obtain ⟨hb, h⟩ := hh
    simp only [Bool.and_eq_true, beq_iff_eq, Bool.or_eq_true, Bool.not_eq_true'] at hb
    obtain ⟨⟨⟨rfl, h2⟩, h3⟩, h4⟩ := hb
    obtain ⟨f, h1, h⟩ := bnd h
    cases hl : Γ.look x with
    | none =>
      simp only [hl] at h
      cases h
      obtain ⟨hx, hg⟩ := look_eq hl (by intro z; cases z)
      exact H1 C hx hg (fun z => h4.resolve_left (by rw [z]; simp)) h3 (H.e C h1)
    | _ => simp [hl] at h
  · cases h
def rLen : ER := rB1 "len" lenT false
theorem rLen_ok {D : DP} : EOk D rLen := rB1_ok fun C hx hg _ hs ha => se_b1 C hx hg boot_len (by decide) hs b_len ha
def rList : ER := rB1 "list" listT false
theorem rList_ok {D : DP} : EOk D rList := rB1_ok fun C hx hg _ hs ha => se_bT C hx hg (by decide +kernel) (by decide) hs b_list ha
def rAll : ER := rB1 "all" allT true
theorem rAll_ok {D : DP} : EOk D rAll := rB1_ok fun C hx hg hc hs ha => se_b1 C hx hg boot_all (by decide) hs (b_all (C.clm (hc rfl))) ha
def rIsi : ER := fun r Γ e => match e with
  | .Call (.Name x _) [a, c] [] _ => gd (x == ("isinstance" : Str) && (idx Γ.N x).isNone && noStar a) ((r.e Γ a).bind fun f => (clsNames Γ c).bind fun cs => (match Γ.look x with
    | .none => some (eIsi cs f)
    | _ => none))
  | _ => none
theorem rIsi_ok {D : DP} : EOk D rIsi := by
  intro r H X W Γ k e d C h
  unfold rIsi at h
  split at h
  · rename_i x p0 a c pos
    have hh := gd_of h
    clear h
    obtain ⟨hb, h⟩ := hh
    simp only [Bool.and_eq_true, beq_iff_eq] at hb
    obtain ⟨⟨rfl, h2⟩, h3⟩ := hb
    obtain ⟨f, h1, h⟩ := bnd h
    obtain ⟨cs, h4, h⟩ := bnd h
    cases hl : Γ.look "isinstance" with
    | none =>
      simp only [hl] at h
      cases h
      obtain ⟨hx, hg⟩ := look_eq hl (by intro z; cases z)
      exact se_isi C hx hg h3 h4 (H.e C h1)
    | _ => simp [hl] at h
  · cases h
def rM1 (nm : Str) (cb : De → De → De) : ER := fun r Γ e => match e with
  | .Call (.Attribute o m pa) [a] [] pc => gd (m == nm && plainOb o && noStar a && pa.endLine == pc.line) ((r.e Γ o).bind fun f => (r.e Γ a).bind fun g => some (cb f g))
  | _ => none
theorem rM1_ok {D : DP} {nm : Str} {cb : De → De → De} (H1 : ∀ {X : Cx} {W : XW} {Γ : Cn} {k : Nat} {o a : Expr} {f g : De} {pa pc : Pos}, Ck D W Γ X k → plainOb o = true → noStar a = true → (pa.endLine == pc.line) = true → PE X o (rdE D W f) → PE X a (rdE D W g) → PE X (.Call (.Attribute o nm pa) [a] [] pc) (rdE D W (cb f g))) : EOk D (rM1 nm cb) := by
  intro r H X W Γ k e d C h
  unfold rM1 at h
  split at h
  · have hh := gd_of h
    clear h
    obtain ⟨hb, h⟩ := hh
    simp only [Bool.and_eq_true] at hb
    obtain ⟨⟨⟨h0, h2⟩, h3⟩, h4⟩ := hb
    have h0 := beq_iff_eq.mp h0
    subst h0
    obtain ⟨f, h1, h⟩ := bnd h
    obtain ⟨g, h5, h⟩ := bnd h
    cases h
    exact H1 C h2 h3 h4 (H.e C h1) (H.e C h5)
  · cases h
def rApp : ER := rM1 "append" eApp
theorem rApp_ok {D : DP} : EOk D rApp := rM1_ok fun C hp hs hl ho ha => se_app hp hs hl ho ha
def rIndex : ER := rM1 "index" eIndex
theorem rIndex_ok {D : DP} : EOk D rIndex := rM1_ok fun C hp hs hl ho ha => se_index hp hs hl ho ha
def rJoinR : ER := fun r Γ e => match e with
  | .Call (.Attribute (.Constant (.str sep) _ _) m pa) [.Call (.Name rv _) [.Name x px] [] _] [] pc => gd (m == ("join" : Str) && rv == ("reversed" : Str) && (idx Γ.N rv).isNone && pa.endLine == pc.line && Γ.calm) ((r.e Γ (.Name x px)).bind fun f => (match Γ.look rv with
    | .none => some (eB1 (joinRT sep) f)
    | _ => none))
  | _ => none
theorem rJoinR_ok {D : DP} : EOk D rJoinR := by
  intro r H X W Γ k e d C h
  unfold rJoinR at h
  split at h
  · rename_i rv p2 x px p3 pc
    have hh := gd_of h
    clear h
    obtain ⟨hb, h⟩ := hh
    simp only [Bool.and_eq_true] at hb
    obtain ⟨⟨⟨⟨h0, h2⟩, h3⟩, h4⟩, h5⟩ := hb
    have h0 := beq_iff_eq.mp h0
    have h2 := beq_iff_eq.mp h2
    subst h0 h2
    obtain ⟨f, h1, h⟩ := bnd h
    cases hl : Γ.look "reversed" with
    | none =>
      simp only [hl] at h
      cases h
      obtain ⟨hx, hg⟩ := look_eq hl (by intro z; cases z)
      exact se_joinR C h5 hx hg h4 (H.e C h1)
    | _ => simp [hl] at h
  · cases h
def cmpr (r : Rec) (Γ : Cn) (elt tg iter : Expr) (ifs : List Expr) (sc : Scope) (mk : Nat → List Nat → Tg → Di → List Dt → De → De) : Option De :=
  gd (Γ.calm && compOk Γ.N Γ.cel tg sc && plainIn iter && okTg tg iter) ((idxF Γ.N (frees sc)).bind fun fs => (tgOf (tgNames tg ++ frees sc) tg).bind fun tgt => (r.i Γ iter).bind fun fi => (mapE (r.t (inComp Γ tg sc)) ifs).bind fun cs => (r.e (inComp Γ tg sc) elt).bind fun fe => some (mk (tgNames tg).length fs tgt fi cs fe))
theorem cmpr_of {r : Rec} {Γ : Cn} {elt tg iter : Expr} {ifs : List Expr} {sc : Scope} {mk : Nat → List Nat → Tg → Di → List Dt → De → De} {d : De} (h : cmpr r Γ elt tg iter ifs sc mk = some d) :
    ∃ fs tgt fi cs fe, Γ.calm = true ∧ CompOk Γ.N Γ.cel tg sc ∧ (plainIn iter = true ∧ okTg tg iter = true) ∧ idxF Γ.N (frees sc) = some fs ∧ tgOf (tgNames tg ++ frees sc) tg = some tgt ∧ r.i Γ iter = some fi ∧ mapE (r.t (inComp Γ tg sc)) ifs = some cs ∧ r.e (inComp Γ tg sc) elt = some fe ∧ d = mk (tgNames tg).length fs tgt fi cs fe := by
  obtain ⟨hb, h⟩ := gd_of h
  simp only [Bool.and_eq_true] at hb
  obtain ⟨fs, h1, h⟩ := bnd h
  obtain ⟨tgt, h2, h⟩ := bnd h
  obtain ⟨fi, h3, h⟩ := bnd h
  obtain ⟨cs, h4, h⟩ := bnd h
  obtain ⟨fe, h5, h⟩ := bnd h
  cases h
  exact ⟨fs, tgt, fi, cs, fe, hb.1.1.1, compOk_of hb.1.1.2, ⟨hb.1.2, hb.2⟩, h1, h2, h3, h4, h5, rfl⟩
def rComp : ER := fun r Γ e => match e with
  | .ListComp elt [⟨tg, iter, ifs, z⟩] sc _ => gd (z == 0) (cmpr r Γ elt tg iter ifs sc eComp)
  | _ => none
theorem rComp_ok {D : DP} : EOk D rComp := by
  intro r H X W Γ k e d C h
  unfold rComp at h
  split at h
  · have hh := gd_of h
    clear h
    obtain ⟨hz, h⟩ := hh
    have hz := beq_iff_eq.mp hz
    subst hz
    obtain ⟨fs, tgt, fi, cs, fe, h1, h2, h3, h4, h5, h6, h7, h8, rfl⟩ := cmpr_of h
    exact se_comp C h1 h2 h4 h5 (H.i C h3.2 h6) (fun X' W' C' => H.e C' h8) (fun X' W' C' => mapT_ok H C' h7) (noSet h3.1)
  · cases h
def rtVal : TR := fun r Γ e => match e with
  | .Name _ _ => (r.e Γ e).bind fun f => some (tE f)
  | .Call _ _ _ _ => (r.e Γ e).bind fun f => some (tE f)
  | .Subscript _ _ _ => (r.e Γ e).bind fun f => some (tE f)
  | .Attribute _ _ _ => (r.e Γ e).bind fun f => some (tE f)
  | .Compare a ops es _ => (cmpD r Γ a ops es).bind fun f => some (tE f)
  | .UnaryOp op a _ => (match op with
    | .Not => (r.t Γ a).bind fun f => some (tNot f)
    | _ => none)
  | .BoolOp _ _ _ => r.w Γ e
  | _ => none
theorem rtVal_ok {D : DP} : TOk D rtVal := by
  intro r H X W Γ k e d C h
  cases e with
  | Name x p =>
    obtain ⟨f, h1, h⟩ := bnd h
    cases h
    exact stest (H.e C h1) fun _ => rfl
  | Call f args kws p =>
    obtain ⟨f, h1, h⟩ := bnd h
    cases h
    exact stest (H.e C h1) fun _ => rfl
  | Subscript a b p =>
    obtain ⟨f, h1, h⟩ := bnd h
    cases h
    exact stest (H.e C h1) fun _ => rfl
  | Attribute a b p =>
    obtain ⟨f, h1, h⟩ := bnd h
    cases h
    exact stest (H.e C h1) fun _ => rfl
  | Compare a ops es p =>
    obtain ⟨f, h1, h⟩ := bnd h
    cases h
    exact (cmpD_ok H C h1).2
  | UnaryOp op a p =>
    cases op with
    | Not =>
      obtain ⟨f, h1, h⟩ := bnd h
      cases h
      exact st_not (H.t C h1)
    | _ => cases h
  | BoolOp op es p => exact (H.w C h).pt
  | _ => cases h
def rwBool : TR := fun r Γ e => match e with
  | .BoolOp op es p => (match es with
    | [a] => r.t Γ a
    | a :: b :: l => (r.t Γ a).bind fun f => (r.w Γ (.BoolOp op (b :: l) p)).bind fun g => some (match op with | .And => tAnd f g | .Or => tOr f g)
    | [] => none)
  | _ => none
theorem rwBool_ok {D : DP} : WOk D rwBool := by
  intro r H X W Γ k e d C h
  cases e with
  | BoolOp op es p =>
    match es with
    | [] => cases h
    | [a] =>
      cases op with
      | And => exact pw_and1 (H.t C h)
      | Or => exact pw_or1 (H.t C h)
    | a :: b :: l =>
      obtain ⟨f, h1, h⟩ := bnd h
      obtain ⟨g, h2, h⟩ := bnd h
      cases h
      cases op with
      | And => exact st_and (H.t C h1) (H.w C h2)
      | Or => exact st_or (H.t C h1) (H.w C h2)
  | _ => cases h
def riRng : IR := fun r Γ e => match e with
  | .Call (.Name x _) as [] _ => gd (x == ("range" : Str) && (idx Γ.N x).isNone && as.all noStar) (match Γ.look x with
    | .none => (match as with
      | [a] => (r.e Γ a).bind fun f => some (iRng f)
      | [a, b] => (r.e Γ a).bind fun f => (r.e Γ b).bind fun g => some (iRng2 f g)
      | [a, b, c] => (r.e Γ a).bind fun f => (r.e Γ b).bind fun g => (r.e Γ c).bind fun h => some (iRng3 f g h)
      | _ => none)
    | _ => none)
  | _ => none
theorem riRng_ok {D : DP} : IOk D riRng := by
  intro r H X W Γ k tg e d C ht h
  unfold riRng at h
  split at h
  · rename_i x p0 as pos
    have hh := gd_of h
    clear h
    obtain ⟨hb, h⟩ := hh
    simp only [Bool.and_eq_true] at hb
    obtain ⟨⟨h0, h2⟩, h3⟩ := hb
    have h0 := beq_iff_eq.mp h0
    subst h0
    cases hl : Γ.look "range" with
    | none =>
      obtain ⟨hx, hg⟩ := look_eq hl (by intro z; cases z)
      simp only [hl] at h
      match as with
      | [] => cases h
      | [a] =>
        simp only [List.all_cons, Bool.and_eq_true] at h3
        obtain ⟨f, h1, h⟩ := bnd h
        cases h
        exact si_range C hx hg h3.1 (H.e C h1)
      | [a, b] =>
        simp only [List.all_cons, Bool.and_eq_true] at h3
        obtain ⟨f, h1, h⟩ := bnd h
        obtain ⟨g, h4, h⟩ := bnd h
        cases h
        exact si_range2 C hx hg h3.1 h3.2.1 (H.e C h1) (H.e C h4)
      | [a, b, c] =>
        simp only [List.all_cons, Bool.and_eq_true] at h3
        obtain ⟨f, h1, h⟩ := bnd h
        obtain ⟨g, h4, h⟩ := bnd h
        obtain ⟨g2, h5, h⟩ := bnd h
        cases h
        exact si_range3 C hx hg h3.1 h3.2.1 h3.2.2.1 (H.e C h1) (H.e C h4) (H.e C h5)
      | _ :: _ :: _ :: _ :: _ => cases h
    | _ => simp [hl] at h
  · cases h
def riE : IR := fun r Γ e => (r.e Γ e).bind fun f => some (iE f)
theorem riE_ok {D : DP} : IOk D riE := by
  intro r H X W Γ k tg e d C ht h
  obtain ⟨f, h1, h⟩ := bnd h
  cases h
  exact si_expr (H.e C h1)
def roLst : ER := fun r Γ e => match e with
  | .List es _ => gd (decide (es.length ≤ room)) ((cEs r Γ es).bind fun fs => some (eLay fs))
  | _ => none
theorem roLst_ok {D : DP} : EOk D roLst := by
  intro r H X W Γ k e d C h
  cases e with
  | List es p =>
    obtain ⟨hl, h⟩ := gd_of h
    obtain ⟨fs, h1, h⟩ := bnd h
    cases h
    exact se_lay (of_decide_eq_true hl) (cEs_ok H C h1)
  | _ => cases h
def roComp : ER := fun r Γ e => match e with
  | .ListComp elt [⟨tg, iter, ifs, z⟩] sc _ => gd (z == 0) (cmpr r Γ elt tg iter ifs sc eCompL)
  | _ => none
theorem roComp_ok {D : DP} : EOk D roComp := by
  intro r H X W Γ k e d C h
  unfold roComp at h
  split at h
  · have hh := gd_of h
    clear h
    obtain ⟨hz, h⟩ := hh
    have hz := beq_iff_eq.mp hz
    subst hz
    obtain ⟨fs, tgt, fi, cs, fe, h1, h2, h3, h4, h5, h6, h7, h8, rfl⟩ := cmpr_of h
    exact se_compL C h1 h2 h4 h5 (H.i C h3.2 h6) (fun X' W' C' => H.e C' h8) (fun X' W' C' => mapT_ok H C' h7) (noSet h3.1)
  · cases h
end NH
end
section
set_option linter.all false
set_option maxRecDepth 100000
set_option maxHeartbeats 4000000
namespace NH
open PySem PySem.Spec PyProof.Rows L2
def ownE (r : Rec) (Γ : Cn) (x : Str) (e : Expr) : Option De := match Γ.own.contains x with
  | true => r.o Γ e
  | false => r.e Γ e
theorem ownE_ok {D : DP} {r : Rec} {X : Cx} {W : XW} {Γ : Cn} {k : Nat} (H : RecOk D r) (C : Ck D W Γ X k) {x : Str} {e : Expr} {d : De} (h : ownE r Γ x e = some d) : PE X e (rdE D W d) := by
  unfold ownE at h
  cases q : Γ.own.contains x with
  | true => rw [q] at h; exact H.o C h
  | false => rw [q] at h; exact H.e C h
def rsRet : SR := fun r Γ s => match s with
  | .Return o _ => (match o with
    | some e => (ownE r Γ "return" e).bind fun f => some (sRet f)
    | none => some sRetN)
  | _ => none
theorem rsRet_ok {D : DP} : SOk D rsRet := by
  intro r H X W Γ k e d C h
  cases e with
  | Return o p =>
    cases o with
    | none => cases h; exact ss_retN
    | some e =>
      obtain ⟨f, h1, h⟩ := bnd h
      cases h
      exact ss_ret (ownE_ok H C.toCk h1)
  | _ => cases h
def isCall : Expr → Bool
  | .Call _ _ _ _ => true
  | .Constant _ _ _ => true
  | _ => false
def rsExp : SR := fun r Γ s => match s with
  | .Expr e _ => gd (isCall e) ((r.e Γ e).bind fun f => some (sExpr f))
  | _ => none
theorem rsExp_ok {D : DP} : SOk D rsExp := by
  intro r H X W Γ k e d C h
  cases e with
  | Expr e p =>
    obtain ⟨hb, h⟩ := gd_of h
    obtain ⟨f, h1, h⟩ := bnd h
    cases h
    exact ss_expr (by cases e <;> first | (simp [isCall] at hb; done) | rfl) (H.e C.toCk h1)
  | _ => cases h
def rsIf : SR := fun r Γ s => match s with
  | .If c a b _ => (r.t Γ c).bind fun t => (mapE (r.s Γ) a).bind fun us => (mapE (r.s Γ) b).bind fun vs => some (sIf t us vs)
  | _ => none
theorem rsIf_ok {D : DP} : SOk D rsIf := by
  intro r H X W Γ k e d C h
  cases e with
  | If c a b p =>
    obtain ⟨t, h1, h⟩ := bnd h
    obtain ⟨us, h2, h⟩ := bnd h
    obtain ⟨vs, h3, h⟩ := bnd h
    cases h
    exact ss_if (H.t C.toCk h1) (mapS_ok H C h2) (mapS_ok H C h3)
  | _ => cases h
def isComp : Expr → Bool
  | .ListComp _ _ _ _ => true
  | .SetComp _ _ _ _ => true
  | .DictComp _ _ _ _ _ => true
  | _ => false
def asgS (r : Rec) (Γ : Cn) (t e : Expr) : Option Ds := match t with
  | .Name x _ => (idx Γ.N x).bind fun i => (match e with
    | .ListComp elt gs sc _ => (match gs with
      | [g] => gd (g.is_async == 0) ((cmpr r Γ elt g.target g.iter g.ifs sc (match Γ.own.contains x with | true => eCompL | false => eComp)).bind fun f => some (sSet i f))
      | _ => none)
    | e => gd (!isComp e) ((ownE r Γ x e).bind fun f => some (sSet i f)))
  | .Tuple es _ _ => gd (Γ.calm && plainTup e) ((idxs Γ.N es).bind fun is => (r.e Γ e).bind fun f => some (sTup is f))
  | .Attribute o x _ => (Γ.fld.lookup x).bind fun n => (ownE r Γ x e).bind fun f => (r.e Γ o).bind fun go => some (sFld go n f)
  | .Subscript o b _ => gd (plainIx b) ((r.e Γ e).bind fun f => (r.e Γ o).bind fun go => (r.e Γ b).bind fun gb => some (sPut go gb f))
  | _ => none
def rsAsg : SR := fun r Γ s => match s with
  | .Assign ts e _ => (match ts with
    | [t] => asgS r Γ t e
    | _ => none)
  | _ => none
theorem asgS_ok {D : DP} {r : Rec} (H : RecOk D r) {X : Cx} {W : XW} {Γ : Cn} {k : Nat} {t e : Expr} {pos : Pos} {d : Ds} (C : Sk D W Γ X k) (h : asgS r Γ t e = some d) : PS X (.Assign [t] e pos) (rdS D W d) := by
  cases t with
  | Name x p =>
    obtain ⟨i, hi, h⟩ := bnd h
    have gen : isComp e = false → gd (!isComp e) ((ownE r Γ x e).bind fun f => some (sSet i f)) = some d → PS X (.Assign [.Name x p] e pos) (rdS D W d) := fun hc h => by
      obtain ⟨_, h⟩ := gd_of h
      obtain ⟨f, h1, h⟩ := bnd h
      cases h
      exact ss_set C hi (by cases e <;> first | (simp [isComp] at hc; done) | rfl) (ownE_ok H C.toCk h1)
    cases e with
    | ListComp elt gs sc pc =>
      match gs with
      | [] => cases h
      | _ :: _ :: _ => cases h
      | [⟨tg, iter, ifs, z⟩] =>
        have hh := gd_of h
        clear h gen
        obtain ⟨hz, h⟩ := hh
        have hz : z = 0 := beq_iff_eq.mp hz
        subst hz
        obtain ⟨f, h1, h⟩ := bnd h
        cases h
        obtain ⟨fs, tgt, fi, cs, fe, q1, q2, q3, q4, q5, q6, q7, q8, rfl⟩ := cmpr_of h1
        have he : (match Γ.own.contains x with | true => eCompL | false => eComp) (tgNames tg).length fs tgt fi cs fe = (match Γ.own.contains x with | true => eCompL (tgNames tg).length fs tgt fi cs fe | false => eComp (tgNames tg).length fs tgt fi cs fe) := by cases Γ.own.contains x <;> rfl
        have key : ∀ bb, swapsWith (.ListComp elt [⟨tg, iter, ifs, 0⟩] sc pc) (some (.Name x p)) pos.line X.env = pure bb → PS X (.Assign [.Name x p] (.ListComp elt [⟨tg, iter, ifs, 0⟩] sc pc) pos) (rdS D W (sSet i (match Γ.own.contains x with | true => eCompL (tgNames tg).length fs tgt fi cs fe | false => eComp (tgNames tg).length fs tgt fi cs fe))) := fun bb hsw => by
          cases bb with
          | true => exact ss_comp C q1 hi q2 q4 q5 (H.i C.toCk q3.2 q6) (fun X' W' C' => H.e C' q8) (fun X' W' C' => mapT_ok H C' q7) (noSet q3.1) _ hsw
          | false =>
            refine ss_set C hi hsw ?_
            cases Γ.own.contains x with
            | true => exact se_compL C.toCk q1 q2 q4 q5 (H.i C.toCk q3.2 q6) (fun X' W' C' => H.e C' q8) (fun X' W' C' => mapT_ok H C' q7) (noSet q3.1)
            | false => exact se_comp C.toCk q1 q2 q4 q5 (H.i C.toCk q3.2 q6) (fun X' W' C' => H.e C' q8) (fun X' W' C' => mapT_ok H C' q7) (noSet q3.1)
        rw [he]
        exact key _ rfl
    | SetComp _ _ _ _ => cases h
    | DictComp _ _ _ _ _ => cases h
    | _ => exact gen rfl h
  | Tuple es kk p =>
    obtain ⟨hb, h⟩ := gd_of h
    simp only [Bool.and_eq_true] at hb
    obtain ⟨is, h1, h⟩ := bnd h
    obtain ⟨f, h2, h⟩ := bnd h
    cases h
    exact ss_tup C hb.1 hb.2 h1 (H.e C.toCk h2)
  | Attribute o x p =>
    obtain ⟨n, h1, h⟩ := bnd h
    obtain ⟨f, h2, h⟩ := bnd h
    obtain ⟨go, h3, h⟩ := bnd h
    cases h
    exact ss_fld C (lookup_mem h1) (ownE_ok H C.toCk h2) (H.e C.toCk h3)
  | Subscript o b p =>
    obtain ⟨hb, h⟩ := gd_of h
    obtain ⟨f, h1, h⟩ := bnd h
    obtain ⟨go, h2, h⟩ := bnd h
    obtain ⟨gb, h3, h⟩ := bnd h
    cases h
    exact ss_put C hb (H.e C.toCk h1) (H.e C.toCk h2) (H.e C.toCk h3)
  | _ => cases h
theorem rsAsg_ok {D : DP} : SOk D rsAsg := by
  intro r H X W Γ k e d C h
  cases e with
  | Assign ts e p =>
    match ts with
    | [] => cases h
    | [t] => exact asgS_ok H C h
    | _ :: _ :: _ => cases h
  | _ => cases h
def rsFor : SR := fun r Γ s => match s with
  | .For tg it b els _ => gd (Γ.calm && plainIn it && els.isEmpty && okTg tg it) ((tgOf Γ.N tg).bind fun tgt => (r.i Γ it).bind fun fi => (mapE (r.s Γ) b).bind fun vs => some (sFor tgt fi vs))
  | _ => none
theorem rsFor_ok {D : DP} : SOk D rsFor := by
  intro r H X W Γ k e d C h
  cases e with
  | For tg it b els p =>
    obtain ⟨hb, h⟩ := gd_of h
    simp only [Bool.and_eq_true] at hb
    obtain ⟨tgt, h1, h⟩ := bnd h
    obtain ⟨fi, h2, h⟩ := bnd h
    obtain ⟨vs, h3, h⟩ := bnd h
    cases h
    cases els with
    | nil => exact ss_for C hb.1.1.1 h1 (H.i C.toCk hb.2 h2) (mapS_ok H C h3) (noSet hb.1.1.2)
    | cons _ _ => simp at hb
  | _ => cases h
def rsWhl : SR := fun r Γ s => match s with
  | .While c b els _ => gd els.isEmpty ((r.t Γ c).bind fun t => (mapE (r.s Γ) b).bind fun vs => some (sWhile t vs))
  | _ => none
theorem rsWhl_ok {D : DP} : SOk D rsWhl := by
  intro r H X W Γ k e d C h
  cases e with
  | While c b els p =>
    obtain ⟨hb, h⟩ := gd_of h
    obtain ⟨t, h1, h⟩ := bnd h
    obtain ⟨vs, h3, h⟩ := bnd h
    cases h
    cases els with
    | nil => exact ss_while C (H.t C.toCk h1) (mapS_ok H C h3)
    | cons _ _ => simp at hb
  | _ => cases h
def rsRai : SR := fun r Γ s => match s with
  | .Raise (some (.Call (.Name x _) (a :: as) [] _)) none _ => gd (Γ.calm && (idx Γ.N x).isNone) ((cEs r Γ (a :: as)).bind fun fs => (match Γ.look x with
    | .xcl c => some (sRaise c fs)
    | _ => none))
  | _ => none
theorem rsRai_ok {D : DP} : SOk D rsRai := by
  intro r H X W Γ k e d C h
  unfold rsRai at h
  split at h
  · rename_i x p0 a as p1 p2
    obtain ⟨hb, h⟩ := gd_of h
    simp only [Bool.and_eq_true] at hb
    obtain ⟨fs, h1, h⟩ := bnd h
    cases hl : Γ.look x with
    | xcl c =>
      simp only [hl] at h
      cases h
      obtain ⟨hx, hg⟩ := look_eq hl (by intro z; cases z)
      exact ss_raise C hb.1 hx hg (cEs_ok H C.toCk h1)
    | _ => simp [hl] at h
  · cases h
def hdl (r : Rec) (Γ : Cn) : ExceptHandler → Option (List Nat × Option Nat × List Ds)
  | .ExceptHandler t nm suite _ => (match t with
    | some (.Name x _) => gd ((idx Γ.N x).isNone && Γ.G.contains x && !suite.isEmpty && (match Γ.gl x with | .xcl c => Γ.cls.lookup x == some c && Nat.blt c 40 | .xcf c _ => Γ.cls.lookup x == some c && Nat.blt c 40 | _ => false)) ((Γ.cls.lookup x).bind fun c => (mapE (r.s { Γ with calm := false }) suite).bind fun vs => (match nm with
      | none => some ([c], none, vs)
      | some e => gd (!Γ.cel.contains e) ((idx Γ.N e).bind fun j => some ([c], some j, vs))))
    | _ => none)
theorem hdl_ok {D : DP} {r : Rec} (H : RecOk D r) {Γ : Cn} {k : Nat} : ∀ {hs : List ExceptHandler} {gs : List (List Nat × Option Nat × List Ds)}, mapE (hdl r Γ) hs = some gs → HsOk D Γ k hs gs
  | [], gs, h => by cases h; trivial
  | .ExceptHandler t nm suite p :: hs, gs, h => by
    obtain ⟨g, h1, h⟩ := bnd h
    obtain ⟨gs', h2, h⟩ := bnd h
    cases h
    have ih := hdl_ok (k := k) H h2
    cases t with
    | none => cases h1
    | some t =>
      cases t with
      | Name x p0 =>
        have q0 := gd_of h1
        clear h1
        obtain ⟨hb, q1⟩ := q0
        simp only [Bool.and_eq_true] at hb
        have q2 := bnd q1
        clear q1
        obtain ⟨c, hc, q3⟩ := q2
        have q4 := bnd q3
        clear q3
        obtain ⟨vs, hv, h1⟩ := q4
        have hcok : HcOk Γ x c := by
          refine ⟨by simpa using hb.1.1.2, lookup_mem hc, ?_⟩
          have h4 := hb.2
          rw [hc] at h4
          cases hg : Γ.gl x with
          | xcl c' =>
            simp only [hg, Bool.and_eq_true] at h4
            have : c = c' := Option.some.inj (beq_iff_eq.mp h4.1)
            rw [this]; exact ⟨.inr rfl, Nat.blt_eq.mp h4.2⟩
          | xcf c' f =>
            simp only [hg, Bool.and_eq_true] at h4
            have : c = c' := Option.some.inj (beq_iff_eq.mp h4.1)
            rw [this]; exact ⟨.inl ⟨f, rfl⟩, Nat.blt_eq.mp h4.2⟩
          | _ => rw [hg] at h4; cases h4
        have hne := hb.1.2
        clear hb
        have h1' := h1
        clear h1
        have h1 := h1'
        clear h1'
        cases suite with
        | nil => simp at hne
        | cons b0 suite =>
          cases nm with
          | none =>
            cases h1
            exact ⟨hcok, trivial, fun X' C' => mapS_ok H C' hv, ih⟩
          | some e =>
            obtain ⟨he, h1⟩ := gd_of h1
            obtain ⟨j, hj, h1⟩ := bnd h1
            cases h1
            exact ⟨hcok, ⟨hj, by simpa using he⟩, fun X' C' => mapS_ok H C' hv, ih⟩
      | _ => cases h1
def rsTry : SR := fun r Γ s => match s with
  | .Try b hs els fin _ => gd (Γ.calm && !hs.isEmpty && els.isEmpty && fin.isEmpty) ((mapE (r.s Γ) b).bind fun us => (mapE (hdl r Γ) hs).bind fun gs => some (sTry us gs))
  | _ => none
theorem rsTry_ok {D : DP} : SOk D rsTry := by
  intro r H X W Γ k e d C h
  cases e with
  | Try b hs els fin p =>
    obtain ⟨hb, h⟩ := gd_of h
    simp only [Bool.and_eq_true] at hb
    obtain ⟨us, h1, h⟩ := bnd h
    obtain ⟨gs, h2, h⟩ := bnd h
    cases h
    cases els with
    | cons _ _ => simp at hb
    | nil =>
      cases fin with
      | cons _ _ => simp at hb
      | nil =>
        cases hs with
        | nil => simp at hb
        | cons h0 hs => exact ss_try C hb.1.1.1 (fun X' W' C' => mapS_ok H C' h1) (hdl_ok H h2)
  | _ => cases h
structure MdOk (D : DP) (P : Program) (w : World) (K : PySem.W.Frag) (mg : Str → Option Value) (base : Heap) (Γ : Cn) (k : Nat) : Prop where
  hK : K = D.K
  glo : ∀ x ∈ Γ.U, GlOkM D P w K mg base k x (Γ.gl x) ∧ (x == ("__debug__" : Str)) = false
  isi : ∀ t x c, (x, c) ∈ Γ.cls → ∀ u v, TyNm D t u → ClValM mg x v → PySem.W.kitOne K u v = some (isinN t c)
  fld : ∀ c C x f, D.cad c = some C → (x, f) ∈ Γ.fld → D.fn f = some x ∧ Cls K C ∧ NoAttr K C x
  xcx : ∀ c C, D.adr c = some C → XCls K C
  ocx : ∀ c C, D.cad c = some C → OCls K C
  clv : ∀ x c, (x, c) ∈ Γ.cls → ∃ u v, ClValM mg x u ∧ ClsV v u
  xmt : ∀ t x c, (x, c) ∈ Γ.cls → c < 40 → ∀ Ct Cc, D.adr t = some Ct → mg x = some (.ref Cc) → PySem.W.exmOne K (.ref Ct) (.ref Cc) = some (isinN t c)
def scOk (Γ : Cn) (ps : List Str) (sc : Scope) : Bool :=
  (sc.kind == .function) && !sc.isCoroutine && !sc.isGenerator && decide (Γ.N.Nodup) && (Γ.N.take ps.length == ps) && sc.names.all (fun y => y.2 != .free) &&
  Γ.N.all (fun x => x != ("__debug__" : Str) && x != ("__classdict__" : Str) && (if Γ.cel.contains x then sc.names.lookup x == some .cell else sc.names.lookup x == some .local)) &&
  Γ.G.all (fun x => Γ.U.contains x && sc.names.lookup x == some .globalImplicit) && Γ.cel.all (fun x => Γ.N.contains x) && Γ.calm
theorem xp_frames {X : Cx} {W : XW} {e : Value} {s : Shared} (p : XP X W e s) : X.A.frames = some X.stack := by
  obtain ⟨_, _, _, _, _, _, _, _, I, _⟩ := p
  exact I.ok.frames
theorem argS_eq : ∀ (ts : List T) (n : Nat), argS ts n = ts.map some ++ List.replicate n none
  | [], n => by
    have : ∀ n, pad n = List.replicate n none := fun n => by
      induction n with
      | zero => rfl
      | succ n ih => show none :: pad n = _; rw [ih]; rfl
    exact this n
  | t :: r, n => by show some t :: argS r n = _; rw [argS_eq r n]; rfl
section
variable {D : DP} {P : Program} {w : World} {K : PySem.W.Frag} {mg : Str → Option Value} {base : Heap} {Γ : Cn} {k n : Nat}
theorem srel_start {φ α : List Addr} {H : Hp} {N : List Str} {ts : List T} {vs : List V} (d : DenL D φ α H ts vs) : SRel D φ α H (argS ts (N.length - ts.length)) (L2.start N vs) := by
  have hl := d.length
  rw [argS_eq]
  refine ⟨by simp [L2.start, hl], fun i t e => ?_⟩
  by_cases hi : i < ts.length
  · rw [List.getElem?_append_left (by simpa using hi), List.getElem?_map] at e
    cases q : ts[i]? with
    | none => rw [q] at e; cases e
    | some t' =>
      rw [q] at e
      have e : some (some t') = some (some t) := e
      cases e
      obtain ⟨v, hv, dv⟩ := d.get q
      refine ⟨v, ?_, dv⟩
      unfold L2.start
      rw [List.getElem?_append_left (by rw [List.length_map, ← hl]; exact hi), List.getElem?_map, hv]
      rfl
  · rw [List.getElem?_append_right (by simpa using hi), List.getElem?_replicate] at e
    split at e <;> cases e
theorem fn_rule {R : Rules} (HR : RulesOk D R) {f : Addr} {name qual : Str} {params : Arguments} {body : List Stmt} {scope : Scope} {dV kV doc pm cdv ct oc : Value} {an od : Option Addr} {osl : Array (Option Value)} {ps : List Str} {m : Nat} {ds : List Ds}
    (M : MdOk D P w K mg base Γ k) (lk : K.lookup f = some ⟨oc, od, .func (PySem.W.fnOf name qual params body scope dV kV doc pm an cdv ct), osl⟩) (hcd : PySem.W.codeIn K cdv qual = true) (hs : scOk Γ ps scope = true) (hm : Γ.N.length = ps.length + m) (hds : mapE ((comp R n).s Γ) body = some ds) (hlam : LamOk D mg base cdv (qual ++ ".<locals>.") k Γ.lam := by exact LamOk.no rfl) :
    FnOk P w K mg base (CX1 P w) (k + 1) f (PySem.W.fnOf name qual params body scope dV kV doc pm an cdv ct) ps (spN D ps.length (fnW ps.length m ds)) := by
  simp only [scOk, Bool.and_eq_true, List.all_eq_true, beq_iff_eq, Bool.not_eq_true', decide_eq_true_eq, bne_iff_ne, ne_eq] at hs
  obtain ⟨⟨⟨⟨⟨⟨⟨⟨⟨h1, h2⟩, h3⟩, h4⟩, h5⟩, h6⟩, h7⟩, h8⟩, h9⟩, h10⟩ := hs
  have kin : ∀ x ∈ Γ.N, (Γ.cel.contains x = true ∧ scope.names.lookup x = some .cell) ∨ (Γ.cel.contains x = false ∧ scope.names.lookup x = some .local) := fun x hx => by
    have q := (h7 x hx).2
    cases hc : Γ.cel.contains x with
    | true => rw [hc, if_pos rfl] at q; exact .inl ⟨rfl, beq_iff_eq.mp q⟩
    | false => rw [hc] at q; exact .inr ⟨rfl, beq_iff_eq.mp q⟩
  have loc : ∀ x ∈ Γ.N, scope.names.lookup x = some .local ∨ scope.names.lookup x = some .cell := fun x hx => (kin x hx).elim (fun z => .inr z.2) fun z => .inl z.2
  have S : FnScope Γ.N ps scope := ⟨h1, h2, h3, h4, h5, fun x hx => loc x (by rw [← h5] at hx; exact List.mem_of_mem_take hx), h6⟩
  refine fn_of lk hcd S (fun vs H Q E q => q.1) fun A outer s H vs Q E hr hsp => ?_
  obtain ⟨hl, φ, α, ts, μ, d, mr, K0, Z0, ⟨hle, q⟩, hk0, hz0⟩ := hsp
  generalize hX : cxOf (CX1 P w) P w K mg base Γ.N qual scope f cdv A outer s H E = X
  have F : Frm X (envOfC qual scope s.heap.objs.size f cdv) outer s.heap.objs.size := by rw [← hX]; exact ⟨rfl, rfl, rfl⟩
  have C : Sk D (wOf E) Γ (X.wish (XP X (wOf E))) k := by
    have xe : ∀ e s, XP (X.wish (XP X (wOf E))) (wOf E) e s → XP X (wOf E) e s := fun e s p => xp_unwish p
    have pso : PassesOwn (model X.prog X.w) X.A X.env (XP X (wOf E)) := fun e s p => xp_passes F (xp_frames p) e s p
    subst hX
    exact { hK := M.hK, hN := rfl, nd := h4, vis := fun x hx => (loc x hx).elim .inl fun z => .inr (.inl z), dbg := fun x hx => ⟨beq_eq_false_iff_ne.mpr (h7 x hx).1.1, beq_eq_false_iff_ne.mpr (h7 x hx).1.2⟩,
            dbG := fun x hx => (M.glo x (by simpa using (h8 x hx).1)).2, glb := fun x hx => (h8 x hx).2, glo := fun x hx => (M.glo x (by simpa using (h8 x hx).1)).1, glU := M.glo,
            cel := fun x hx => .inl ((kin x (by simpa using h9 x hx)).elim (fun z => z.2) fun z => by have := z.1; rw [List.contains_iff_mem.mpr hx] at this; cases this),
            isi := M.isi, fld := M.fld, xcx := M.xcx, ocx := M.ocx, clv := M.clv, clm := fun _ => rfl, rom := fun _ => hr, rmh := ⟨hr.dp, hr.un⟩, xe := xe, frm := ⟨_, _, _, F.stk, F.f0, F.fe⟩, lam := hlam,
            sto := fun x hx => ⟨loc x hx, .inl rfl⟩, lcl := fun x hx hc => (kin x hx).elim (fun z => by rw [z.1] at hc; cases hc) fun z => z.2, pso := pso, xmt := M.xmt }
  have B : PSs X body (rdS D (wOf E) (blks ds)) := fun pins s1 σ1 H1 E1 I1 q => by
    refine wpAny_mono (sss_all (mapS_ok (comp_ok HR n) C hds) pins s1 σ1 H1 E1 (I1.wish _) q) (fun f s' q => q.unwish) fun e s' p => ?_
    have p : XP X (wOf E) e s' := p
    have := xp_leave (M := model X.prog X.w) (F2 := fun e' s'' => CX1 X.prog X.w X.outer X.H₀ X.s₀ E e' s'') F (xp_frames p) (by rw [← hX]; rfl) p
    subst hX
    exact this
  have hmm : Γ.N.length - ts.length = m := by omega
  refine ⟨_, B, φ, α, _, μ, srel_start d, mr, { nx := fun _ μ1 => K0 .non μ1, rt := K0, bk := fun _ _ => False, ct := fun _ _ => False, ex := fun c fs _ μ1 => Z0 c fs μ1 }, by rw [hmm]; exact q, fun _ μ1 z α' H' σ' st m _ => hk0 _ _ z α' H' st m .non rfl, fun _ _ z => z.elim, fun _ _ z => z.elim, fun t μ1 z α' H' v st m dv => hk0 _ _ z α' H' st m v dv, fun c fs _ μ1 z α' H' σ' C1 dd st m _ ad xd => hz0 c fs μ1 z α' H' C1 dd st m ad xd⟩
theorem fnW_len {n m : Nat} {ds : List Ds} : ∀ ts μ K Z, fnW n m ds ts μ K Z → ts.length = n := fun _ _ _ _ h => h.1
theorem fn_pure {kk : Nat} {f : Addr} {fd : FuncData} {ps : List Str} {g : Fn} (F : FnOk P w K mg base (CX1 P w) kk f fd ps (spN D ps.length g)) : FnOk P w K mg base (CX1 P w) kk f fd ps (spN D ps.length (pureFn g)) := by
  refine F.imp ?_
  rintro vs H Q E ⟨hl, φ, α, ts, μ, d, mr, K0, Z0, ⟨hp, q⟩, hk0, hz0⟩
  refine ⟨hl, φ ++ α, [], ts, [], DenL.hide hp d hide_in, MRel.nil D fun b hb => (List.mem_append.mp hb).elim (mr.phi b) fun z => ?_, _, _, q, ?_, ?_⟩
  · obtain ⟨i, hi⟩ := List.mem_iff_getElem?.mp z
    have hl' : i < μ.length := by rw [← mr.len]; exact (List.getElem?_eq_some_iff.mp hi).1
    exact (mr.ob i b μ[i] hi (by simp [hl'])).some
  · rintro t μ1 ⟨hpt, q⟩ α' H' st m v dv
    have sm : Same H H' := fun b o e => st.keep b o (by simp) e
    exact hk0 _ _ q α H' (Stp.new sm) (mr.new sm) v (Den.hide hpt dv hide_out)
  · rintro c fs μ1 ⟨hpf, q⟩ α' H' C dd st m ad xd
    have sm : Same H H' := fun b o e => st.keep b o (by simp) e
    exact hz0 _ _ _ q α H' C dd (Stp.new sm) (mr.new sm) ad (XDict.hide hpf xd hide_out)
theorem pureFn_len {g : Fn} {n : Nat} (h : ∀ ts μ K Z, g ts μ K Z → ts.length = n) : ∀ ts μ K Z, pureFn g ts μ K Z → ts.length = n := fun ts _ _ _ q => h ts _ _ _ q.2
end
end NH
end
section
set_option linter.all false
set_option maxRecDepth 100000
set_option maxHeartbeats 4000000
namespace NH
open PySem PySem.Spec PyProof.Rows L2
def noLs : PySem.W.Frag → Bool
  | [] => true
  | p :: r => (match p.2.cls with | .type t => t != "list" | _ => true) && noLs r
theorem noLs_of : ∀ {K : PySem.W.Frag} {a : Addr} {o : Obj}, noLs K = true → K.lookup a = some o → o.cls ≠ .type "list"
  | [], _, _, _, h => by cases h
  | (b, p) :: r, a, o, hn, h => by
    simp only [noLs, Bool.and_eq_true] at hn
    rw [List.lookup_cons] at h
    cases q : a == b with
    | true =>
      rw [q] at h
      cases h
      intro e
      have h1 := hn.1
      rw [e] at h1
      exact absurd h1 (by decide)
    | false => rw [q] at h; exact noLs_of hn.2 h
def spLaw (K : PySem.W.Frag) : Sp := fun vs H Q _ => ∃ (a : Addr) (ns : List Int), vs = [.ref a] ∧ SqL K H a (ns.map V.int) ∧ ns.length ≤ 63 ∧ ∀ H', Q (.bl true) H'
theorem denL_ints {D : DP} {φ α : List Addr} {H : Hp} : ∀ (ns : List Int), DenL D φ α H (ns.map T.int) (ns.map V.int)
  | [] => rfl
  | n :: r => ⟨.int n, r.map V.int, rfl, rfl, denL_ints r⟩
def Tells (f : Fn) : Prop := ∀ ns : List Int, ns.length ≤ 63 → f [.lst (ns.map T.int)] [] (fun t _ => t = .bl true) (fun _ _ _ => False)
theorem law_of {D : DP} {P : Program} {w : World} {K : PySem.W.Frag} {mg : Str → Option Value} {base : Heap} {k : Nat} {fa : Addr} {fd : FuncData} {x : Str} {f : Fn} (hl : noLs K = true) (ht : Tells f)
    (F : FnOk P w K mg base (CX1 P w) k fa fd [x] (spN D 1 f)) : FnOk P w K mg base (CX1 P w) k fa fd [x] (spLaw K) := by
  refine F.imp ?_
  rintro vs H Q E ⟨a, ns, rfl, hs, hn, q⟩
  have r : Rd H a (.lst (ns.map V.int)) := by
    rcases hs with r | ⟨o, its, n, h1, h2, _⟩
    · exact r
    · exact absurd h2 (noLs_of hl h1)
  refine ⟨rfl, [], [], [.lst (ns.map T.int)], [], ⟨.ref a, [], rfl, ⟨a, _, rfl, by simp, by simp, r, denL_ints ns⟩, rfl⟩, MRel.nil D (by simp), _, _, ht ns hn, ?_, ?_⟩
  · rintro t μ rfl α' H' st m v d
    have d : v = .bl true := d
    rw [d]
    exact q H'
  · exact fun _ _ _ z => z.elim
theorem walk {l : PySem.W.OpenLaw} {q : Program} {loose : List Str} {XP : (Str → Option Value) → Heap → Prop} {YP : World → Heap → Prop} {d : DefRec} {K : Params → PySem.W.Frag} {x : Str} {k : Nat} (hk : k ≤ 40) (hn : l.most = some 63) (hdf : d.params.defaults = [])
    (hY : ∀ (w : World) (h : Heap), YP w h → (K w.params).In h)
    (F : ∀ (w : World) (mg : Str → Option Value) (fa : Addr) (h : Heap), (K w.params).In h → h.Ns mainGlobals mg → mg d.name = some (.ref fa) →
      ∃ fd : FuncData, (∀ (s : Shared) (u : Value), BindsTo s fd ⟨[u], []⟩ [(x, u)]) ∧ ∀ base : Heap, (K w.params).In base → base.Ns mainGlobals mg → FnOk l.prog w (K w.params) mg base (CX1 l.prog w) k fa fd [x] (spLaw (K w.params))) :
    PySem.W.WalkO q loose XP YP l.row.toRowW d [] (fun f vs => PySem.call f vs) :=
  L2.walk_of (n := 63) (k := k) (x := x) (CX := fun w => CX1 l.prog w) (sp := fun w => spLaw (K w.params)) hn (by decide) hdf (Room.mono (k := 40) ⟨rfl, by decide, by decide⟩ hk) hY F (fun _ _ a ns hl _ hS => ⟨a, ns, rfl, hS, hl, fun _ => rfl⟩) fun _ _ _ _ _ z => by
    obtain ⟨_, _, _, _, _, _, _, _, _, _, _, _, _, _, _, z⟩ := z
    exact z
def FLD : List Str := ["moments", "houses", "counts", "start", "turns", "holder", "lease", "until", "is_cut", "shape", "grants", "house", "begin", "end", "ahead", "stride", "keeper", "mark", "newest", "batches", "has_fallen", "clock", "kept", "common", "given", "now", "seats", "world", "line", "by"]
theorem FLD_nd : FLD.Nodup := by decide +kernel
structure Ads where
  xs : List (Nat × Addr)
  cs : List (Nat × Addr)
def mkD (K : PySem.W.Frag) (A : Ads) (clo : Nat → Addr → Option HO → List V → Prop) (tabs : Nat → Option (Addr × List Pos × Str) := fun _ => none) : DP := ⟨K, fun c => A.xs.lookup c, fun c => A.cs.lookup c, fun i => FLD[i]?, fun i j x h1 h2 => nodup_ix FLD_nd h1 h2, clo, tabs⟩
def cn (cls fld : List (Str × Nat)) (gs : List (Str × GM)) (N G cel own : List Str) (lam : Option (Nat × List Pos) := none) : Cn where
  N := N
  G := G
  calm := true
  gl := fun x => (gs.lookup x).getD .bad
  cls := cls
  fld := fld
  U := gs.map (·.1)
  cel := cel
  own := own
  lam := lam
def tys (A : Ads) : List (Nat × Value) := [(0, .type "NoneType"), (1, .type "bool"), (2, .type "int"), (3, .type "str"), (4, .type "tuple"), (5, .type "list"), (6, .type "dict")] ++ (A.xs.map fun p => (p.1, Value.ref p.2)) ++ A.cs.map fun p => (p.1, Value.ref p.2)
def clVal (K : PySem.W.Frag) (c : Str) : Option Value := match PySem.W.nsIn K mainGlobals c with
  | some (some v) => some v
  | some none => if c == ("__name__" : Str) then none else bootBuiltins c
  | none => none
def isCls : Value → Bool
  | .ref _ => true
  | .type _ => true
  | _ => false
def isC (o : Option (Option Value)) (s : String) : Bool := match o with
  | some (some (.builtin x)) => x == s
  | _ => false
theorem isC_of {o : Option (Option Value)} {s : String} (h : isC o s = true) : o = some (some (.builtin s)) := by
  unfold isC at h
  split at h
  · rw [beq_iff_eq.mp h]
  · cases h
def isN0 (o : Option (Option Value)) : Bool := match o with
  | some none => true
  | _ => false
theorem isN0_of {o : Option (Option Value)} (h : isN0 o = true) : o = some none := by
  unfold isN0 at h
  split at h
  · rfl
  · cases h
def isB (o : Option Bool) (b : Bool) : Bool := match o with | some c => c == b | none => false
theorem isB_of {o : Option Bool} {b : Bool} (h : isB o b = true) : o = some b := by
  cases o with
  | none => cases h
  | some c => have : (c == b) = true := h; rw [beq_iff_eq.mp this]
def clsB (K : PySem.W.Frag) (C : Addr) : Bool := isC (PySem.W.findIn K (.ref C) "__class__") "object.__class__" && isC (PySem.W.specialIn K (.builtin "object.__class__") "__get__") "getset_descriptor.__get__" && isB (PySem.W.takesIn K (.builtin "object.__class__")) true && isB (PySem.W.mroIn K C (.type "object")) true
def xclsB (K : PySem.W.Frag) (C : Addr) : Bool := clsB K C && isC (PySem.W.findIn K (.ref C) "__getattribute__") "BaseException.__getattribute__" && isN0 (PySem.W.findIn K (.ref C) "__getattr__") && isB (PySem.W.mroIn K C (.type "BaseException")) true && (PySem.W.clsIn K C).isSome
def oclsB (K : PySem.W.Frag) (C : Addr) : Bool := clsB K C && PySem.W.plainGet K C Str.empty && PySem.W.hasDictIn K C && PySem.W.plainOver K C && isC (PySem.W.findIn K (.ref C) "__setattr__") "object.__setattr__"
def chk (K : PySem.W.Frag) (A : Ads) (cls fld : List (Str × Nat)) : Bool :=
  cls.all (fun p => match clVal K p.1 with
    | some v => isCls v && (tys A).all (fun q => isB (PySem.W.kitOne K q.2 v) (isinN q.1 p.2)) && (Nat.ble 40 p.2 || (match v with | .ref C => A.xs.all (fun q => isB (PySem.W.exmOne K (.ref q.2) (.ref C)) (isinN q.1 p.2)) | _ => true))
    | none => false) &&
  A.xs.all (fun q => xclsB K q.2) && A.cs.all (fun q => oclsB K q.2 && fld.all (fun p => isN0 (PySem.W.findIn K (.ref q.2) p.1))) && fld.all (fun p => match FLD[p.2]? with | some x => x == p.1 | none => false)
theorem clVal_of {K : PySem.W.Frag} {h : Heap} {mg : Str → Option Value} {c : Str} {v : Value} (X : K.In h) (G : h.Ns mainGlobals mg) (e : clVal K c = some v) : ClValM mg c v ∧ ∀ u, ClValM mg c u → u = v := by
  unfold clVal at e
  split at e
  · rename_i v' q
    cases e
    have m := PySem.W.mg_of X G q
    refine ⟨.inl m, fun u z => ?_⟩
    rcases z with z | ⟨z, _⟩
    · rw [m] at z; cases z; rfl
    · rw [m] at z; cases z
  · rename_i q
    have m := PySem.W.mg_none_of X G q
    split at e
    · cases e
    · rename_i hn
      refine ⟨.inr ⟨m, e, fun z => hn (by rw [z]; rfl)⟩, fun u z => ?_⟩
      rcases z with z | ⟨_, z, _⟩
      · rw [m] at z; cases z
      · rw [e] at z; cases z; rfl
  · cases e
theorem lookup_in {α β : Type} [BEq α] [LawfulBEq α] {x : α} {v : β} : ∀ {l : List (α × β)}, l.lookup x = some v → (x, v) ∈ l
  | [], h => by cases h
  | (y, w) :: r, h => by
    rw [List.lookup_cons] at h
    cases q : x == y with
    | true => rw [q] at h; cases h; rw [beq_iff_eq.mp q]; exact List.mem_cons_self
    | false => rw [q] at h; exact List.mem_cons_of_mem _ (lookup_in h)
theorem lookup_some {α : Type} {x : Str} : ∀ {l : List (Str × α)}, x ∈ l.map (·.1) → ∃ v, l.lookup x = some v
  | [], h => by simp at h
  | (y, w) :: r, h => by
    rw [List.lookup_cons]
    cases q : x == y with
    | true => exact ⟨w, rfl⟩
    | false =>
      rcases List.mem_cons.mp h with z | z
      · have z : x = y := z
        rw [z] at q; simp at q
      · exact lookup_some z
section
variable {P : Program} {w : World} {K : PySem.W.Frag} {mg : Str → Option Value} {base : Heap} {A : Ads} {clo : Nat → Addr → Option HO → List V → Prop} {cls fld : List (Str × Nat)} {gs : List (Str × GM)} {N G cel own : List Str} {k : Nat} {lam : Option (Nat × List Pos)} {tabs : Nat → Option (Addr × List Pos × Str)}
theorem tys_of {t : Nat} {u : Value} (h : TyNm (mkD K A clo tabs) t u) : (t, u) ∈ tys A := by
  unfold tys
  rcases h with ⟨rfl, rfl⟩ | ⟨rfl, rfl⟩ | ⟨rfl, rfl⟩ | ⟨rfl, rfl⟩ | ⟨rfl, rfl⟩ | ⟨rfl, rfl⟩ | ⟨C, h, rfl⟩ | ⟨rfl, rfl⟩ | ⟨C, h, rfl⟩
  · simp
  · simp
  · simp
  · simp
  · simp
  · simp
  · exact List.mem_append_left _ (List.mem_append_right _ (List.mem_map.mpr ⟨(t, C), lookup_in h, rfl⟩))
  · simp
  · exact List.mem_append_right _ (List.mem_map.mpr ⟨(t, C), lookup_in h, rfl⟩)
def GsOk (P : Program) (w : World) (K : PySem.W.Frag) (mg : Str → Option Value) (base : Heap) (A : Ads) (clo : Nat → Addr → Option HO → List V → Prop) (k : Nat) (gs : List (Str × GM)) (tabs : Nat → Option (Addr × List Pos × Str) := fun _ => none) : Prop := ∀ p ∈ gs, GlOkM (mkD K A clo tabs) P w K mg base k p.1 p.2 ∧ (p.1 == ("__debug__" : Str)) = false
theorem GlOkM.mono {D : DP} {j k : Nat} {x : Str} {g : GM} (h : j ≤ k) (q : GlOkM D P w K mg base j x g) : GlOkM D P w K mg base k x g := by
  cases g with
  | fn f => obtain ⟨fa, a, fd, ps, kk, b, c, d, r⟩ := q; exact ⟨fa, a, fd, ps, kk, b, c, Nat.le_trans d h, r⟩
  | fnh nm f => obtain ⟨fa, a, fd, ps, kk, b, c, d, r⟩ := q; exact ⟨fa, a, fd, ps, kk, b, c, Nat.le_trans d h, r⟩
  | met c nm f => obtain ⟨C, fI, fd, ps, kk, a, b, c, d, e, f1, r⟩ := q; exact ⟨C, fI, fd, ps, kk, a, b, c, d, e, Nat.le_trans f1 h, r⟩
  | mk c z f => obtain ⟨C, fI, fd, ps, kk, a, b, c, d, e, r⟩ := q; exact ⟨C, fI, fd, ps, kk, a, b, c, d, Nat.le_trans e h, r⟩
  | xin c f nm fl => obtain ⟨C, HE, fI, fd, ps, kk, a1, a2, a3, a4, a5, a6, r⟩ := q; exact ⟨C, HE, fI, fd, ps, kk, a1, a2, a3, a4, a5, Nat.le_trans a6 h, r⟩
  | mkd c nm n f => obtain ⟨C, fI, fd, ps, kk, a, b, c, d, e, r⟩ := q; exact ⟨C, fI, fd, ps, kk, a, b, c, d, Nat.le_trans e h, r⟩
  | metd c nm n d f => obtain ⟨C, fI, fd, ps, kk, du, dv, a1, a2, a3, a4, a5, a6, a7, a8, r⟩ := q; exact ⟨C, fI, fd, ps, kk, du, dv, a1, a2, a3, a4, a5, a6, a7, Nat.le_trans a8 h, r⟩
  | kpr => exact ⟨fun t φ α H v hj d => let ⟨a, kk, h1, h2, h3⟩ := q.1 t φ α H v hj d; ⟨a, kk, h1, Nat.le_trans h2 h, h3⟩, q.2⟩
  | _ => exact q
theorem GsOk.mono {j k : Nat} (h : j ≤ k) (q : GsOk P w K mg base A clo j gs tabs) : GsOk P w K mg base A clo k gs tabs := fun p hp => ⟨(q p hp).1.mono h, (q p hp).2⟩
theorem GsOk.add {x : Str} {g : GM} (q : GsOk P w K mg base A clo k gs tabs) (h : GlOkM (mkD K A clo tabs) P w K mg base k x g) (hx : (x == ("__debug__" : Str)) = false) : GsOk P w K mg base A clo k ((x, g) :: gs) tabs := fun p hp => by
  rcases List.mem_cons.mp hp with rfl | z
  · exact ⟨h, hx⟩
  · exact q p z
def plainGs (bs : List Str) (xs : List (Str × Nat)) (ys : List (Str × Nat × Nat)) : List (Str × GM) := bs.map (fun x => (x, GM.none)) ++ xs.map (fun x => (x.1, GM.xcl x.2)) ++ ys.map (fun x => (x.1, GM.xcf x.2.1 x.2.2))
def atA (K : PySem.W.Frag) (A : Ads) (x : Str) (c : Nat) : Bool := match A.xs.lookup c, PySem.W.nsIn K mainGlobals x with
  | some C, some (some (.ref C')) => C == C'
  | _, _ => false
def chkGs (K : PySem.W.Frag) (A : Ads) (bs : List Str) (xs : List (Str × Nat)) (ys : List (Str × Nat × Nat)) : Bool :=
  bs.all (fun x => x != ("__debug__" : Str) && isN0 (PySem.W.nsIn K mainGlobals x)) &&
  xs.all (fun x => x.1 != ("__debug__" : Str) && atA K A x.1 x.2) && ys.all (fun x => x.1 != ("__debug__" : Str) && atA K A x.1 x.2.1)
theorem atA_of {x : Str} {c : Nat} (X : K.In base) (Gm : base.Ns mainGlobals mg) (h : atA K A x c = true) : ∃ C, A.xs.lookup c = some C ∧ mg x = some (.ref C) := by
  unfold atA at h
  split at h
  · rename_i C C' q1 q2
    have h : C = C' := beq_iff_eq.mp h
    subst h
    exact ⟨C, q1, PySem.W.mg_of X Gm q2⟩
  · cases h
def XOkL (K : PySem.W.Frag) (A : Ads) : List (Str × Nat) → Prop
  | [] => True
  | p :: r => (∃ C, A.xs.lookup p.2 = some C ∧ PySem.W.excIn K C veMro "ValueError.__new__" = true) ∧ XOkL K A r
theorem XOkL.at : ∀ {xs : List (Str × Nat)} {p : Str × Nat}, XOkL K A xs → p ∈ xs → ∀ C, A.xs.lookup p.2 = some C → PySem.W.excIn K C veMro "ValueError.__new__" = true
  | q :: r, p, h, hp, C, e => by
    rcases List.mem_cons.mp hp with rfl | z
    · obtain ⟨C', e', x⟩ := h.1
      rw [e'] at e; cases e; exact x
    · exact XOkL.at h.2 z C e
theorem plainGs_ok {bs : List Str} {xs : List (Str × Nat)} {ys : List (Str × Nat × Nat)} (X : K.In base) (Gm : base.Ns mainGlobals mg) (h : chkGs K A bs xs ys = true) (hX : XOkL K A xs) : GsOk P w K mg base A clo k (plainGs bs xs ys) tabs := by
  simp only [chkGs, Bool.and_eq_true, List.all_eq_true, bne_iff_ne, ne_eq] at h
  intro p hp
  rcases List.mem_append.mp hp with z | z
  · rcases List.mem_append.mp z with z | z
    · obtain ⟨x, hx, rfl⟩ := List.mem_map.mp z
      obtain ⟨h1, h2⟩ := h.1.1 x hx
      exact ⟨PySem.W.mg_none_of X Gm (isN0_of h2), beq_eq_false_iff_ne.mpr h1⟩
    · obtain ⟨x, hx, rfl⟩ := List.mem_map.mp z
      obtain ⟨h1, h2⟩ := h.1.2 x hx
      obtain ⟨C, q1, q2⟩ := atA_of X Gm h2
      exact ⟨⟨C, q1, q2, XOkL.at hX hx C q1⟩, beq_eq_false_iff_ne.mpr h1⟩
  · obtain ⟨x, hx, rfl⟩ := List.mem_map.mp z
    obtain ⟨h1, h2⟩ := h.2 x hx
    obtain ⟨C, q1, q2⟩ := atA_of X Gm h2
    exact ⟨⟨C, q1, q2⟩, beq_eq_false_iff_ne.mpr h1⟩
theorem md_of (X : K.In base) (Gm : base.Ns mainGlobals mg) (hc : chk K A cls fld = true) (q : GsOk P w K mg base A clo k gs tabs) : MdOk (mkD K A clo tabs) P w K mg base (cn cls fld gs N G cel own lam) k := by
  simp only [chk, Bool.and_eq_true, List.all_eq_true] at hc
  obtain ⟨⟨⟨c1, c2⟩, c3⟩, c4⟩ := hc
  have cb : ∀ {C}, clsB K C = true → PySem.W.findIn K (.ref C) "__class__" = some (some (.builtin "object.__class__")) ∧ PySem.W.specialIn K (.builtin "object.__class__") "__get__" = some (some (.builtin "getset_descriptor.__get__")) ∧ PySem.W.takesIn K (.builtin "object.__class__") = some true ∧ PySem.W.mroIn K C (.type "object") = some true := fun {C} h => by
    simp only [clsB, Bool.and_eq_true] at h
    exact ⟨isC_of h.1.1.1, isC_of h.1.1.2, isB_of h.1.2, isB_of h.2⟩
  have oc : ∀ c C, A.cs.lookup c = some C → OCls K C := fun c C h => by
    have h' := (c3 _ (lookup_in h)).1
    simp only [oclsB, Bool.and_eq_true] at h'
    obtain ⟨⟨⟨⟨h1, h2⟩, h3⟩, h4⟩, h5⟩ := h'
    obtain ⟨k1, k2, k3, k4⟩ := cb h1
    exact ⟨⟨h2, h3, h4, isC_of h5⟩, k1, k2, k3, k4⟩
  refine ⟨rfl, fun x hx => ?_, fun t x c hxc u v hu hv => ?_, fun c C x f hC hf => ?_, fun c C hC => ?_, oc, fun x c hxc => ?_, fun t x c hxc hlt Ct Cc hCt hCc => ?_⟩
  · obtain ⟨g, hg⟩ := lookup_some (l := gs) hx
    have := q _ (lookup_in hg)
    refine ⟨?_, this.2⟩
    show GlOkM _ P w K mg base k x ((gs.lookup x).getD .bad)
    rw [hg]
    exact this.1
  · have h' := c1 _ hxc
    dsimp only at h'
    split at h'
    · rename_i v' q'
      simp only [Bool.and_eq_true, List.all_eq_true] at h'
      have e := (clVal_of X Gm q').2 v hv
      subst e
      exact isB_of (h'.1.2 _ (tys_of hu))
    · cases h'
  · have h' := c4 _ hf
    dsimp only at h'
    refine ⟨?_, (oc c C hC).cl, isN0_of ((c3 _ (lookup_in hC)).2 _ hf)⟩
    split at h'
    · rename_i y hy
      show FLD[f]? = some x
      rw [hy, beq_iff_eq.mp h']
    · cases h'
  · have h' := c2 _ (lookup_in hC)
    simp only [xclsB, Bool.and_eq_true] at h'
    obtain ⟨⟨⟨⟨h1, h2⟩, h3⟩, h4⟩, h5⟩ := h'
    obtain ⟨k1, k2, k3, k4⟩ := cb h1
    exact ⟨isC_of h2, isN0_of h3, k1, k2, k3, k4, isB_of h4, h5⟩
  · have h' := c1 _ hxc
    dsimp only at h'
    split at h'
    · rename_i v q'
      simp only [Bool.and_eq_true] at h'
      have hcv := h'.1.1
      refine ⟨v, (match v with | .ref C => V.ref C | .type n => V.ty n | _ => V.non), (clVal_of X Gm q').1, ?_⟩
      cases v with
      | ref C => exact .inl ⟨C, rfl, rfl⟩
      | type n => exact .inr ⟨n, rfl, rfl⟩
      | _ => cases hcv
    · cases h'
  · have h' := c1 _ hxc
    dsimp only at h'
    split at h'
    · rename_i v q'
      simp only [Bool.and_eq_true, Bool.or_eq_true] at h'
      have e := (clVal_of X Gm q').2 (.ref Cc) (.inl hCc)
      subst e
      have h3 := h'.2.resolve_left (fun z => by have := Nat.le_of_ble_eq_true z; omega)
      simp only [List.all_eq_true] at h3
      exact isB_of (h3 _ (lookup_in hCt))
    · cases h'
end
end NH
end
section
set_option linter.all false
set_option maxRecDepth 100000
set_option maxHeartbeats 4000000
namespace NH
open PySem PySem.Spec PyProof.Rows L2
section
variable {X : Cx} {D : DP} {W : XW} {Γ : Cn} {k : Nat} {pins : List (Addr × Obj)} {s : Shared} {σ : St} {H : Hp} {φ α : List Addr} {τ : Sl} {μ : Mem} {pos : Pos}
end
end NH
end
section
set_option linter.all false
set_option maxRecDepth 100000
set_option maxHeartbeats 4000000
namespace NH
open PySem PySem.Spec PyProof.Rows L2
end NH
end
section
set_option linter.all false
set_option maxRecDepth 100000
set_option maxHeartbeats 4000000
namespace NH
open PySem PySem.Spec PyProof.Rows L2
section
variable {X : Cx} {D : DP} {W : XW} {Γ : Cn} {k : Nat} {pins : List (Addr × Obj)} {s : Shared} {σ : St} {H : Hp} {φ α : List Addr} {τ : Sl} {μ : Mem} {f g h : De} {a b c : Expr} {pos : Pos} {es : List Expr}
theorem den_strs : ∀ {ns : List Str}, DenL D φ α H (ns.map T.str) (ns.map V.str)
  | [] => rfl
  | n :: ns => ⟨V.str n, _, rfl, rfl, den_strs⟩
theorem strsOf_den : ∀ {ts : List T} {ss : List Str} {vs : List V}, strsOf ts = some ss → DenL D φ α H ts vs → vs = ss.map V.str
  | [], ss, vs, h, l => by
    simp [strsOf] at h; subst h; exact l
  | .str x :: r, ss, vs, h, l => by
    obtain ⟨v, q, rfl, d, l⟩ := l
    simp only [strsOf, Option.map_eq_some_iff] at h
    obtain ⟨zs, h, rfl⟩ := h
    cases d
    rw [strsOf_den h l]; rfl
end
end NH
end
section
set_option linter.all false
set_option maxRecDepth 100000
set_option maxHeartbeats 4000000
namespace NH
open PySem PySem.Spec PyProof.Rows L2
abbrev storeMk (c : Nat) (g : Fn) (ts : List T) (μ : Mem) : RE T := fun K Z => g (.mut μ.length :: ts) (μ ++ [.obj c []]) (fun r μ1 => r = .non ∧ K (.mut μ.length) μ1) Z
noncomputable abbrev eMkL (c : Nat) (g : Fn) (fs : List De) : De := fun τ μ => (evs fs τ μ).bind (storeMk c g)
section
variable {X : Cx} {D : DP} {W : XW} {Γ : Cn} {k : Nat} {pins : List (Addr × Obj)} {s : Shared} {σ : St} {H : Hp} {φ α : List Addr} {τ : Sl} {μ : Mem} {fs : List De} {a b c : Expr} {pos : Pos} {es : List Expr}
end
section
variable {X : Cx} {D : DP} {W : XW} {Γ : Cn} {k : Nat} {pins : List (Addr × Obj)} {s : Shared} {σ : St} {H : Hp} {φ α : List Addr} {τ : Sl} {μ : Mem} {f : De} {a tg : Expr} {pos : Pos}
end
end NH
end
section
set_option linter.all false
set_option maxRecDepth 100000
set_option maxHeartbeats 4000000
namespace NH
open PySem PySem.Spec PyProof.Rows L2
section
variable {X : Cx} {pins : List (Addr × Obj)} {s : Shared} {σ : St} {H : Hp}
theorem inv_trackT {x : Addr} {o : HO} (I : Inv X pins σ H s) (ox : XOk X H x) (hp : ∀ p ∈ pins, p.1 ≠ x) (hx : ObjOk X.prog X.w (upd H x o) s.heap x o) : Inv X pins σ (upd H x o) s := by
  have ne : ∀ b, H b ≠ none → b ≠ x := fun b h z => h (by rw [z]; exact ox.free)
  refine ⟨I.ok, I.os, I.bare, ⟨I.base.keep, I.base.slot, fun b o e n hx' => ?_, I.base.there, fun b xs e => ?_, fun b o u e => ?_, fun b ps e => ?_⟩, I.loc, I.cell, ?_, fun y c e => ?_, fun p hp' => ?_, fun b ob e => ?_, I.len⟩
  · have : b ≠ x := fun z => by
      rcases ox.new with q | q
      · exact hx' (by rw [z]; exact q)
      · rw [← z, e] at q; cases q
    rw [upd_ne this]; exact I.base.free b o e n hx'
  · have q := I.base.tups b xs e
    rw [upd_ne (ne b (by rw [q]; simp))]; exact q
  · have q := I.base.frzs b o u e
    rw [upd_ne (ne b (by rw [q]; simp))]; exact q
  · obtain ⟨more, q⟩ := I.base.tbls b ps e
    exact ⟨more, by rw [upd_ne (ne b (by rw [q]; simp))]; exact q⟩
  · rw [upd_ne (Ne.symm ox.loc)]; exact I.free
  · rw [upd_ne (ox.cel y c e)]; exact I.freeC y c e
  · obtain ⟨e, n, r⟩ := I.pin p hp'
    have : p.1 ≠ x := (List.mem_append.mp hp').elim (ox.pin p) (hp p)
    exact ⟨e, by rw [upd_ne this]; exact n, r⟩
  · by_cases z : b = x
    · subst z
      rw [upd_same] at e
      cases e
      exact hx
    · rw [upd_ne z] at e
      exact (I.hok b ob e).stay (fun _ _ _ q => q) (fun c q => by
        by_cases w : c = x
        · rw [w, ox.free] at q; cases q
        · rw [upd_ne w]; exact q) fun c _ q => by
        by_cases w : c = x
        · rw [w, ox.free] at q; cases q
        · rw [upd_ne w]; exact q
end
section
variable {X : Cx} {D : DP} {W : XW} {Γ : Cn} {k : Nat} {pins : List (Addr × Obj)} {s : Shared} {σ : St} {H : Hp} {φ α : List Addr} {τ : Sl} {μ : Mem} {f : De} {a tg : Expr} {pos : Pos}
end
end NH
end
section
set_option linter.all false
set_option maxRecDepth 100000
set_option maxHeartbeats 4000000
namespace NH
open PySem PySem.Spec PyProof.Rows L2
section
variable {X : Cx} {D : DP} {W : XW} {Γ : Cn} {k : Nat} {pins : List (Addr × Obj)} {s : Shared} {σ : St} {H : Hp} {φ α : List Addr} {τ : Sl} {μ : Mem} {f : De} {g : Dp} {a : Expr} {pos p2 : Pos}
end
end NH
end
section
set_option linter.all false
set_option maxRecDepth 100000
namespace L2
open PySem PySem.Spec PyProof.Rows
section
variable {κ : Type} [DecidableEq κ]
end
section
variable {P : Program} {w : World} {H : Hp} {h : Heap} {a : Addr}
end
section
variable {X : Cx} {pins : List (Addr × Obj)} {σ : St} {H : Hp} {s : Shared} {a : Addr} {y v : V} {u r : Value} {o : Option V} {A : Around} {E : Value → Shared → Prop}
end
section
variable {X : Cx} {pins : List (Addr × Obj)} {σ : St} {H : Hp} {s : Shared} {a : Addr} {kvs : List (Key × V)} {k : Key} {u : Value} {A : Around} {E : Value → Shared → Prop}
end
section
variable {X : Cx} {o i e value : Expr} {pos pos' tpos : Pos} {td ty tv : TE}
end
section
variable {X : Cx} {pos : Pos}
end
section
variable {X : Cx} {pins : List (Addr × Obj)} {σ : St} {H : Hp} {s : Shared} {a : Addr} {y d : V} {u r : Value} {o : Option V} {A : Around} {E : Value → Shared → Prop}
end
section
variable {X : Cx} {o e f : Expr} {apos cpos : Pos} {td ty tx : TE}
end
section
variable {X : Cx} {pins : List (Addr × Obj)} {σ : St} {H : Hp} {s : Shared} {a : Addr} {kvs : List (Key × V)} {A : Around} {E : Value → Shared → Prop}
end
section
variable {X : Cx} {pins : List (Addr × Obj)} {σ : St} {H : Hp} {s : Shared} {a : Addr} {y : V} {u : Value} {A : Around} {E : Value → Shared → Prop}
end
end L2
end
section
set_option linter.all false
set_option maxRecDepth 100000
set_option maxHeartbeats 4000000
namespace NH
open PySem PySem.Spec PyProof.Rows L2
abbrev eDicT : De := fun _ μ => .ok (.dic []) μ
section
variable {X : Cx} {D : DP} {W : XW} {Γ : Cn} {k : Nat} {pins : List (Addr × Obj)} {s : Shared} {σ : St} {H : Hp} {φ α : List Addr} {τ : Sl} {μ : Mem} {f g : De} {a b : Expr} {pos : Pos}
end
end NH
end
section
set_option linter.all false
set_option maxRecDepth 100000
namespace NH.P
open PySem L2 NH
@[reducible] def b_is_whole : List Ds := [(sRet (eAnd (eIsi [2] (eV 0)) (eNot (eIsi [1] (eV 0)))))]
def is_whole : Fn := fnW 1 0 b_is_whole
@[reducible] def b_is_holder : List Ds := [(sIf (tOr (tNot (tE (eIsi [3] (eV 0)))) (tNot (tE (eCh (eC (.int 1)) [(.LtE, (eB1 lenT (eV 0))), (.LtE, (eC (.int 8)))])))) [(sRet (eC (.bl false)))] []), (sRet (eB1 allT (eComp 1 [] (.one 0) (iE (eV 0)) [] (eCmp .In (eV 0) (eC (.str "abcdefghijklmnopqrstuvwxyz"))))))]
def is_holder : Fn := fnW 1 0 b_is_holder
end NH.P
end
section
set_option linter.all false
set_option maxRecDepth 100000
namespace NH.P
open PySem L2 NH
@[reducible] def b_is_size : List Ds := [(sRet (eAnd (eCall is_whole [(eV 0)]) (eCmp .GtE (eV 0) (eC (.int 1)))))]
def is_size : Fn := fnW 1 0 b_is_size
@[reducible] def b_is_below : List Ds := [(sRet (eAnd (eCall is_whole [(eV 0)]) (eCh (eC (.int 0)) [(.LtE, (eV 0)), (.Lt, (eV 1))])))]
def is_below : Fn := fnW 2 0 b_is_below
@[reducible] def b_Shape_init : List Ds := [(sIf (tNot (tAnd (tE (eCall is_size [(eV 1)])) (tAnd (tE (eCall is_size [(eV 2)])) (tE (eCall is_size [(eV 3)]))))) [(sRaise 12 [(eC (.str "a shape has three whole numbers from 1 on"))])] []), (sFld (eV 0) 0 (eV 1)), (sFld (eV 0) 1 (eV 2)), (sFld (eV 0) 2 (eV 3))]
def Shape_init : Fn := fnW 4 0 b_Shape_init
@[reducible] def b_names_in : List Ds := [(sRet (eBin .Mult (eBin .Mult (eFld (eV 0) 0) (eFld (eV 0) 1)) (eFld (eV 0) 2)))]
def names_in : Fn := fnW 1 0 b_names_in
@[reducible] def b_is_name : List Ds := [(sRet (eCall is_below [(eV 1), (eCall names_in [(eV 0)])]))]
def is_name : Fn := fnW 2 0 b_is_name
@[reducible] def b_check_name : List Ds := [(sIf (tNot (tE (eCall is_name [(eV 0), (eV 1)]))) [(sRaise 13 [(eC (.str "no name of the shape"))])] [])]
def check_name : Fn := fnW 2 0 b_check_name
@[reducible] def b_length_for : List Ds := [(sSet 1 (eC (.int 1))), (sSet 2 (eC (.int 32))), (sWhile (tE (eCmp .Lt (eV 2) (eV 0))) [(sSet 2 (eBin .Mult (eV 2) (eC (.int 32)))), (sSet 1 (eBin .Add (eV 1) (eC (.int 1))))]), (sRet (eV 1))]
def length_for : Fn := fnW 1 2 b_length_for
@[reducible] def b_word_of : List Ds := [(sSet 2 (eLay [])), (sSet 3 (eV 0)), (sFor (.one 4) (iRng (eV 1)) [(sExpr (eApp (eV 2) (eIx (eC (.str "0123456789abcdefghjkmnpqrstvwxyz")) (eBin .Mod (eV 3) (eC (.int 32)))))), (sSet 3 (eBin .FloorDiv (eV 3) (eC (.int 32))))]), (sRet (eB1 (joinRT "") (eV 2)))]
def word_of : Fn := fnW 2 3 b_word_of
@[reducible] def b_width : List Ds := [(sRet (eCall length_for [(eCall names_in [(eV 0)])]))]
def width : Fn := fnW 1 0 b_width
@[reducible] def b_show_name : List Ds := [(sExpr (eCall check_name [(eV 0), (eV 1)])), (sRet (eCall (pureFn word_of) [(eV 1), (eCall width [(eV 0)])]))]
def show_name : Fn := fnW 2 0 b_show_name
@[reducible] def b_l_cell_at : List Ds := [(sIf (tE (eCmp .Lt (eV 1) (eB1 lenT (eV 0)))) [(sRet (eIx (eV 0) (eV 1)))] []), (sRet (eC (.int 0)))]
def l_cell_at : Fn := fnW 2 0 b_l_cell_at
@[reducible] def b_l_begin : List Ds := [(sRet (eLay [(eBin .Mult (eBin .FloorDiv (eV 0) (eC (.int 2))) (eBin .Sub (eC (.int 1)) (eBin .Mod (eV 0) (eC (.int 2))))), (eBin .Mod (eV 0) (eC (.int 2147483647))), (eC (.int 0))]))]
def l_begin : Fn := fnW 1 0 b_l_begin
@[reducible] def b_l_next : List Ds := [(sIf (tE (eCmp .Gt (eIx (eV 0) (eC (.int 0))) (eC (.int 0)))) [(sSet 2 (eBin .Mod (eIx (eV 0) (eC (.int 0))) (eV 1))), (sPut (eV 0) (eC (.int 0)) (eBin .FloorDiv (eIx (eV 0) (eC (.int 0))) (eV 1))), (sRet (eV 2))] []), (sPut (eV 0) (eC (.int 2)) (eBin .Add (eIx (eV 0) (eC (.int 2))) (eC (.int 1)))), (sSet 3 (eBin .Mod (eBin .Mult (eBin .Add (eBin .Add (eIx (eV 0) (eC (.int 1))) (eBin .Mult (eC (.int 7919)) (eIx (eV 0) (eC (.int 2))))) (eC (.int 1))) (eC (.int 48271))) (eC (.int 2147483647)))), (sSet 3 (eBin .Mod (eBin .Mult (eV 3) (eBin .Add (eBin .FloorDiv (eV 3) (eC (.int 1009))) (eC (.int 69621)))) (eC (.int 2147483647)))), (sSet 3 (eBin .Mod (eBin .Mult (eV 3) (eBin .Add (eBin .FloorDiv (eV 3) (eC (.int 2003))) (eC (.int 40692)))) (eC (.int 2147483399)))), (sRet (eBin .Mod (eBin .FloorDiv (eV 3) (eC (.int 7))) (eV 1)))]
def l_next : Fn := fnW 2 2 b_l_next
@[reducible] def b_l_big : List Ds := [(sSet 1 (eBin .Add (eBin .Mult (eCall l_next [(eV 0), (eBin .Pow (eC (.int 10)) (eC (.int 6)))]) (eBin .Pow (eC (.int 10)) (eC (.int 6)))) (eCall l_next [(eV 0), (eBin .Pow (eC (.int 10)) (eC (.int 6)))]))), (sRet (eIx (eLst [(eCall l_next [(eV 0), (eC (.int 40))]), (eCall l_next [(eV 0), (eBin .Pow (eC (.int 10)) (eC (.int 6)))]), (eV 1)]) (eCall l_next [(eV 0), (eC (.int 3))])))]
def l_big : Fn := fnW 1 1 b_l_big
@[reducible] def b_l_shape : List Ds := [(sSet 1 (eLst [(eBin .Add (eC (.int 1)) (eCall l_big [(eV 0)])), (eBin .Add (eC (.int 1)) (eCall l_big [(eV 0)])), (eBin .Add (eC (.int 1)) (eCall l_big [(eV 0)]))])), (sIf (tE (eCmp .Eq (eCall l_next [(eV 0), (eC (.int 5))]) (eC (.int 0)))) [(sSet 1 (eLst [(eIx (eLst [(eC (.int 1)), (eC (.int 32)), (eC (.int 1024)), (eC (.int 32768))]) (eCall l_next [(eV 0), (eC (.int 4))])), (eIx (eLst [(eC (.int 1)), (eC (.int 32))]) (eCall l_next [(eV 0), (eC (.int 2))])), (eC (.int 1))]))] []), (sRet (eV 1))]
def l_shape : Fn := fnW 1 1 b_l_shape
@[reducible] def b_l_name : List Ds := [(sSet 2 (eBin .Mult (eBin .Mult (eIx (eV 1) (eC (.int 0))) (eIx (eV 1) (eC (.int 1)))) (eIx (eV 1) (eC (.int 2))))), (sSet 3 (eCall l_next [(eV 0), (eC (.int 5))])), (sIf (tE (eCmp .Lt (eV 3) (eC (.int 2)))) [(sRet (eIx (eLst [(eC (.int 0)), (eBin .Sub (eV 2) (eC (.int 1)))]) (eV 3)))] []), (sRet (eBin .Mod (eBin .Add (eBin .Add (eBin .Mult (eCall l_big [(eV 0)]) (eBin .Pow (eC (.int 10)) (eC (.int 24)))) (eBin .Mult (eCall l_big [(eV 0)]) (eBin .Pow (eC (.int 10)) (eC (.int 12))))) (eCall l_big [(eV 0)])) (eV 2)))]
def l_name : Fn := fnW 2 2 b_l_name
end NH.P
end
section
set_option linter.all false
set_option maxRecDepth 100000
namespace NH.P
open PySem L2 NH
@[reducible] def b_is_entry : List Ds := [(sIf (tOr (tNot (tE (eIsi [4] (eV 1)))) (tE (eCmp .NotEq (eB1 lenT (eV 1)) (eC (.int 2))))) [(sRet (eC (.bl false)))] []), (sRet (eAnd (eCall is_holder [(eIx (eV 1) (eC (.int 0)))]) (eCall is_name [(eV 0), (eIx (eV 1) (eC (.int 1)))])))]
def is_entry : Fn := fnW 2 0 b_is_entry
@[reducible] def b_check_book : List Ds := [(sIf (tOr (tNot (tE (eIsi [5] (eV 1)))) (tNot (tE (eB1 allT (eComp 1 [0] (.one 0) (iE (eV 1)) [] (eCall is_entry [(eV 1), (eV 0)])))))) [(sRaise 13 [(eC (.str "no list of holders and names of the shape"))])] [])]
def check_book : Fn := fnW 2 0 b_check_book
end NH.P
end
section
set_option linter.all false
set_option maxRecDepth 100000
set_option maxHeartbeats 4000000
namespace NH
open PySem PySem.Spec PyProof.Rows L2
abbrev sSt : Ds := fun _ _ => Out.st
def rsAny : SR := fun _ _ _ => some sSt
theorem rsAny_ok {D : DP} : SOk D rsAny := by
  intro r H X W Γ k e d C h
  cases h
  rintro pins s σ H E I ⟨φ, α, τ, μ, sr, mr, Q, q, _⟩
  exact q.elim
section
variable {X : Cx} {D : DP} {W : XW} {Γ : Cn} {k : Nat} {pins : List (Addr × Obj)} {s : Shared} {σ : St} {H : Hp} {φ α : List Addr} {τ : Sl} {μ : Mem} {f g h : De} {a b c : Expr} {pos : Pos} {es : List Expr}
abbrev eM1T (c : Str → Str → Prop) (r : Str → Str → T) (o f : De) : De := fun τ μ => (o τ μ).bind fun ot μ1 => match ot with
  | .str x => (f τ μ1).bind fun t μ2 => match t with
    | .str y => .grd (c x y) (.ok (r x y) μ2)
    | _ => .st
  | _ => .st
abbrev splitC (x y : Str) : Prop := x.length ≤ room ∧ (y.length == 0) = false
abbrev splitT (x y : Str) : T := .lst ((Txt.split x y).map T.str)
def M1R (X : Cx) (D : DP) (id : String) (c : Str → Str → Prop) (r : Str → Str → T) : Prop :=
  ∀ (pins : List (Addr × Obj)) (s : Shared) (σ : St) (H : Hp) (φ α : List Addr) (μ : Mem) (x y : Str) (t u : Tok) (Q : VK), Inv X pins σ H s → MRel D φ α H μ → c x y → (∀ v H', Same H H' → Den D φ α H' (r x y) v → Q v H') →
    wpAny (model X.prog X.w) X.A (call (.builtin id) [.str x t, .str y u]) (EP X pins σ Q) X.xe s
theorem se_m1t {o : Expr} {pa pc : Pos} {go : De} {nm : Str} {id : String} {cc : Str → Str → Prop} {rr : Str → Str → T} (slot : Slot "str" nm id) (hty : typeOf (.builtin id) = pure (.type "method_descriptor")) (hM : M1R X D id cc rr) (hp : plainOb o = true) (hs : noStar a = true) (hline : (pa.endLine == pc.line) = true) (ho : PE X o (rdE D W go)) (ha : PE X a (rdE D W f)) :
    PE X (.Call (.Attribute o nm pa) [a] [] pc) (rdE D W (eM1T cc rr go f)) := by
  have hb : starEach [a] X.env = [(false, eval a X.env)] := noStar_of hs
  have mt : MtR X id (fun x vs H Q => ∃ i j φ α μ, x = .str i ∧ vs = [.str j] ∧ MRel D φ α H μ ∧ cc i j ∧ ∀ v H', Same H H' → Den D φ α H' (rr i j) v → Q v H') := by
    intro pins s σ H x vs v us Q I rx rv h
    obtain ⟨i, j, φ, α, μ, rfl, rfl, mr, hc, h⟩ := h
    obtain ⟨t0, rfl⟩ := rx
    obtain ⟨u, rfl, t1, rfl⟩ := rv.one
    exact hM pins s σ H φ α μ i j t0 t1 Q I mr hc h
  refine PE.mono (pe_bm PySem.F.plainAttrs_str slot hty mt ho (pa_cons ha pa_nil (noStar_of hs)) (base_of hp) (by rw [hb]; rfl) hline (noStar_of hs) rfl) ?_
  rintro σ H Q ⟨φ, α, τ, μ, sr, mr, p⟩
  refine ⟨φ, α, τ, μ, sr, mr, p.bind.mono fun ot μ1 α1 H1 st1 m1 q ov dv => ?_⟩
  split at q
  case h_2 => exact q.elim
  have dv : ov = .str _ := dv
  subst dv
  refine ⟨rfl, φ, α1, τ, μ1, sr.step st1, m1, q.bind.mono fun t μ2 α2 H2 st2 m2 q2 v d => ?_⟩
  split at q2
  case h_2 => exact q2.elim
  obtain ⟨hc, q2⟩ := q2.grd
  have d : v = .str _ := d
  subst d
  exact ⟨_, _, φ, α2, μ2, rfl, rfl, m2, hc, fun w H' sm dw => q2.fresh m2 sm dw⟩
theorem vals_strV : ∀ (l : List (Str × Tok)), Vals ((l.map (·.1)).map V.str) (strValues l)
  | [] => .nil
  | (x, t) :: r => .cons ⟨t, rfl⟩ (vals_strV r)
open Builtin Builtin.Str in
theorem split_new {A : Around} {P : Program} {w : World} {E : Value → Shared → Prop} {x y : Str} {t u : Tok} {Q : Value → Shared → Prop} (hy : (y.length == 0) = false) (hsz : x.length + 2 ≤ sizeLine)
    (h : ∀ l tk, l.map (·.1) = Txt.split x y → l.length ≤ sizeLine → Q (.ref s.heap.objs.size) { s with heap := s.heap.push { cls := .type "list", data := .seq (strValues l).toArray }, toks := tk }) : wpAny (model P w) A (call (.builtin "str.split") [.str x t, .str y u]) Q E s := by
  have ho := StrLaws.occ_length_le x y 0 x.length (x.length + 1)
  have hn : (partsBetween x (occurrences x y 0 x.length (x.length + 1)) y.length).length ≤ sizeLine := by
    rw [length_partsBetween]
    omega
  have one : ∀ z : Str × Tok, [z].length ≤ sizeLine := fun z => by show 1 ≤ sizeLine; decide
  by_cases h1 : (decide (x.length < y.length) || decide (strKind x < strKind y)) = true
  · refine call_meets (F.slot_str_split) (typeIs_str s x t) (F.entry_str_split) (F.args_str_split_2 _ _) (meets_str_split_cannot_occur x y t u h1) ?_
    exact h [(x, t)] s.toks (if_pos h1).symm (one _)
  · have h1 := Bool.eq_false_iff.mpr h1
    by_cases hf : (occurrences x y 0 x.length (x.length + 1)).isEmpty = true
    · refine call_meets (F.slot_str_split) (typeIs_str s x t) (F.entry_str_split) (F.args_str_split_2 _ _) (meets_str_split_not_found x y t u h1 hy hf) ?_
      exact h [(x, t)] s.toks ((if_neg (ne_true_of_eq_false h1)).trans (if_pos hf)).symm (one _)
    · have hf := Bool.eq_false_iff.mpr hf
      refine call_meets (F.slot_str_split) (typeIs_str s x t) (F.entry_str_split) (F.args_str_split_2 _ _) (meets_str_split_sep x y t u h1 hy hf (by omega) hn) ?_
      have e : (numbered s.toks (partsBetween x (occurrences x y 0 x.length (x.length + 1)) y.length)).map (·.1) = Txt.split x y := (numbered_texts s.toks (partsBetween x (occurrences x y 0 x.length (x.length + 1)) y.length)).trans ((if_neg (ne_true_of_eq_false h1)).trans (if_neg (ne_true_of_eq_false hf))).symm
      have k := h (numbered s.toks _) (s.toks + (partsBetween x (occurrences x y 0 x.length (x.length + 1)) y.length).length) e (by
        have := congrArg List.length (numbered_texts s.toks (partsBetween x (occurrences x y 0 x.length (x.length + 1)) y.length))
        rw [List.length_map] at this
        omega)
      rw [← strsFrom_eq] at k
      exact k
theorem m_split : M1R X D "str.split" splitC splitT := by
  intro pins s σ H φ α μ x y t u Q I mr hc h
  refine split_new hc.2 (Nat.le_trans (Nat.add_le_add_right hc.1 2) (by unfold room; decide)) fun l tk hl hz => ?_
  have hp : H s.heap.objs.size = none := I.hok.fresh (Nat.le_refl _)
  refine ⟨.ref _, upd H s.heap.objs.size (.lst ((l.map (·.1)).map V.str)), I.laid (t' := tk) (fun b u e => Heap.get?_push_of_some _ e) (Nat.le_refl _) ⟨by simpa using hz, _, 0, vals_strV l, Heap.get?_push_size _ rfl⟩, rfl, h _ _ (same_upd hp) ?_⟩
  show Den D φ α _ (.lst ((Txt.split x y).map T.str)) _
  rw [← hl]
  exact ⟨_, _, rfl, fresh_phi mr hp, fresh_out mr hp, .inl upd_same, den_strs⟩
def rSplit : ER := rM1 "split" (eM1T splitC splitT)
theorem rSplit_ok {D : DP} : EOk D rSplit := rM1_ok fun C hp hs hl ho ha => se_m1t PySem.F.slot_str_split PySem.F.type_str_split m_split hp hs hl ho ha
end
end NH
end
section
set_option linter.all false
set_option maxRecDepth 100000
set_option maxHeartbeats 4000000
namespace NH
open PySem PySem.Spec PyProof.Rows L2
section
variable {P : Program} {w : World} {K : PySem.W.Frag} {mg : Str → Option Value} {base : Heap} {D : DP} {Γ : Cn} {k n : Nat}
end
section
variable {X : Cx} {D : DP} {W : XW} {Γ : Cn} {k : Nat} {pins : List (Addr × Obj)} {s : Shared} {σ : St} {H : Hp} {φ α : List Addr} {τ : Sl} {μ : Mem} {fs : List De} {a b c : Expr} {pos : Pos} {es : List Expr}
end
end NH
end
section
set_option linter.all false
set_option maxRecDepth 100000
set_option maxHeartbeats 400000
namespace NH
open PySem PySem.Spec PyProof.Rows L2
section
variable {prog : Program} {w : World} {A : Around} {E : Value → Shared → Prop} {s : Shared} {l I S : Addr} {vs : List Value} {R : Result → Shared → Prop} {Q : Value → Shared → Prop}
end
section
variable {X : Cx} {D : DP} {W : XW} {Γ : Cn} {k : Nat} {pins : List (Addr × Obj)} {s : Shared} {σ : St} {H : Hp} {φ α : List Addr} {τ : Sl} {μ : Mem}
end
end NH
end
section
set_option linter.all false
set_option maxRecDepth 100000
set_option maxHeartbeats 1000000
namespace NH
open PySem PySem.Spec PyProof.Rows L2
section
variable {X : Cx} {D : DP} {W : XW} {Γ : Cn} {k : Nat} {pins : List (Addr × Obj)} {s : Shared} {σ : St} {H : Hp} {φ α : List Addr} {τ : Sl} {μ : Mem}
end
section
variable {X : Cx} {D : DP} {W : XW} {Γ : Cn} {k n : Nat}
end
end NH
end
section
set_option linter.all false
set_option maxRecDepth 100000
set_option maxHeartbeats 1000000
namespace NH
open PySem PySem.Spec PyProof.Rows L2
section
variable {prog : Program} {w : World} {A : Around} {E : Value → Shared → Prop} {s : Shared} {a : Addr} {vs : List Value} {kz : List Int} {P : PySem.Fin → Shared → Prop} {J : Shared → Prop} {f : Value} {z0 : Nat}
end
end NH
end
section
set_option linter.all false
set_option maxRecDepth 100000
set_option maxHeartbeats 1000000
namespace NH
open PySem PySem.Spec PyProof.Rows L2
section
variable {X : Cx} {D : DP} {W : XW} {Γ : Cn} {k n : Nat} {pins : List (Addr × Obj)} {s : Shared} {σ : St} {H : Hp} {φ α : List Addr} {τ : Sl} {μ : Mem}
end
end NH
end
section
set_option linter.all false
set_option maxRecDepth 100000
set_option maxHeartbeats 1000000
namespace NH
open PySem PySem.Spec PyProof.Rows L2
end NH
end
section
set_option linter.all false
set_option maxRecDepth 100000
set_option maxHeartbeats 1000000
namespace NH
open PySem PySem.Spec PyProof.Rows L2
section
variable {X : Cx} {D : DP} {W : XW} {Γ : Cn} {k : Nat} {pins : List (Addr × Obj)} {s : Shared} {σ : St} {H : Hp} {φ α : List Addr} {τ : Sl} {μ : Mem} {f g : De} {a b : Expr} {pos : Pos}
end
end NH
end
section
set_option linter.all false
set_option maxRecDepth 100000
set_option maxHeartbeats 1000000
namespace NH
open PySem PySem.Spec PyProof.Rows L2
section
variable {X : Cx} {D : DP} {W : XW} {Γ : Cn} {k : Nat} {pins : List (Addr × Obj)} {s : Shared} {σ : St} {H : Hp} {φ α : List Addr} {τ : Sl} {μ : Mem} {f g : De} {a b : Expr} {pos : Pos}
end
end NH
end
section
set_option linter.all false
set_option maxRecDepth 100000
set_option maxHeartbeats 4000000
namespace NH
open PySem PySem.Spec PyProof.Rows L2
section
variable {X : Cx} {D : DP} {W : XW} {Γ : Cn} {k : Nat} {pins : List (Addr × Obj)} {s : Shared} {σ : St} {H : Hp} {φ α : List Addr} {τ : Sl} {μ : Mem} {f g : De} {a b tg : Expr} {pos : Pos}
end
end NH
end
section
set_option linter.all false
set_option maxRecDepth 100000
set_option maxHeartbeats 1000000
namespace NH
open PySem PySem.Spec PyProof.Rows L2
section
variable {X : Cx} {D : DP} {W : XW} {Γ : Cn} {k : Nat} {pins : List (Addr × Obj)} {s : Shared} {σ : St} {H : Hp} {φ α : List Addr} {τ : Sl} {μ : Mem} {f g : De} {a b : Expr} {pos : Pos}
end
end NH
end
section
set_option linter.all false
set_option maxRecDepth 100000
set_option maxHeartbeats 1000000
namespace NH
open PySem PySem.Spec PyProof.Rows L2
section
variable {X : Cx} {D : DP} {W : XW} {Γ : Cn} {k : Nat} {pins : List (Addr × Obj)} {s : Shared} {σ : St} {H : Hp} {φ α : List Addr} {τ : Sl} {μ : Mem} {f g : De} {a b : Expr} {pos : Pos}
end
end NH
end
section
set_option linter.all false
set_option maxRecDepth 100000
set_option maxHeartbeats 1000000
namespace NH
open PySem PySem.Spec PyProof.Rows L2
section
variable {X : Cx} {D : DP} {W : XW} {Γ : Cn} {k : Nat} {pins : List (Addr × Obj)} {s : Shared} {σ : St} {H : Hp} {φ α : List Addr} {τ : Sl} {μ : Mem} {f g : De} {a b : Expr} {pos : Pos}
end
end NH
end
section
set_option linter.all false
set_option maxRecDepth 100000
set_option maxHeartbeats 4000000
namespace NH
open PySem PySem.Spec PyProof.Rows L2
section
variable {prog : Program} {w : World} {A : Around} {E : Value → Shared → Prop} {h : Heap} {g : Array GenState} {d : Drawn} {t : Nat} {os : OsState}
variable {nm q : Str} {C N : Addr} {bs bm bmB : List Value} {hdct : Bool} {sn : List Str} {sub : List Value} {ab : Bool} {col : Option Bool} {dd : Option Addr} {k0 k1 k2 k3 k5 : Option Value} {B newId initId : String}
theorem made_init (F : ExcBaseFacts B newId initId bmB) (T0 : OwnTail h bmB bm) {mN : Str → Option Value} {us : List Value} {fI : Addr} {oI : Obj} {Q : Fin → Shared → Prop}
    (gC : h.get? C = some (excClassObj nm q C N bs bm hdct sn sub ab col dd k0 k1 k2 k3 k5 newId)) (gN : h.Ns N mN) (gI : mN "__init__" = some (.ref fI)) (gf : h.get? fI = some oI) (gc : oI.cls = .type "function")
    (go : ∀ h1 x, Heap.MadeExcOf h h1 x (.ref C) us → wpAny (model prog w) A (call (.ref fI) (.ref x :: us)) (fun r s1 => r = .none ∧ Q (.done (.ret (.ref x))) s1) E ⟨h1, g, d, t, os⟩) (hus : us.length ≤ sizeLine) :
    wpAny (model prog w) A (Builtin.«type.__call__» ⟨.ref C :: us, []⟩) Q E ⟨h, g, d, t, os⟩ := by
  repeat (first | (with_reducible refine wpAny_loadPart_at gC ?_) | (with_reducible refine wpAny_madeBy_exc gC ?_) | wp_step)
  refine codeAny_call_builtin_code (Code.quiet_builtin _ F.quiet) (wpAny_check_new_subT F T0 gC (codeAny_exc_new_subT F T0 gC ?_ hus))
  show wpAny _ _ _ _ _ _
  let tu : Obj := { cls := .type "tuple", data := .seq us.toArray }
  let xo : Obj := { cls := .ref C, data := .fields #[.ref h.objs.size, .none, .none, .none, .bool false, .none] }
  have up : ∀ b o, h.get? b = some o → ((h.push tu).push xo).get? b = some o := fun b o e => Heap.get?_push_of_some _ (Heap.get?_push_of_some _ e)
  have gC1 := up _ _ gC
  have gf1 := up _ _ gf
  have gN1 : ((h.push tu).push xo).Ns N mN := by
    obtain ⟨o, es, ep, e, r⟩ := gN
    exact ⟨o, es, ep, up _ _ e, r⟩
  have gx : ((h.push tu).push xo).get? (h.objs.size + 1) = some xo := by
    have := Heap.get?_push_size (h.push tu) (o := xo) rfl
    rw [Heap.size_push] at this
    exact this
  have own : (Value.ref C :: bm).contains (.ref C) = true := by simp
  have T1 : OwnTail ((h.push tu).push xo) bmB bm := T0.keeps up
  unfold isInstance
  repeat (first | (with_reducible refine wpAny_loadPart_at gx ?_) | (with_reducible refine wpAny_isSubtype_exc gC1 ?_; rw [own]) | wp_step)
  show wpAny _ _ (typeLookup (.ref C) _) _ _ _
  refine wpAny_typeLookup_tail gC1 gN1 T1 F.mroIs F.init.lookup ?_
  rw [gI]
  refine wpAny_holding (wpAny_bind ?_)
  unfold bindSpecial
  refine wpAny_bind (wpAny_typeOf (T := "function") ⟨_, gf1, gc⟩ ?_)
  rw [if_pos (by decide)]
  have mk : Heap.MadeExcOf h ((h.push tu).push xo) (h.objs.size + 1) (.ref C) us := ⟨up, Heap.get?_none_of_le (Nat.le_succ _), h.objs.size, gx, Heap.get?_none_of_le (Nat.le_refl _), Heap.get?_push_of_some _ (Heap.get?_push_at rfl rfl)⟩
  refine wpAny_pure (wpAny_bind (wpAny_mono (go _ _ mk) (fun r s1 hr => ?_) fun _ _ z => z))
  obtain ⟨rfl, hr⟩ := hr
  wp_walk
  exact hr
theorem call_init (F : ExcBaseFacts B newId initId bmB) (T0 : OwnTail h bmB bm) {mN : Str → Option Value} {us : List Value} {fI : Addr} {oI : Obj} {Q : Value → Shared → Prop}
    (gC : h.get? C = some (excClassObj nm q C N bs bm hdct sn sub ab col dd k0 k1 k2 k3 k5 newId)) (gN : h.Ns N mN) (gI : mN "__init__" = some (.ref fI)) (gf : h.get? fI = some oI) (gc : oI.cls = .type "function")
    (go : ∀ h1 x, Heap.MadeExcOf h h1 x (.ref C) us → wpAny (model prog w) (A.under (.builtin "type.__call__" ⟨.ref C :: us, []⟩)) (call (.ref fI) (.ref x :: us)) (fun r s1 => r = .none ∧ Q (.ref x) s1) E ⟨h1, g, d, t, os⟩) (hus : us.length ≤ sizeLine) :
    wpAny (model prog w) A (call (.ref C) us) Q E ⟨h, g, d, t, os⟩ := by
  have i1 := tc_lookup
  have i2 := tc_bind (.ref C)
  have tp : Shared.TypeIs ⟨h, g, d, t, os⟩ (.ref C) "type" := ⟨_, gC, rfl⟩
  refine wpAny_call (codeAny_of_tree ?_)
  show wpAny _ _ (callAny (.ref C) _) _ _ _
  repeat (any_goals (first | assumption | (with_reducible refine wpAny_loadPart_at gC ?_) | wp_step))
  refine ⟨rfl, codeAny_call_builtin_at (Code.quiet_builtin _ (by decide +kernel)) entry_typeCall (wpAny_check_type_call_sub gC ?_)⟩
  exact made_init F T0 gC gN gI gf gc (fun h1 x mk => go h1 x mk) hus
theorem raise_init {M : Model} {env : Env} {s : Shared} {x : Sem Value} {Q : Flow → Shared → Prop} (hbase : bm.contains (.type "BaseException") = true) (hh : A.handled = none)
    (go : wpAny M A x (fun v s1 => ∃ e t dx, v = .ref e ∧ s1.heap.get? C = some (excClassObj nm q C N bs bm hdct sn sub ab col dd k0 k1 k2 k3 k5 newId) ∧
      s1.heap.get? e = some { cls := .ref C, dict := dx, data := .fields #[.ref t, .none, .none, .none, .bool false, .none] } ∧ E (.ref e) s1) E s) :
    wpAny M A (raiseStmt env (some x) none) Q E s := by
  have isB : (Value.ref C :: bm).contains (.type "BaseException") = true := by rw [List.contains_cons, hbase]; simp
  unfold raiseStmt
  refine wpAny_bind (wpAny_mono go (fun v s1 k => ?_) fun _ _ z => z)
  obtain ⟨e, t, dx, rfl, gC, ge, gE⟩ := k
  obtain ⟨h1, g1, d1, t1, o1⟩ := s1
  repeat (first | (with_reducible refine wpAny_loadPart_at ge ?_) | (with_reducible refine wpAny_loadPart_at gC ?_) | (with_reducible refine wpAny_isSubtype_exc gC ?_; rw [isB]) | wp_step)
  exact wpAny_raiseNew_none hh gE
end
end NH
end
section
set_option linter.all false
set_option maxRecDepth 100000
set_option maxHeartbeats 4000000
namespace NH
open PySem PySem.Spec PyProof.Rows L2
section
variable {prog : Program} {w : World} {A : Around} {E : Value → Shared → Prop} {s : Shared}
variable {nm q : Str} {C N : Addr} {bs bm bmB : List Value} {hdct : Bool} {sn : List Str} {sub : List Value} {ab : Bool} {col : Option Bool} {dd : Option Addr} {k0 k1 k2 k3 k5 : Option Value} {B newId initId : String}
theorem init_own (F : ExcBaseFacts B newId initId bmB) (T0 : OwnTail s.heap bmB bm) {e : Addr} {ob : Obj} {vs : Array Value} {t0 : Addr} {rest : List Value} {Q : Value → Shared → Prop}
    (gC : s.heap.get? C = some (excClassObj nm q C N bs bm hdct sn sub ab col dd k0 k1 k2 k3 k5 newId)) (he : s.heap.get? e = some ob) (hcls : ob.cls = .ref C) (hd : ob.data = .fields vs) (h0 : vs[0]? = some (.ref t0))
    (h : Q .none { s with heap := (s.heap.push { cls := .type "tuple", data := .seq rest.toArray }).update e (Obj.mapFields (·.setIfInBounds 0 (.ref s.heap.objs.size))) }) (hrest : rest.length ≤ sizeLine) :
    wpAny (model prog w) A (call (.builtin initId) (.ref e :: rest)) Q E s := by
  obtain ⟨hh, g, d, t, os⟩ := s
  refine wpAny_call (codeAny_call_builtin F.init.plain F.initEntry (wpAny_check_init_subT F T0 gC he hcls ?_))
  unfold Builtin.«BaseException.__init__»
  dsimp only
  rw [if_neg (by simp)]
  unfold newTuple Builtin.BaseException.bexcPut
  have hsz : 0 < vs.size := (Array.getElem?_eq_some_iff.mp h0).1
  have he₁ := Heap.get?_push_of_some (h := hh) { cls := .type "tuple", data := .seq rest.toArray } he
  refine wpAny_bind (wpAny_newObj_type (wpAny_bind (wpAny_bind (wpAny_field he₁ hd h0 (wpAny_bind (wpAny_setField he₁ hd hsz ?_))))) (by show rest.toArray.size ≤ sizeLine; rw [List.size_toArray]; exact hrest))
  exact wpAny_letGo (wpAny_pure h)
end
def overVE : List Value → Bool
  | .ref _ :: r => overVE r
  | l => l == veMro
theorem overVE_pass (self : Value) : ∀ {l : List Value}, overVE l = true → PySem.refuseLoop self "__setattr__" l = pure ()
  | .ref c :: r, e => by rw [refuseLoop_ref]; exact overVE_pass self e
  | .type n :: r, e => by rw [show Value.type n :: r = veMro from beq_iff_eq.mp e]; exact PySem.F.store_ValueError.passes self
  | [], e => by cases e
  | v :: r, e => by
    unfold overVE at e
    split at e
    · rename_i h; cases h; rw [refuseLoop_ref]; exact overVE_pass self e
    · rw [beq_iff_eq.mp e]; exact PySem.F.store_ValueError.passes self
theorem overVE_has : ∀ {l : List Value}, overVE l = true → l.contains (.type "object") = true
  | .ref c :: r, e => by rw [List.contains_cons, overVE_has (l := r) e, Bool.or_true]
  | [], e => by cases e
  | v :: r, e => by
    unfold overVE at e
    split at e
    · rename_i h; cases h; rw [List.contains_cons, overVE_has (l := _) e, Bool.or_true]
    · rw [beq_iff_eq.mp e]; decide
section
variable {prog : Program} {w : World} {A : Around} {E : Value → Shared → Prop} {s : Shared} {K : PySem.W.Frag} {C x : Addr}
theorem set_new {ox : Obj} {name : Str} {v : Value} {Q : Unit → Shared → Prop} (X : K.In s.heap) (hx : s.heap.get? x = some ox) (hc : ox.cls = .ref C) (hnc : PySem.W.notCls ox = true) (hd : ox.dict = none)
    (hs : PySem.W.findIn K (.ref C) "__setattr__" = some (some (.builtin "object.__setattr__"))) (hp : ((PySem.W.clsIn K C).any fun cd => overVE cd.mro) = true) (ht : PySem.W.findIn K (.ref C) name = some none) (hh : PySem.W.hasDictIn K C = true)
    (h : ∀ h' tk, h'.get? x = some { ox with dict := some s.heap.objs.size } → h'.Ns1 s.heap.objs.size (fun y => if y = name then some v else none) → (∀ b o, b ≠ x → s.heap.get? b = some o → h'.get? b = some o) → Q () { s with heap := h', toks := tk }) :
    wpAny (model prog w) A (setAttr (.ref x) name v) Q E s := by
  have J : PySem.W.InstAt s.heap x ox C none := ⟨hx, hc, hnc, by rw [hd]; trivial⟩
  refine PySem.W.set_plain X J hs ?_
  have SF := PySem.F.store_object
  obtain ⟨cd, hcd, ho⟩ := PySem.W.any_some hp
  obtain ⟨cd', hcd', hdict⟩ := PySem.W.any_some hh
  rw [hcd] at hcd'
  cases hcd'
  have ne : cd.mro.isEmpty = false := by cases q : cd.mro with | nil => rw [q] at ho; cases ho | cons _ _ => rfl
  have sub : PySem.W.Looks (model prog w) s.heap (isInstance (.ref x) (.type "object")) true := J.type.andThen (PySem.W.looks_mroIn X (by unfold PySem.W.mroIn; rw [hcd, Option.bind_some, if_neg (by rw [ne]; decide), overVE_has ho]))
  refine codeAny_call_builtin SF.slot.plain SF.entry (@PySem.W.check_slot (model prog w) _ _ { s with toks := s.toks + 1 } "object.__setattr__" "object" "__setattr__" (.ref x) [.str name s.toks, v] [] _ SF.kind SF.split sub (SF.args (.ref x) (.str name s.toks) v) ?_)
  have hm : PySem.W.Looks (model prog w) s.heap (mroOf (.ref C)) cd.mro := (PySem.W.looks_clsIn X hcd).andThen .now
  rw [PySem.W.osa_eq, refuse_eq]
  refine wpAny_bind (wpAny_bind (PySem.W.Looks.here (s := { s with toks := s.toks + 1 }) J.type (wpAny_bind (PySem.W.Looks.here (s := { s with toks := s.toks + 1 }) hm ?_))))
  rw [overVE_pass _ ho]
  refine wpAny_pure (wpAny_bind (PySem.W.Looks.here (s := { s with toks := s.toks + 1 }) J.type (wpAny_bind (PySem.W.Looks.here (s := { s with toks := s.toks + 1 }) (PySem.W.looks_findIn X ht) (wpAny_bind (wpAny_pure ?_))))))
  obtain ⟨hh0, g, dr, t, os⟩ := s
  obtain ⟨oc, odi, oda, osl⟩ := ox
  dsimp only at hc hd hx
  subst hc hd
  have hnc' : ∀ c, oda ≠ .cls c := fun c z => by subst z; cases hnc
  refine wpAny_bind (wpAny_pure (wpAny_bind (wpAny_bind (wpAny_loadPart hx (wpAny_bind (PySem.W.Looks.here (s := ⟨hh0, g, dr, t + 1, os⟩) (PySem.W.looks_clsIn X hcd) ?_))))))
  rw [hdict]
  have hx₁ : (hh0.push { cls := .type "dict", data := .dict #[] }).get? x = some ⟨.ref C, none, oda, osl⟩ := Heap.get?_push_of_some _ hx
  have hxs : x ≠ hh0.objs.size := Nat.ne_of_lt (Heap.lt_size hx)
  have go : wpAny (model prog w) A.in1 (do
      let d ← alloc { cls := .type "dict", data := .dict #[] }
      update x fun o => { o with dict := some d }
      dictMade (.ref C) x d) (fun a s' => wpAny (model prog w) A.in1 (match a with
        | some d => Builtin.ObjectAttr.storeInDict d (.str name t) name v
        | none => Builtin.ObjectAttr.noDictFor (.ref x) (.ref C) name false) (fun fin s' => match fin with | .done f => (match (Except.ok f : Result) with | .ok (.ret _) => Q () s' | .ok _ => False | .error e => E e s') | .again c' => c'.quiet = true ∧ codeAny (model prog w) A c' (fun r s' => match r with | .ok (.ret _) => Q () s' | .ok _ => False | .error e => E e s') s') (fun e s' => E e s') s') (fun e s' => E e s') ⟨hh0, g, dr, t + 1, os⟩ := by
    refine wpAny_bind (wpAny_alloc' ?_)
    refine wpAny_bind (wpAny_update' hx₁ ?_)
    refine wpAny_pure ?_
    have hgd : ((hh0.push { cls := .type "dict", data := .dict #[] }).update x fun o => { cls := o.cls, dict := some hh0.objs.size, data := o.data, slots := o.slots }).get? hh0.objs.size
        = some { cls := .type "dict", data := .dict #[] } :=
      (Heap.get?_update_ne _ _ _ _ hxs.symm).trans (Heap.get?_push_at rfl rfl)
    have hnd : ((hh0.push { cls := .type "dict", data := .dict #[] }).update x fun o => { cls := o.cls, dict := some hh0.objs.size, data := o.data, slots := o.slots }).Ns hh0.objs.size (fun _ => none) :=
      ⟨_, #[], _, hgd, rfl, fun e he => absurd he (by simp), fun _ => rfl⟩
    show wpAny _ _ (Builtin.ObjectAttr.storeInDict hh0.objs.size (.str name t) name v) _ _ _
    unfold Builtin.ObjectAttr.storeInDict Builtin.ObjectAttr.newKeyGuard
    refine wpAny_bind (wpAny_pure (wpAny_bind (wpAny_nsSet1 (Heap.Ns1.of_empty hnd) fun h' hn' hs => ?_)))
    obtain ⟨oD, esD, epD, hoD, hdD, hcD⟩ := hn'.count (Within.cons name v Within.nil)
    refine wpAny_bind (wpAny_lookBehind hoD (by rw [hdD]; exact pastItsLine_dict (Nat.le_trans hcD (by rw [List.length_cons, List.length_nil, sizeLine_eq]; omega))) ?_)
    refine wpAny_pure (h h' _ ?_ ?_ ?_)
    · refine (hs.2 x hxs).trans (Heap.get?_update_self _ hx₁ ?_)
      have hfr := (Heap.get?_some_iff.mp hx).2
      cases oda <;> first | rfl | exact hfr
    · obtain ⟨o', es, ep, e1, e2, e3, eu, e4⟩ := hn'
      exact ⟨o', es, ep, e1, e2, e3, eu, fun y => by rw [e4 y]⟩
    · intro b o hbx hb
      exact (hs.2 b (Nat.ne_of_lt (Heap.lt_size hb))).trans ((Heap.get?_update_ne _ _ _ _ hbx).trans (Heap.get?_push_of_some _ hb))
  cases oda <;> first | exact absurd rfl (hnc' _) | exact go
end
end NH
end
section
set_option linter.all false
set_option maxRecDepth 100000
set_option maxHeartbeats 4000000
namespace NH
open PySem PySem.Spec PyProof.Rows L2
theorem nsMap_some_of_in {K : PySem.W.Frag} {h : Heap} {N : Addr} {x : Str} {v : Value} (X : K.In h) (e : PySem.W.nsOkIn K N = true) (q : PySem.W.nsIn K N x = some (some v)) : h.nsMap N x = some v := by
  obtain ⟨o, es, ep, ho, hd, _, hf⟩ := (Heap.Ns.of_isNs (PySem.W.isNs_of_in X e) : h.Ns N (h.nsMap N))
  unfold PySem.W.nsIn at q
  split at q
  · rename_i c d es' n' sl q'
    have := X _ _ q'
    rw [ho] at this
    cases this
    cases hd
    split at q
    · rename_i he
      cases q
      rw [← hf]
      unfold nsFind findBy
      rw [← Array.find?_toList, he]
      rfl
    · split at q <;> cases q
  · cases q
theorem XIn.mro {K : PySem.W.Frag} {C HE fI : Addr} {fl : Str} (x : XIn K C HE fI fl) : ((PySem.W.clsIn K C).any fun cd => overVE cd.mro) = true := by
  obtain ⟨N, nm, q, bs, hd, sn, sub, ab, col, dd, k0, k1, k2, k3, k5, h, _⟩ := x.cls
  unfold PySem.W.clsIn
  rw [h]
  show overVE (.ref C :: .ref HE :: veMro) = true
  show overVE veMro = true
  decide
theorem XIn.at_ {K : PySem.W.Frag} {C HE fI : Addr} {fl : Str} {h : Heap} (x : XIn K C HE fI fl) (X : K.In h) : ∃ N nm q bs hd sn sub ab col dd k0 k1 k2 k3 k5, h.get? C = some (excClassObj nm q C N bs (.ref HE :: veMro) hd sn sub ab col dd k0 k1 k2 k3 k5 "ValueError.__new__") ∧ h.Ns N (h.nsMap N) ∧ h.nsMap N "__init__" = some (.ref fI) ∧ OwnTail h veMro (.ref HE :: veMro) := by
  obtain ⟨N, nm, q, bs, hd, sn, sub, ab, col, dd, k0, k1, k2, k3, k5, h1, h2, h3⟩ := x.cls
  obtain ⟨tl, N', nm', q', bs', hd', sn', sub', ab', col', dd', k0', k1', k2', k3', k5', mN, g1, g2, g3, g4⟩ := xcCls_of X x.he
  exact ⟨N, nm, q, bs, hd, sn, sub, ab, col, dd, k0, k1, k2, k3, k5, X _ _ h1, .of_isNs (PySem.W.isNs_of_in X h2), nsMap_some_of_in X h2 h3, .own g1 g2 g3 .base⟩
section
variable {X : Cx} {pins : List (Addr × Obj)} {s : Shared} {σ : St} {H : Hp} {C HE fI : Addr} {fl : Str}
theorem pe_fstr {a b par : Str} {ka kb : Nat} {p1 p2 p3 p4 p5 : Pos} (hN : X.N[1]? = some par) (hv : Vis X.env.scope par) (hd : (par == ("__debug__" : Str)) = false) (hcd : (par == ("__classdict__" : Str)) = false) (ha : a.length ≤ 1000) (hb : b.length ≤ 1000) :
    PE X (.JoinedStr [.Constant (.str a) ka p1, .FormattedValue (.Name par p2) (-1) none p3, .Constant (.str b) kb p4] p5) (fun σ H Q => ∃ i : Int, σ[1]? = some (some (.int i)) ∧ i.natAbs.log2 < 1920 ∧ ∀ z, Q (.str z) H) := by
  rintro pins s σ H Q I ⟨i, hi, hlog, q⟩
  have e := int_text_length_le (k := 1920) (by decide) hlog
  have e2 : (Str.ofString (toString i)).length ≤ 1921 := by rw [PySem.ofString_length]; exact e
  refine wpAny_JoinedStr ?_
  refine thn (pe_str (x := a) pins s σ H (fun v H1 => v = .str a ∧ H1 = H) I ⟨rfl, rfl⟩) ?_
  rintro u s1 ⟨v, H1, I1, r, rfl, rfl⟩
  obtain ⟨t1, rfl⟩ := r
  have l0 : (Str.empty ++ a).length ≤ 1000 := by rw [strLen_append]; show 0 + a.length ≤ 1000; omega
  refine ⟨_, _, rfl, by rw [sizeLine_eq]; omega, ?_⟩
  refine wpAny_FormattedValue_plain (thn (pe_var (i := 1) hN hv hd hcd pins s1 σ H1 (fun v H2 => v = .int i ∧ H2 = H1) I1 ⟨_, hi, rfl, rfl⟩) ?_)
  rintro u s2 ⟨v, H2, I2, r, rfl, rfl⟩
  obtain ⟨t2, rfl⟩ := r
  refine wpAny_formatField_int hlog ?_
  have l1 : (Str.empty ++ a ++ Str.ofString (toString i)).length ≤ 3000 := by rw [strLen_append]; omega
  refine ⟨_, _, rfl, by rw [sizeLine_eq]; omega, ?_⟩
  have I3 : Inv X pins σ H2 { s2 with toks := s2.toks + 1 + 1 } := I2.kept (h' := s2.heap) fun _ _ q => q
  refine thn (pe_str (x := b) pins _ σ H2 (fun v H1 => v = .str b ∧ H1 = H2) I3 ⟨rfl, rfl⟩) ?_
  rintro u s4 ⟨v, H4, I4, r, rfl, rfl⟩
  obtain ⟨t4, rfl⟩ := r
  have l2 : (Str.empty ++ a ++ Str.ofString (toString i) ++ b).length ≤ 5000 := by rw [strLen_append]; omega
  refine ⟨_, _, rfl, by rw [sizeLine_eq]; omega, by rw [sizeLine_eq]; omega, ?_⟩
  exact ⟨.str _, H4, I4.kept (h' := s4.heap) fun _ _ q => q, ⟨_, rfl⟩, q _⟩
theorem pe_fstr2 {a par : Str} {ka : Nat} {p1 p2 p3 p5 : Pos} (hN : X.N[1]? = some par) (hv : Vis X.env.scope par) (hd : (par == ("__debug__" : Str)) = false) (hcd : (par == ("__classdict__" : Str)) = false) (ha : a.length ≤ 1000) :
    PE X (.JoinedStr [.Constant (.str a) ka p1, .FormattedValue (.Name par p2) (-1) none p3] p5) (fun σ H Q => ∃ i : Int, σ[1]? = some (some (.int i)) ∧ i.natAbs.log2 < 1920 ∧ ∀ z, Q (.str z) H) := by
  rintro pins s σ H Q I ⟨i, hi, hlog, q⟩
  have e := int_text_length_le (k := 1920) (by decide) hlog
  have e2 : (Str.ofString (toString i)).length ≤ 1921 := by rw [PySem.ofString_length]; exact e
  refine wpAny_JoinedStr ?_
  refine thn (pe_str (x := a) pins s σ H (fun v H1 => v = .str a ∧ H1 = H) I ⟨rfl, rfl⟩) ?_
  rintro u s1 ⟨v, H1, I1, r, rfl, rfl⟩
  obtain ⟨t1, rfl⟩ := r
  have l0 : (Str.empty ++ a).length ≤ 1000 := by rw [strLen_append]; show 0 + a.length ≤ 1000; omega
  refine ⟨_, _, rfl, by rw [sizeLine_eq]; omega, ?_⟩
  refine wpAny_FormattedValue_plain (thn (pe_var (i := 1) hN hv hd hcd pins s1 σ H1 (fun v H2 => v = .int i ∧ H2 = H1) I1 ⟨_, hi, rfl, rfl⟩) ?_)
  rintro u s2 ⟨v, H2, I2, r, rfl, rfl⟩
  obtain ⟨t2, rfl⟩ := r
  refine wpAny_formatField_int hlog ?_
  have l1 : (Str.empty ++ a ++ Str.ofString (toString i)).length ≤ 3000 := by rw [strLen_append]; omega
  refine ⟨_, _, rfl, by rw [sizeLine_eq]; omega, by rw [sizeLine_eq]; omega, ?_⟩
  exact ⟨.str _, H2, I2.kept (h' := s2.heap) fun _ _ q => q, ⟨_, rfl⟩, q _⟩
def FParts (par : Str) (parts : List Expr) : Prop :=
  (∃ (a b : Str) (ka kb : Nat) (p1 p2 p3 p4 : Pos), parts = [.Constant (.str a) ka p1, .FormattedValue (.Name par p2) (-1) none p3, .Constant (.str b) kb p4] ∧ a.length ≤ 1000 ∧ b.length ≤ 1000) ∨
  ∃ (a : Str) (ka : Nat) (p1 p2 p3 : Pos), parts = [.Constant (.str a) ka p1, .FormattedValue (.Name par p2) (-1) none p3] ∧ a.length ≤ 1000
theorem pe_parts {par : Str} {parts : List Expr} {p5 : Pos} (hN : X.N[1]? = some par) (hv : Vis X.env.scope par) (hd : (par == ("__debug__" : Str)) = false) (hcd : (par == ("__classdict__" : Str)) = false) (h : FParts par parts) :
    PE X (.JoinedStr parts p5) (fun σ H Q => ∃ i : Int, σ[1]? = some (some (.int i)) ∧ i.natAbs.log2 < 1920 ∧ ∀ z, Q (.str z) H) := by
  rcases h with ⟨a, b, ka, kb, p1, p2, p3, p4, rfl, h1, h2⟩ | ⟨a, ka, p1, p2, p3, rfl, h1⟩
  · exact pe_fstr hN hv hd hcd h1 h2
  · exact pe_fstr2 hN hv hd hcd h1
theorem pe_base {par slf B : Str} {parts : List Expr} {p5 q0 q1 q2 q4 : Pos} (xi : XIn X.K C HE fI fl) (hN0 : X.N[0]? = some slf) (hv0 : Vis X.env.scope slf) (hd0 : (slf == ("__debug__" : Str)) = false) (hcd0 : (slf == ("__classdict__" : Str)) = false)
    (hN : X.N[1]? = some par) (hv : Vis X.env.scope par) (hd : (par == ("__debug__" : Str)) = false) (hcd : (par == ("__classdict__" : Str)) = false) (hfp : FParts par parts)
    (hB : Gl X B) (hm : X.mg B = some (.ref HE)) (hBd : (B == ("__debug__" : Str)) = false) (hga : PySem.W.specialIn X.K (.ref HE) "__getattribute__" = some (some (.builtin "type.__getattribute__"))) (hr : PySem.W.readsIn X.K HE (.type "type") = true)
    (hf : PySem.W.findCls X.K (.ref HE) (.type "type") "__init__" = some (.val (.builtin "ValueError.__init__"))) (hline : (q1.endLine == q4.line) = true) :
    PE X (.Call (.Attribute (.Name B q0) "__init__" q1) [.Name slf q2, .JoinedStr parts p5] [] q4) (fun σ H Q => ∃ (x : Addr) (i : Int), σ[0]? = some (some (.ref x)) ∧ σ[1]? = some (some (.int i)) ∧ i.natAbs.log2 < 1920 ∧ H x = some (.ext (XRaw x C)) ∧ Q .non (upd H x (.ext (XRaw x C)))) := by
  rintro pins s σ H Q I ⟨x, i, h0, h1, hlog, hx, q⟩
  rw [arm_eval_Call]
  refine wpAny_bind (ld_glob I hB hm ?_ hBd)
  refine wpAny_bind (wpAny_standAt ?_)
  have hpos : methodCallPos true (.Name B q0) X.env q1 q4 = pure q4 := by unfold methodCallPos; simp [hline]
  unfold methodCall
  refine wpAny_bind (wpAny_holding (PySem.W.method_cls I.kIn hga (PySem.W.cls_value I.kIn hr hf rfl ?_)))
  refine wpAny_bind (wpAny_of_eq hpos ?_)
  have I1 : Inv X pins σ H { s with toks := s.toks + 1 } := I.kept (h' := s.heap) fun _ _ q => q
  have pa : PA X [.Name slf q2, .JoinedStr parts p5] _ := pa_cons (pe_var (i := 0) hN0 hv0 hd0 hcd0) (pa_cons (pe_parts hN hv hd hcd hfp) pa_nil)
  refine PySem.W.callWith_of (P := fun _ => True) (first := []) rfl (fun h _ => ⟨.machine, .inr (.inl rfl), PySem.W.Looks.of_pure rfl⟩) (Calls.evalArgs_plain (thn (pa q4 pins _ σ H (fun vs H1 => ∃ z, vs = [.ref x, .str z] ∧ H1 = H) I1 ⟨_, h0, i, h1, hlog, fun z => ⟨z, rfl, rfl⟩⟩) ?_))
  rintro us s2 ⟨vs, H2, I2, rv, z, rfl, rfl⟩
  obtain ⟨u1, rfl⟩ : ∃ u1, us = [.ref x, u1] := by
    cases rv with
    | cons r1 r2 => cases r2 with
      | cons r3 r4 => cases r4; cases r1; exact ⟨_, rfl⟩
  refine ⟨trivial, ?_⟩
  obtain ⟨N, nm, qn, bs, hdd, sn, sub, ab, col, dd, k0, k1, k2, k3, k5, g1, g2, g3, g4⟩ := xi.at_ I2.kIn
  obtain ⟨t, ex⟩ : XRaw x C s2.heap := (show ObjOk X.prog X.w H2 s2.heap x (.ext (XRaw x C)) from I2.hok _ _ hx).1
  refine init_own (rest := [u1]) PySem.F.excBase_ValueError g4 g1 ex rfl rfl rfl ?_ (by rw [sizeLine_eq]; show 1 ≤ _; omega)
  have lt : x < s2.heap.objs.size := Heap.lt_size ex
  have ex1 := Heap.get?_push_of_some (h := s2.heap) { cls := .type "tuple", data := .seq [u1].toArray } ex
  have k1 : ∀ b u, b ≠ x → s2.heap.get? b = some u → ((s2.heap.push { cls := .type "tuple", data := .seq [u1].toArray }).update x (Obj.mapFields (·.setIfInBounds 0 (.ref s2.heap.objs.size)))).get? b = some u := fun b u hb hu => by
    rw [Heap.get?_update_other _ _ (Ne.symm hb)]
    exact Heap.get?_push_of_some _ hu
  have ex2 : ((s2.heap.push { cls := .type "tuple", data := .seq [u1].toArray }).update x (Obj.mapFields (·.setIfInBounds 0 (.ref s2.heap.objs.size)))).get? x = some { cls := .ref C, data := .fields #[.ref s2.heap.objs.size, .none, .none, .none, .bool false, .none] } := by
    rw [Heap.get?_update_self _ ex1 rfl]; rfl
  exact ⟨.non, _, I2.write (x := x) (e := x) (o := .ext (XRaw x C)) (t' := s2.toks) (by rw [hx]; exact True.intro) (.inl rfl) k1 ⟨_, ex2⟩ ⟨⟨_, ex2⟩, ⟨_, ex2⟩, fun h1 h2 ⟨t, e⟩ k => ⟨t, k _ e⟩⟩, rfl, q⟩
theorem ps_field {par slf : Str} {q0 q1 q2 q3 : Pos} (xi : XIn X.K C HE fI fl) (hN0 : X.N[0]? = some slf) (hv0 : Vis X.env.scope slf) (hd0 : (slf == ("__debug__" : Str)) = false) (hcd0 : (slf == ("__classdict__" : Str)) = false)
    (hN : X.N[1]? = some par) (hv : Vis X.env.scope par) (hd : (par == ("__debug__" : Str)) = false) (hcd : (par == ("__classdict__" : Str)) = false) :
    PS X (.Assign [.Attribute (.Name slf q0) fl q1] (.Name par q2) q3) (fun D σ H => ∃ (x : Addr) (i : Int), σ[0]? = some (some (.ref x)) ∧ σ[1]? = some (some (.int i)) ∧ H x = some (.ext (XRaw x C)) ∧ ∀ dx, H dx = none → dx ≠ x → D.nx σ (upd (upd H x (.ext (XDone x C dx))) dx (.xd [(fl, .int i)]))) := by
  rintro pins s σ H D I ⟨x, i, h0, h1, hx, q⟩
  refine plainObj_wpAny_Assign_Attribute (thn (pe_var (i := 1) hN hv hd hcd pins s σ H (fun v H1 => v = .int i ∧ H1 = H) I ⟨_, h1, rfl, rfl⟩) ?_) rfl
  rintro u s1 ⟨v, H1, I1, r, rfl, rfl⟩
  refine thn (pe_var (i := 0) hN0 hv0 hd0 hcd0 pins s1 σ H1 (fun v H2 => v = .ref x ∧ H2 = H1) I1 ⟨_, h0, rfl, rfl⟩) ?_
  rintro ov s2 ⟨v, H2, I2, r2, rfl, rfl⟩
  cases r2
  obtain ⟨t, ex⟩ : XRaw x C s2.heap := (show ObjOk X.prog X.w H2 s2.heap x (.ext (XRaw x C)) from I2.hok _ _ hx).1
  refine set_new I2.kIn ex rfl rfl rfl xi.sa xi.mro xi.no xi.dct fun h' tk e1 e2 e3 => ?_
  have lt : x < s2.heap.objs.size := Heap.lt_size ex
  have hf : H2 s2.heap.objs.size = none := I2.hok.fresh (Nat.le_refl _)
  have ne : s2.heap.objs.size ≠ x := Nat.ne_of_gt lt
  refine ⟨σ, _, ?_, q _ hf ne⟩
  have ox : XOk X H2 s2.heap.objs.size := inv_xok I2 (Heap.get?_none_of_le (Nat.le_refl _))
  have hpn : ∀ p ∈ pins, p.1 ≠ s2.heap.objs.size := fun p hp z => by
    have := (I2.pin p (List.mem_append_right _ hp)).1
    rw [z, Heap.get?_none_of_le (Nat.le_refl _)] at this; cases this
  have I3 : Inv X pins σ (upd H2 x (.ext (XDone x C s2.heap.objs.size))) { s2 with heap := h', toks := tk } := I2.write (x := x) (e := x) (by rw [hx]; exact True.intro) (.inl rfl) (fun b u hb hu => e3 b u hb hu) ⟨_, e1⟩ ⟨⟨t, e1⟩, ⟨_, e1⟩, fun h1 h2 ⟨t, e⟩ k => ⟨t, k _ e⟩⟩
  have ox3 : XOk X (upd H2 x (.ext (XDone x C s2.heap.objs.size))) s2.heap.objs.size := ⟨by rw [upd_ne ne]; exact ox.free, ox.loc, ox.nfs, ox.new, ox.cel, ox.pin⟩
  refine inv_trackT I3 ox3 hpn ⟨_, e2, fun f => ?_⟩
  show RelO (List.lookup f [(fl, V.int i)]) (if f = fl then some u else none)
  by_cases z : f = fl
  · subst z
    rw [if_pos rfl]
    simp only [List.lookup, beq_self_eq_true]
    exact r
  · rw [if_neg z]
    have : (f == fl) = false := beq_eq_false_iff_ne.mpr z
    simp only [List.lookup, this]
    exact trivial
end
def InitF (body : List Stmt) (B slf par fl : Str) : Prop := ∃ (q0 q1 q2 p5 q4 q5 r0 r1 r2 r3 : Pos) (parts : List Expr),
  body = [.Expr (.Call (.Attribute (.Name B q0) "__init__" q1) [.Name slf q2, .JoinedStr parts p5] [] q4) q5, .Assign [.Attribute (.Name slf r0) fl r1] (.Name par r2) r3] ∧ (q1.endLine == q4.line) = true ∧ FParts par parts
def scI (slf par B : Str) (sc : Scope) : Bool := (sc.kind == .function) && !sc.isCoroutine && !sc.isGenerator && (slf != par) && (sc.names.lookup slf == some .local) && (sc.names.lookup par == some .local) && sc.names.all (fun y => y.2 != .free) && (sc.names.lookup B == some .globalImplicit) &&
  (slf != ("__debug__" : Str)) && (slf != ("__classdict__" : Str)) && (par != ("__debug__" : Str)) && (par != ("__classdict__" : Str)) && (B != ("__debug__" : Str))
section
variable {P : Program} {w : World} {K : PySem.W.Frag} {mg : Str → Option Value} {base : Heap} {C HE fI : Addr} {fl : Str} {k : Nat}
structure HIn (K : PySem.W.Frag) (mg : Str → Option Value) (HE : Addr) (B : Str) : Prop where
  mg : mg B = some (.ref HE)
  ga : PySem.W.specialIn K (.ref HE) "__getattribute__" = some (some (.builtin "type.__getattribute__"))
  rd : PySem.W.readsIn K HE (.type "type") = true
  fc : PySem.W.findCls K (.ref HE) (.type "type") "__init__" = some (.val (.builtin "ValueError.__init__"))
theorem xi_fn {CX : CXT} {name qual slf par B : Str} {params : Arguments} {body : List Stmt} {scope : Scope} {dV kV doc pm cdv ct oc : Value} {an od : Option Addr} {osl : Array (Option Value)}
    (xi : XIn K C HE fI fl) (hi : HIn K mg HE B) (lk : K.lookup fI = some ⟨oc, od, .func (PySem.W.fnOf name qual params body scope dV kV doc pm an cdv ct), osl⟩) (hcd : PySem.W.codeIn K cdv qual = true) (hf : InitF body B slf par fl) (hs : scI slf par B scope = true) :
    FnOk P w K mg base CX (k + 1) fI (PySem.W.fnOf name qual params body scope dV kV doc pm an cdv ct) [slf, par] (spI C fl) := by
  simp only [scI, Bool.and_eq_true, List.all_eq_true, beq_iff_eq, Bool.not_eq_true', bne_iff_ne, ne_eq] at hs
  obtain ⟨⟨⟨⟨⟨⟨⟨⟨⟨⟨⟨⟨h1, h2⟩, h3⟩, h4⟩, h5⟩, h6⟩, h7⟩, h8⟩, h9⟩, h10⟩, h11⟩, h12⟩, h13⟩ := hs
  have S : FnScope [slf, par] [slf, par] scope := ⟨h1, h2, h3, by simp [h4], rfl, fun x hx => by
    rcases List.mem_cons.mp hx with rfl | hx
    · exact .inl h5
    · rw [List.mem_singleton.mp hx]; exact .inl h6, h7⟩
  obtain ⟨q0, q1, q2, p5, q4, q5, r0, r1, r2, r3, parts, rfl, c5, c6⟩ := hf
  refine fn_of lk hcd S (fun vs H Q E q => by obtain ⟨x, i, rfl, _⟩ := q; rfl) fun A outer s H vs Q E hr hsp => ?_
  obtain ⟨x, i, rfl, hlog, hx, q⟩ := hsp
  have hd0 : (slf == ("__debug__" : Str)) = false := beq_eq_false_iff_ne.mpr h9
  have hc0 : (slf == ("__classdict__" : Str)) = false := beq_eq_false_iff_ne.mpr h10
  have hd1 : (par == ("__debug__" : Str)) = false := beq_eq_false_iff_ne.mpr h11
  have hc1 : (par == ("__classdict__" : Str)) = false := beq_eq_false_iff_ne.mpr h12
  have hdB : (B == ("__debug__" : Str)) = false := beq_eq_false_iff_ne.mpr h13
  refine ⟨_, pss_cons (ps_expr (pe_base (C := C) (HE := HE) (fI := fI) (fl := fl) xi rfl (.inl h5) hd0 hc0 rfl (.inl h6) hd1 hc1 c6 h8 hi.mg hdB hi.ga hi.rd hi.fc c5)) (pss_one (ps_field (C := C) (HE := HE) (fI := fI) xi rfl (.inl h5) hd0 hc0 rfl (.inl h6) hd1 hc1)), ?_⟩
  refine ⟨x, i, rfl, rfl, hlog, hx, x, i, rfl, rfl, upd_same, fun dx hdx ne => ?_⟩
  rw [upd_upd]
  exact q dx (by rw [upd_ne ne] at hdx; exact hdx) ne
end
end NH
end
section
set_option linter.all false
set_option maxRecDepth 100000
set_option maxHeartbeats 4000000
namespace NH
open PySem PySem.Spec PyProof.Rows L2
section
variable {X : Cx} {pins : List (Addr × Obj)} {s : Shared} {σ : St} {H : Hp}
theorem inv_untrack {x : Addr} {φ : Heap → Prop} (I : Inv X pins σ (upd H x (.ext φ)) s) (hx : H x = none) : Inv X pins σ H s := by
  have nn : ∀ b, upd H x (.ext φ) b = none → H b = none := fun b e => by
    by_cases z : b = x
    · rw [z]; exact hx
    · rw [upd_ne z] at e; exact e
  have so : ∀ b o, upd H x (.ext φ) b = some o → (∀ ψ, o ≠ .ext ψ) → H b = some o := fun b o e n => by
    by_cases z : b = x
    · rw [z, upd_same] at e; cases e; exact absurd rfl (n φ)
    · rw [upd_ne z] at e; exact e
  refine ⟨I.ok, I.os, I.bare, ⟨I.base.keep, I.base.slot, fun b o e n hx' => nn b (I.base.free b o e n hx'), I.base.there, fun b xs e => so b _ (I.base.tups b xs e) (fun ψ z => by cases z), fun b o u e => so b _ (I.base.frzs b o u e) (fun ψ z => by cases z), fun b ps e => ?_⟩, I.loc, I.cell, nn _ I.free, fun y c e => nn _ (I.freeC y c e), fun p hp => ?_, fun b ob e => ?_, I.len⟩
  · obtain ⟨more, q⟩ := I.base.tbls b ps e
    exact ⟨more, so b _ q (fun ψ z => by cases z)⟩
  · obtain ⟨e, n, r⟩ := I.pin p hp
    exact ⟨e, nn _ n, r⟩
  · have ne : b ≠ x := fun z => by rw [z, hx] at e; cases e
    have q := I.hok b ob (by rw [upd_ne ne]; exact e)
    exact q.stay (fun _ _ _ q => q) (fun c q => so c _ q (fun ψ z => by cases z)) fun c xs q => so c _ q (fun ψ z => by cases z)
end
section
variable {X : Cx} {D : DP} {W : XW} {Γ : Cn} {k : Nat} {pins : List (Addr × Obj)} {s : Shared} {σ : St} {H : Hp} {φ α : List Addr} {τ : Sl} {μ : Mem} {a : Expr} {pos : Pos} {E : Ends} {g : De}
theorem upd_comm {H : Hp} {x y : Addr} {a b : HO} (h : x ≠ y) : upd (upd H x a) y b = upd (upd H y b) x a := by
  funext c
  by_cases z : c = y
  · subst z; rw [upd_same, upd_ne (Ne.symm h), upd_same]
  · rw [upd_ne z]
    by_cases z2 : c = x
    · subst z2; rw [upd_same, upd_same]
    · rw [upd_ne z2, upd_ne z2, upd_ne z]
theorem run_xin {C HE fI : Addr} {fl : Str} {fd : FuncData} {ps : List Str} {kk : Nat} {u : Value} {i : Int} {Q : Value → Shared → Prop} (xi : XIn X.K C HE fI fl) (hb : Binds X.K fd ps []) (hr : Room (kk + 1) X.A)
    (F : FnOk X.prog X.w X.K X.mg X.base (CX1 X.prog X.w) kk fI fd ps (spI C fl)) (I : Inv X pins σ H s) (r : RelV (.int i) u) (hlog : i.natAbs.log2 < 1920)
    (q : ∀ x dx t s', Inv X pins σ (upd H dx (.xd [(fl, .int i)])) s' → H dx = none → XOk X H x → dx ≠ x → s'.heap.get? x = some { cls := .ref C, dict := some dx, data := .fields #[.ref t, .none, .none, .none, .bool false, .none] } → Q (.ref x) s') :
    wpAny (model X.prog X.w) X.A (call (.ref C) [u]) Q X.xe s := by
  obtain ⟨N, nm, qn, bs, hdd, sn, sub, ab, col, dd, k0, k1, k2, k3, k5, g1, g2, g3, g4⟩ := xi.at_ I.kIn
  obtain ⟨oI, gf, gc⟩ : ∃ oI, s.heap.get? fI = some oI ∧ oI.cls = .type "function" := by
    obtain ⟨o, ho, e⟩ := Option.map_eq_some_iff.mp xi.fn
    exact ⟨o, I.kIn _ _ ho, e⟩
  obtain ⟨hh, gg, d, tk, os⟩ := s
  refine call_init PySem.F.excBase_ValueError g4 g1 g2 g3 gf gc (fun h1 x mk => ?_) (by rw [sizeLine_eq]; show 1 ≤ _; omega)
  have J : Inv X pins σ H ⟨h1, gg, d, tk, os⟩ := I.kept (t' := tk) mk.keeps
  have ox : XOk X H x := inv_xok I mk.new
  have hpn : ∀ p ∈ pins, p.1 ≠ x := fun p hp z => by
    have := (I.pin p (List.mem_append_right _ hp)).1
    rw [z, mk.new] at this; cases this
  obtain ⟨t, ho, _, _⟩ := mk.there
  have I2 : Inv X pins σ (upd H x (.ext (XRaw x C))) ⟨h1, gg, d, tk, os⟩ := inv_trackT J ox hpn ⟨⟨t, ho⟩, ⟨_, ho⟩, fun h1 h2 ⟨t, e⟩ k => ⟨t, k _ e⟩⟩
  have rv : Vals [.ref x, .int i] [.ref x, u] := .cons rfl (.cons r .nil)
  have hl : ([Value.ref x, u] ++ []).length = ps.length := by
    have := F.len [.ref x, .int i] (upd H x (.ext (XRaw x C))) (fun _ _ => True) (fun _ _ _ => False) ⟨x, i, rfl, hlog, upd_same, fun _ _ _ => trivial⟩
    exact this
  refine wpAny_call (codeAny_mono (F.run _ X.stack ⟨h1, gg, d, tk, os⟩ (upd H x (.ext (XRaw x C))) ⟨[.ref x, u], []⟩ [.ref x, u] [.ref x, .int i] (fun v H' => v = .non ∧ ∃ dx, H dx = none ∧ dx ≠ x ∧ H' = upd (upd H x (.ext (XDone x C dx))) dx (.xd [(fl, .int i)])) (fun _ _ _ => False) (hr.make C [u] []) (I2.env0.make C [u] []) (by simpa using hb _ [.ref x, u] I2.kIn hl) rv
    ⟨x, i, rfl, hlog, upd_same, fun dx hdx ne => ⟨rfl, dx, by rw [upd_ne ne] at hdx; exact hdx, ne, by rw [upd_upd]⟩⟩) fun res s' hq => ?_)
  cases res with
  | error e =>
    obtain ⟨_, _, _, _, _, _, _, _, _, _, _, _, _, _, _, z⟩ := hq
    exact z.elim
  | ok flw =>
    cases flw with
    | ret v =>
      obtain ⟨v', H', I3, rv', ⟨rfl, dx, hdx, ne, rfl⟩⟩ := I2.after hq
      refine ⟨rv', ?_⟩
      obtain ⟨t', e'⟩ : XDone x C dx s'.heap := (show ObjOk X.prog X.w _ s'.heap x (.ext (XDone x C dx)) from I3.hok x _ (by rw [upd_ne (Ne.symm ne), upd_same])).1
      rw [upd_comm (Ne.symm ne)] at I3
      have I4 := inv_untrack I3 (by rw [upd_ne (Ne.symm ne)]; exact ox.free)
      exact q x dx t' s' I4 hdx ox ne e'
    | next => exact False.elim hq
    | brk => exact False.elim hq
    | cont => exact False.elim hq
def hash (m : Str) : Str := ⟨#[35] ++ m.cps⟩
theorem ss_raiseF (C : Sk D W Γ X k) (hc : Γ.calm = true) {x fl : Str} {n f : Nat} {p0 p1 : Pos} (hx : x ∈ Γ.G) (hU : hash x ∈ Γ.U) (hg : Γ.gl (hash x) = .xin n f x fl) (hst : noStar a = true) (ha : PE X a (rdE D W g)) :
    PS X (.Raise (some (.Call (.Name x p0) [a] [] p1)) none pos) (rdS D W (sRaiseF n f g)) := by
  rintro pins s σ H E I ⟨φ, α, τ, μ, sr, mr, p⟩
  have q := (C.glU _ hU).1
  rw [hg] at q
  obtain ⟨C0, HE, fI, fd, ps, kk, ad, hm, hfl, xi, hb, hkk, F⟩ := q
  have hr := (C.rom hc).mono hkk
  obtain ⟨N, nm, qn, bs, hdd, sn, sub, ab, col, dd, k0, k1, k2, k3, k5, g1, g2, g3, g4⟩ := xi.at_ I.ok.mod.kin
  have hbase : (Value.ref HE :: veMro).contains (.type "BaseException") = true := g4.hasType PySem.F.excBase_ValueError.hasBase
  have body : wpAny (model X.prog X.w) X.A (eval (.Call (.Name x p0) [a] [] p1) X.env) (fun v s1 => ∃ e t dx, v = .ref e ∧ s1.heap.get? C0 = some (excClassObj nm qn C0 N bs (.ref HE :: veMro) hdd sn sub ab col dd k0 k1 k2 k3 k5 "ValueError.__new__") ∧
      s1.heap.get? e = some { cls := .ref C0, dict := dx, data := .fields #[.ref t, .none, .none, .none, .bool false, .none] } ∧ X.xe (.ref e) s1) X.xe s := by
    refine wpAny_Call_ofName (ld_glob I (C.glb x hx) hm ?_ (C.dbG x hx))
    refine PySem.W.callWith_K (K := X.K) (first := []) (h₀ := X.base) I.ok.mod.kin xi.kp (thn (pa_cons ha pa_nil (noStar_of hst) p1 pins s σ H (fun vs H1 => ∃ v t μ1 α1, vs = [v] ∧ Stp α H α1 H1 ∧ SRel D φ α1 H1 τ σ ∧ MRel D φ α1 H1 μ1 ∧ Den D φ α1 H1 t v ∧ PostS D W φ α1 H1 E ((match t with
      | .int i => .grd (i.natAbs.log2 < 1920) (.ex n [(f, .int i)] τ μ1)
      | _ => .st : Out))) I ⟨φ, α, τ, μ, sr, mr, (PostS.out sr p).mono fun t μ' α' H' st m q v d => ⟨v, t, μ', α', rfl, st, sr.step st, m, d, q⟩⟩) ?_) (noStar_of hst) rfl
    rintro us s1 ⟨vs, H1, I1, rv, v, t, μ1, α1, rfl, st1, sr1, mr1, d1, p1⟩
    obtain ⟨u, rfl, r⟩ : ∃ u, us = [u] ∧ RelV v u := by
      cases rv with
      | cons r1 r2 => cases r2; exact ⟨_, rfl, r1⟩
    refine ⟨I1.kIn, ?_⟩
    cases t <;> first | (obtain ⟨Q, q, _⟩ := p1; exact q.elim) | skip
    rename_i i
    obtain ⟨hlog, p2⟩ := PostS.grd p1
    cases d1
    refine run_xin xi hb hr F I1 r hlog fun e dx t s' I2 hdx oe ne he => ?_
    refine ⟨e, t, some dx, rfl, I2.bk _ _ g1, he, C.xe _ _ ?_⟩
    have sm : Same H1 (upd H1 dx (.xd [(fl, .int i)])) := same_upd hdx
    have st2 : Stp α1 H1 α1 (upd H1 dx (.xd [(fl, .int i)])) := Stp.new sm
    refine ⟨e, .ref C0, some dx, σ, _, none, .none, rfl, I2.pins_of (fun p hp => absurd hp (by simp)), ⟨by rw [upd_ne (Ne.symm ne)]; exact oe.free, oe.loc, oe.nfs, oe.new, oe.cel, oe.pin⟩, fun t ht => absurd ht (by simp), ⟨⟨_, _, .ref t, he, ⟨rfl, rfl⟩, rfl, rfl, rfl⟩, rfl⟩, .inl rfl, ?_⟩
    refine PostS.ex p2 st2 (mr1.new sm) (sr1.step st2) ad ⟨_, fresh_phi mr1 hdx, fresh_out mr1 hdx, upd_same, ?_⟩
    exact ⟨fl, .int i, [], hfl, rfl, rfl, rfl⟩
  rw [arm_exec_Raise]
  first
    | exact wpAny_bind (wpAny_standAt (raise_init hbase (I.ok.hd (C.clm hc)) (wpAny_bind (wpAny_mono body (fun v s₃ h₃ => wpAny_bind (wpAny_standAt (wpAny_pure h₃))) fun _ _ x => x))))
    | (simp only [evalOpt, Option.map]; exact wpAny_bind (wpAny_standAt (raise_init hbase (I.ok.hd (C.clm hc)) (wpAny_bind (wpAny_mono body (fun v s₃ h₃ => wpAny_bind (wpAny_standAt (wpAny_pure h₃))) fun _ _ x => x)))))
end
def rsRaiF : SR := fun r Γ s => match s with
  | .Raise (some (.Call (.Name x _) [a] [] _)) none _ => gd (Γ.calm && (idx Γ.N x).isNone && Γ.G.contains x && Γ.U.contains (hash x) && noStar a) ((r.e Γ a).bind fun g => (match Γ.gl (hash x) with
    | .xin c f nm _ => gd (nm == x) (some (sRaiseF c f g))
    | _ => none))
  | _ => none
theorem rsRaiF_ok {D : DP} : SOk D rsRaiF := by
  intro r H X W Γ k e d C h
  unfold rsRaiF at h
  split at h
  · rename_i x p0 a p1 p2
    have hh := gd_of h
    clear h
    obtain ⟨hb, h⟩ := hh
    simp only [Bool.and_eq_true] at hb
    obtain ⟨⟨⟨⟨h0, h2⟩, h3⟩, h4⟩, h5⟩ := hb
    obtain ⟨g, h6, h⟩ := bnd h
    cases hl : Γ.gl (hash x) with
    | xin c f nm fl =>
      simp only [hl] at h
      obtain ⟨h7, h8⟩ := gd_of h
      have h7 := beq_iff_eq.mp h7
      subst h7
      cases h8
      exact ss_raiseF C h0 (by simpa using h3) (by simpa using h4) hl h5 (H.e C.toCk h6)
    | _ => simp [hl] at h
  · cases h
section
open PySem.W
end
section
variable {X : Cx} {D : DP} {W : XW} {Γ : Cn} {k : Nat} {pins : List (Addr × Obj)} {s : Shared} {σ : St} {H : Hp} {φ α : List Addr} {τ : Sl} {μ : Mem} {a : Expr} {pos : Pos} {f : De}
end
end NH
end
section
end
section
set_option linter.all false
set_option maxRecDepth 100000
namespace NH.P
open PySem L2 NH
@[reducible] def b_is_word : List Ds := [(sIf (tOr (tNot (tE (eIsi [3] (eV 0)))) (tE (eCmp .NotEq (eB1 lenT (eV 0)) (eV 1)))) [(sRet (eC (.bl false)))] []), (sRet (eB1 allT (eComp 1 [] (.one 0) (iE (eV 0)) [] (eCmp .In (eV 0) (eC (.str "0123456789abcdefghjkmnpqrstvwxyz"))))))]
def is_word : Fn := fnW 2 0 b_is_word
@[reducible] def b_number_of : List Ds := [(sSet 1 (eC (.int 0))), (sFor (.one 2) (iE (eV 0)) [(sSet 1 (eBin .Add (eBin .Mult (eV 1) (eC (.int 32))) (eIndex (eC (.str "0123456789abcdefghjkmnpqrstvwxyz")) (eV 2))))]), (sRet (eV 1))]
def number_of : Fn := fnW 1 2 b_number_of
@[reducible] def b_read_name : List Ds := [(sIf (tNot (tE (eCall is_word [(eV 1), (eCall width [(eV 0)])]))) [(sRaiseF 14 28 (eC (.int 0)))] []), (sSet 2 (eCall number_of [(eV 1)])), (sIf (tNot (tE (eCall is_name [(eV 0), (eV 2)]))) [(sRaiseF 14 28 (eC (.int 0)))] []), (sRet (eV 2))]
def read_name : Fn := fnW 2 1 b_read_name
@[reducible] def b_l_width : List Ds := [(sSet 1 (eBin .Sub (eBin .Mult (eBin .Mult (eIx (eV 0) (eC (.int 0))) (eIx (eV 0) (eC (.int 1)))) (eIx (eV 0) (eC (.int 2)))) (eC (.int 1)))), (sSet 2 (eC (.int 1))), (sWhile (tE (eCmp .GtE (eV 1) (eC (.int 32)))) [(sSet 1 (eBin .FloorDiv (eV 1) (eC (.int 32)))), (sSet 2 (eBin .Add (eV 2) (eC (.int 1))))]), (sRet (eV 2))]
def l_width : Fn := fnW 1 2 b_l_width
@[reducible] def b_l_text_2 : List Ds := [(sSet 2 (eC (.str "0123456789abcdefghjkmnpqrstvwxyz"))), (sSet 3 (eC (.str ""))), (sFor (.one 4) (iRng (eCall l_width [(eV 0)])) [(sSet 3 (eBin .Add (eIx (eV 2) (eBin .BitAnd (eBin .RShift (eV 1) (eBin .Mult (eC (.int 5)) (eV 4))) (eC (.int 31)))) (eV 3)))]), (sRet (eV 3))]
def l_text_2 : Fn := fnW 2 3 b_l_text_2
end NH.P
end
section
set_option linter.all false
set_option maxRecDepth 100000
set_option maxHeartbeats 1000000
namespace NH
open PySem PySem.Spec PyProof.Rows L2
section
variable {prog : Program} {w : World} {A : Around} {E : Value → Shared → Prop} {s : Shared}
end
section
variable {X : Cx} {D : DP} {W : XW} {Γ : Cn} {k : Nat} {pins : List (Addr × Obj)} {s : Shared} {σ : St} {H : Hp} {φ α : List Addr} {τ : Sl} {μ : Mem} {f g : De} {a b : Expr} {pos : Pos}
end
end NH
end
section
set_option linter.all false
set_option maxRecDepth 100000
set_option maxHeartbeats 1000000
namespace NH
open PySem PySem.Spec PyProof.Rows L2
section
variable {X : Cx} {D : DP} {W : XW} {Γ : Cn} {k : Nat} {f : De} {pos : Pos}
end
end NH
end
section
set_option linter.all false
set_option maxRecDepth 100000
set_option maxHeartbeats 1000000
namespace NH
open PySem PySem.Spec PyProof.Rows L2
section
variable {X : Cx} {D : DP} {W : XW} {Γ : Cn} {k : Nat} {pins : List (Addr × Obj)} {s : Shared} {σ : St} {H : Hp} {φ α : List Addr} {τ : Sl} {μ : Mem} {f g : De} {fs : List De} {a b c : Expr} {pos : Pos} {es : List Expr}
end
section
variable {P : Program} {w : World} {K : PySem.W.Frag} {mg : Str → Option Value} {base : Heap} {D : DP} {k n : Nat}
end
end NH
end
section
set_option linter.all false
set_option maxRecDepth 100000
set_option maxHeartbeats 1000000
namespace NH
open PySem PySem.Spec PyProof.Rows L2
def lstAt (i : Nat) (t : T) (μ : Mem) (zs : List T) : Prop := t = .lst zs ∨ ∃ j, t = .mut j ∧ j ≠ i ∧ μ[j]? = some (.lst zs)
section
variable {X : Cx} {D : DP} {W : XW} {Γ : Cn} {k : Nat} {pins : List (Addr × Obj)} {s : Shared} {σ : St} {H : Hp} {φ α : List Addr} {τ : Sl} {μ : Mem} {f g : De} {fs : List De} {a b c : Expr} {pos : Pos} {es : List Expr}
end
end NH
end
section
set_option linter.all false
set_option maxRecDepth 100000
set_option maxHeartbeats 1000000
namespace NH
open PySem PySem.Spec PyProof.Rows L2
section
variable {X : Cx} {D : DP} {W : XW} {Γ : Cn} {k : Nat} {pins : List (Addr × Obj)} {s : Shared} {σ : St} {H : Hp} {φ α : List Addr} {τ : Sl} {μ : Mem} {f g : De} {a b : Expr} {pos : Pos}
end
section
variable {X : Cx} {D : DP} {W : XW} {Γ : Cn} {k : Nat} {f : De} {a : Expr}
end
end NH
end
section
set_option linter.all false
set_option maxRecDepth 100000
set_option maxHeartbeats 1000000
namespace NH
open PySem PySem.Spec PyProof.Rows L2
section
variable {X : Cx} {D : DP} {W : XW} {Γ : Cn} {k : Nat} {pins : List (Addr × Obj)} {s : Shared} {σ : St} {H : Hp} {φ α : List Addr} {τ : Sl} {μ : Mem} {f g : De} {a b : Expr} {pos : Pos}
end
end NH
end
section
set_option linter.all false
set_option maxRecDepth 100000
set_option maxHeartbeats 1000000
namespace NH
open PySem PySem.Spec PyProof.Rows L2
section
variable {prog : Program} {w : World} {A : Around} {E : Value → Shared → Prop} {s : Shared} {l I S : Addr} {vs : List Value} {R : Result → Shared → Prop} {Q : Value → Shared → Prop} {κ : Type}
end
section
variable {X : Cx} {D : DP} {W : XW} {Γ : Cn} {k : Nat} {pins : List (Addr × Obj)} {s : Shared} {σ : St} {H : Hp} {φ α : List Addr} {τ : Sl} {μ : Mem} {f : De}
end
end NH
end
section
set_option linter.all false
set_option maxRecDepth 100000
set_option maxHeartbeats 1000000
namespace NH
open PySem PySem.Spec PyProof.Rows L2
end NH
end
section
set_option linter.all false
set_option maxRecDepth 100000
set_option maxHeartbeats 1000000
namespace NH
open PySem PySem.Spec PyProof.Rows L2
abbrev eJoin (o f : De) : De := fun τ μ => (o τ μ).bind fun ot μ1 => match ot with
  | .str sep => (f τ μ1).bind fun t μ2 => match t with
    | .lst ts => fun K _ => ∃ ys, strsOf ts = some ys ∧ JoinOk sep ys = true ∧ K (.str (Txt.join sep ys)) μ2
    | .mut i => fun K _ => ∃ ts, μ2[i]? = some (.lst ts) ∧ ∃ ys, strsOf ts = some ys ∧ JoinOk sep ys = true ∧ K (.str (Txt.join sep ys)) μ2
    | _ => .st
  | _ => .st
section
variable {X : Cx} {D : DP} {W : XW} {Γ : Cn} {k : Nat} {f : De} {a : Expr}
theorem mt_join : MtR X "str.join" (fun x vs H Q => ∃ (sep : Str) (l : Addr) (ws : List V) (ys : List Str), x = .str sep ∧ vs = [.ref l] ∧ Rd H l (.lst ws) ∧ ws = ys.map V.str ∧ JoinOk sep ys = true ∧ Q (.str (Txt.join sep ys)) H) := by
  intro pins s σ H x vs v us Q I rx rv h
  obtain ⟨sep, l, ws, ys, rfl, rfl, hH, rfl, hok, q⟩ := h
  obtain ⟨t0, rfl⟩ := rx
  obtain ⟨u1, rfl, r1⟩ := vals1 rv
  cases r1
  obtain ⟨its, r, pl, _⟩ := I.list (.inl hH)
  have key : ∀ {ys : List Str} {us : List Value}, Vals (ys.map V.str) us → ∃ ls : List (Str × Tok), strValues ls = us ∧ ls.map (·.1) = ys := by
    intro ys
    induction ys with
    | nil => intro us r; cases r; exact ⟨[], rfl, rfl⟩
    | cons y ys ih =>
      intro us r
      cases r with
      | cons r1 r2 =>
        obtain ⟨t, rfl⟩ := r1
        obtain ⟨ls, rfl, e⟩ := ih r2
        exact ⟨(y, t) :: ls, rfl, by simp [e]⟩
  obtain ⟨ls, e1, e2⟩ := key r
  have hl := pl.isList
  rw [← e1] at hl
  exact SC.join hl e2 hok fun t' k => ⟨.str _, H, I.tok _, ⟨_, rfl⟩, q⟩
def jOb (o : Expr) : Bool := plainOb o || (match o with | .Constant _ _ _ => true | _ => false)
theorem base_j {o : Expr} {f : Str} {env : Env} (h : jOb o = true) : attributeBase o f env (eval o env) = eval o env := by
  cases hp : plainOb o with
  | true => exact base_of hp
  | false =>
    unfold jOb at h
    rw [hp] at h
    cases o with
    | Constant _ _ _ => rfl
    | _ => cases h
theorem se_join {o : Expr} {pa pc : Pos} {go : De} (hp : jOb o = true) (hs : noStar a = true) (hline : (pa.endLine == pc.line) = true) (ho : PE X o (rdE D W go)) (ha : PE X a (rdE D W f)) :
    PE X (.Call (.Attribute o "join" pa) [a] [] pc) (rdE D W (eJoin go f)) := by
  have hb2 : starEach [a] X.env = [(false, eval a X.env)] := noStar_of hs
  refine PE.mono (pe_bm PySem.F.plainAttrs_str PySem.F.slot_str_join PySem.F.type_str_join mt_join ho (pa_cons ha pa_nil (noStar_of hs)) (base_j hp) (by rw [hb2]; rfl) hline (noStar_of hs) rfl) ?_
  rintro σ H Q ⟨φ, α, τ, μ, sr, mr, p⟩
  refine ⟨φ, α, τ, μ, sr, mr, p.bind.mono fun ot μ1 α1 H1 st1 m1 q ov dv => ?_⟩
  split at q
  case h_2 => exact q.elim
  have dv : ov = .str _ := dv
  subst dv
  refine ⟨rfl, φ, α1, τ, μ1, sr.step st1, m1, q.bind.mono fun t μ2 α2 H2 st2 m2 q2 v d => ?_⟩
  split at q2
  · obtain ⟨K, Z, ⟨ys, h1, h2, q3⟩, hk, hz⟩ := q2
    obtain ⟨ad, xs, rfl, _, _, rd, l⟩ := d
    exact ⟨_, ad, xs, ys, rfl, rfl, rd, strsOf_den h1 l, h2, hk _ _ q3 α2 H2 (Stp.refl _ _) m2 _ rfl⟩
  · obtain ⟨K, Z, ⟨ts, hj, ys, h1, h2, q3⟩, hk, hz⟩ := q2
    obtain ⟨ad, hi, rfl⟩ := d
    obtain ⟨xs, rd, l⟩ := m2.ob _ ad _ hi hj
    exact ⟨_, ad, xs, ys, rfl, rfl, .inl rd, strsOf_den h1 l, h2, hk _ _ q3 α2 H2 (Stp.refl _ _) m2 _ rfl⟩
  · exact q2.elim
end
def rJoin : ER := fun r Γ e => match e with
  | .Call (.Attribute o m pa) [a] [] pc => gd (m == ("join" : Str) && jOb o && noStar a && pa.endLine == pc.line) ((r.e Γ o).bind fun f => (r.e Γ a).bind fun g => some (eJoin f g))
  | _ => none
theorem rJoin_ok {D : DP} : EOk D rJoin := by
  intro r H X W Γ k e d C h
  unfold rJoin at h
  split at h
  · have hh := gd_of h
    clear h
    obtain ⟨hb, h⟩ := hh
    simp only [Bool.and_eq_true] at hb
    obtain ⟨⟨⟨h0, h2⟩, h3⟩, h4⟩ := hb
    have h0 := beq_iff_eq.mp h0
    subst h0
    obtain ⟨f, h1, h⟩ := bnd h
    obtain ⟨g, h5, h⟩ := bnd h
    cases h
    exact se_join h2 h3 h4 (H.e C h1) (H.e C h5)
  · cases h
end NH
end
section
set_option linter.all false
set_option maxRecDepth 100000
namespace NH.P
open PySem L2 NH
@[reducible] def b_check_text : List Ds := [(sIf (tNot (tE (eIsi [3] (eV 0)))) [(sRaiseF 14 28 (eC (.int 0)))] [])]
def check_text : Fn := fnW 1 0 b_check_text
@[reducible] def b_show_book : List Ds := [(sExpr (eCall check_book [(eV 0), (eV 1)])), (sRet (eJoin (eC (.str "\n")) (eComp 1 [0] (.one 0) (iE (eV 1)) [] (eBin .Add (eBin .Add (eIx (eV 0) (eC (.int 0))) (eC (.str " "))) (eCall show_name [(eV 1), (eIx (eV 0) (eC (.int 1)))])))))]
def show_book : Fn := fnW 2 0 b_show_book
@[reducible] def b_read_entry : List Ds := [(sSet 3 (eM1T splitC splitT (eV 1) (eC (.str " ")))), (sIf (tOr (tE (eCmp .NotEq (eB1 lenT (eV 3)) (eC (.int 2)))) (tNot (tE (eCall is_holder [(eIx (eV 3) (eC (.int 0)))])))) [(sRaiseF 14 28 (eV 2))] []), (sTry [(sRet (eTup [(eIx (eV 3) (eC (.int 0))), (eCall read_name [(eV 0), (eIx (eV 3) (eC (.int 1)))])]))] [([14], none, [sSt])])]
def read_entry : Fn := fnW 3 1 b_read_entry
@[reducible] def b_read_book : List Ds := [(sExpr (eCall check_text [(eV 1)])), (sIf (tE (eCmp .Eq (eV 1) (eC (.str "")))) [(sRet (eLay []))] []), (sSet 2 (eM1T splitC splitT (eV 1) (eC (.str "\n")))), (sRet (eCompL 1 [2, 0] (.one 0) (iRng (eB1 lenT (eV 2))) [] (eCall read_entry [(eV 2), (eIx (eV 1) (eV 0)), (eV 0)])))]
def read_book : Fn := fnW 2 1 b_read_book
@[reducible] def b_l_holder : List Ds := [(sSet 1 (eC (.str "abcdefghijklmnopqrstuvwxyz"))), (sSet 2 (eCall l_next [(eV 0), (eC (.int 4))])), (sIf (tE (eCmp .Eq (eV 2) (eC (.int 0)))) [(sSet 3 (eLst [(eC (.str "any")), (eC (.str "lease")), (eC (.str "ask")), (eC (.str "store")), (eC (.str "take")), (eC (.str "back")), (eC (.str "fall")), (eC (.str "bare")), (eC (.str "runs")), (eC (.str "stands")), (eC (.str "world")), (eC (.str "judge"))])), (sRet (eIx (eBin .Add (eV 3) (eLst [(eC (.str "who")), (eC (.str "tell")), (eC (.str "book")), (eC (.str "z"))])) (eCall l_next [(eV 0), (eC (.int 16))])))] []), (sIf (tE (eCmp .Eq (eV 2) (eC (.int 1)))) [(sSet 4 (eSl (eC (.str "bcdefghi")) pN (pS (eBin .Add (eC (.int 1)) (eCall l_next [(eV 0), (eC (.int 8))]))))), (sSet 5 (eCall l_next [(eV 0), (eB1 lenT (eV 4))])), (sRet (eBin .Add (eBin .Add (eSl (eV 4) pN (pS (eV 5))) (eIx (eC (.str "axz")) (eCall l_next [(eV 0), (eC (.int 3))]))) (eSl (eV 4) (pS (eBin .Add (eV 5) (eC (.int 1)))) pN)))] []), (sRet (eJoin (eC (.str "")) (eComp 1 [1, 0] (.one 0) (iRng (eBin .Add (eC (.int 1)) (eCall l_next [(eV 0), (eC (.int 8))]))) [] (eIx (eV 1) (eCall l_next [(eV 2), (eC (.int 26))])))))]
def l_holder : Fn := fnW 1 5 b_l_holder
@[reducible] def b_l_refused_5 : List Ds := [(sSet 2 (eC (.bl false))), (sTry [(sExpr (eCall show_book [(eV 0), (eV 1)]))] [([10], some 3, [(sSet 2 (eAnd (eIsi [13] (eV 3)) (eAnd (eIsi [11] (eV 3)) (eNot (eIsi [17, 14] (eV 3))))))])]), (sRet (eV 2))]
def l_refused_5 : Fn := fnW 2 2 b_l_refused_5
@[reducible] def b_law_k83 : List Ds := [(sSet 1 (eCall l_shape [(eCall l_begin [(eCall l_cell_at [(eV 0), (eC (.int 0))])])])), (sSet 2 (eMk 40 Shape_init [(eIx (eV 1) (eC (.int 0))), (eIx (eV 1) (eC (.int 1))), (eIx (eV 1) (eC (.int 2)))])), (sSet 3 (eBin .Mult (eBin .Mult (eIx (eV 1) (eC (.int 0))) (eIx (eV 1) (eC (.int 1)))) (eIx (eV 1) (eC (.int 2))))), (sSet 4 (eLay [])), (sFor (.one 5) (iE (eSl (eV 0) (pS (eC (.int 1))) (pS (eC (.int 13))))) [(sSet 6 (eCall l_begin [(eV 5)])), (sExpr (eApp (eV 4) (eTup [(eCall l_holder [(eV 6)]), (eCall l_name [(eV 6), (eV 1)])])))]), (sSet 7 (eJoin (eC (.str "\n")) (eComp 2 [1] (.tup [0, 1]) (iE (eV 4)) [] (eBin .Add (eBin .Add (eV 0) (eC (.str " "))) (eCall l_text_2 [(eV 2), (eV 1)]))))), (sSet 8 (eB1 listT (eV 4))), (sIf (tOr (tE (eCmp .NotEq (eCall show_book [(eV 2), (eV 8)]) (eV 7))) (tOr (tE (eCmp .NotEq (eCall show_book [(eV 2), (eV 8)]) (eV 7))) (tE (eCmp .NotEq (eV 8) (eV 4))))) [(sRet (eC (.bl false)))] []), (sFor (.one 9) (iRng (eC (.int 2))) [(sSet 10 (eCall read_book [(eV 2), (eV 7)])), (sIf (tOr (tNot (tE (eIsi [5] (eV 10)))) (tOr (tE (eCmp .NotEq (eV 10) (eV 4))) (tE (eCmp .NotEq (eComp 1 [] (.one 0) (iE (eV 10)) [(tNot (tE (eIsi [4] (eV 0))))] (eV 0)) (eLst []))))) [(sRet (eC (.bl false)))] []), (sExpr (eApp (eV 10) (eTup [(eC (.str "anna")), (eC (.int 0))]))), (sPut (eV 10) (eC (.int 0)) (eC .non))]), (sIf (tOr (tE (eCmp .NotEq (eCall show_book [(eV 2), (eLst [])]) (eC (.str "")))) (tE (eCmp .NotEq (eCall read_book [(eV 2), (eC (.str ""))]) (eLst [])))) [(sRet (eC (.bl false)))] []), (sSet 11 (eBin .Mod (eCall l_cell_at [(eV 0), (eC (.int 13))]) (eBin .Add (eB1 lenT (eV 4)) (eC (.int 1))))), (sRet (eCall l_refused_5 [(eV 2), (eBin .Add (eBin .Add (eSl (eV 4) pN (pS (eV 11))) (eLst [(eTup [(eC (.str "anna")), (eBin .Add (eV 3) (eV 11))])])) (eSl (eV 4) (pS (eV 11)) pN))]))]
def law_k83 : Fn := fnW 1 11 b_law_k83
end NH.P
end
section
set_option linter.all false
set_option maxRecDepth 100000
set_option maxHeartbeats 4000000
namespace NH.K83
open PySem PySem.Spec PyProof.Rows L2 NH NH.P
def st (i : Nat) : Stmt := PySem.Challenge.pw_namehouses_k83_books_as_texts.main.body.getD i (.Pass ⟨0, 0, 0, 0⟩)
def cls : List (Str × Nat) := [("HouseError", 10), ("NoHolder", 17), ("NoName", 13), ("NoText", 14), ("ValueError", 11), ("bool", 1), ("int", 2), ("list", 5), ("str", 3), ("tuple", 4)]
def fld : List (Str × Nat) := [("moments", 0), ("houses", 1), ("counts", 2), ("line", 28)]
def RU : Rules := ⟨[rCon, rNam, rBin, rUn, rBool, rCmp, rFld, rSub, rLst, rCal, rLen, rList, rAll, rIsi, rApp, rIndex, rJoinR, rJoin, rComp, rSplit], [rtVal], [rwBool], [riRng, riE], [roLst, roComp], [rsRet, rsExp, rsIf, rsAsg, rsFor, rsWhl, rsRai, rsRaiF, rsTry, rsAny]⟩
theorem RU_ok {D : DP} : RulesOk D RU := ⟨⟨rCon_ok, rNam_ok, rBin_ok, rUn_ok, rBool_ok, rCmp_ok, rFld_ok, rSub_ok, rLst_ok, rCal_ok, rLen_ok, rList_ok, rAll_ok, rIsi_ok, rApp_ok, rIndex_ok, rJoinR_ok, rJoin_ok, rComp_ok, rSplit_ok, trivial⟩, ⟨rtVal_ok, trivial⟩, ⟨rwBool_ok, trivial⟩, ⟨riRng_ok, riE_ok, trivial⟩, ⟨roLst_ok, roComp_ok, trivial⟩, ⟨rsRet_ok, rsExp_ok, rsIf_ok, rsAsg_ok, rsFor_ok, rsWhl_ok, rsRai_ok, rsRaiF_ok, rsTry_ok, rsAny_ok, trivial⟩⟩
def gs0 : List (Str × GM) := plainGs ["ValueError", "all", "bool", "int", "isinstance", "len", "list", "range", "reversed", "str", "tuple"] [("HouseError", 10), ("NoShape", 12), ("NoName", 13), ("NoHolder", 17)] [("NoText", 14, 28)]
def s_NoText_init := inClass (st 4) 0
def gs1 : List (Str × GM) := (hash "NoText", GM.xin 14 28 "NoText" "line") :: gs0
def gs2 : List (Str × GM) := (hash "line", GM.xin 14 28 "NoText" "line") :: gs1
def s_is_whole := st 7
def g_is_whole : Cn := cn cls fld gs2 ["thing"] ["isinstance", "int", "bool"] [] []
theorem k_is_whole : mapE ((comp RU 60).s g_is_whole) (defBody s_is_whole) = some b_is_whole := by kernel_rfl
def gs3 : List (Str × GM) := ("is_whole", GM.fn is_whole) :: gs2
def s_is_size := st 8
def g_is_size : Cn := cn cls fld gs3 ["thing"] ["is_whole"] [] []
theorem k_is_size : mapE ((comp RU 60).s g_is_size) (defBody s_is_size) = some b_is_size := by kernel_rfl
def gs4 : List (Str × GM) := ("is_size", GM.fn is_size) :: gs3
def s_is_below := st 9
def g_is_below : Cn := cn cls fld gs4 ["thing", "bound"] ["is_whole"] [] []
theorem k_is_below : mapE ((comp RU 60).s g_is_below) (defBody s_is_below) = some b_is_below := by kernel_rfl
def gs5 : List (Str × GM) := ("is_below", GM.fn is_below) :: gs4
def s_Shape_init := inClass (st 10) 0
def g_Shape_init : Cn := cn cls fld gs5 ["self", "moments", "houses", "counts"] ["is_size", "NoShape"] [] []
theorem k_Shape_init : mapE ((comp RU 60).s g_Shape_init) (defBody s_Shape_init) = some b_Shape_init := by kernel_rfl
def gs6 : List (Str × GM) := ("Shape", GM.mk 40 true Shape_init) :: gs5
def s_names_in := st 11
def g_names_in : Cn := cn cls fld gs6 ["shape"] [] [] []
theorem k_names_in : mapE ((comp RU 60).s g_names_in) (defBody s_names_in) = some b_names_in := by kernel_rfl
def gs7 : List (Str × GM) := ("names_in", GM.fn names_in) :: gs6
def s_is_name := st 12
def g_is_name : Cn := cn cls fld gs7 ["shape", "thing"] ["is_below", "names_in"] [] []
theorem k_is_name : mapE ((comp RU 60).s g_is_name) (defBody s_is_name) = some b_is_name := by kernel_rfl
def gs8 : List (Str × GM) := ("is_name", GM.fn is_name) :: gs7
def s_check_name := st 13
def g_check_name : Cn := cn cls fld gs8 ["shape", "thing"] ["is_name", "NoName"] [] []
theorem k_check_name : mapE ((comp RU 60).s g_check_name) (defBody s_check_name) = some b_check_name := by kernel_rfl
def gs9 : List (Str × GM) := ("check_name", GM.fn check_name) :: gs8
def gs10 : List (Str × GM) := ("LETTERS", GM.cst (.str "abcdefghijklmnopqrstuvwxyz")) :: gs9
def gs11 : List (Str × GM) := ("LONGEST_HOLDER", GM.cst (.int 8)) :: gs10
def s_is_holder := st 17
def g_is_holder : Cn := cn cls fld gs11 ["thing"] ["isinstance", "str", "len", "LONGEST_HOLDER", "all"] [] []
theorem k_is_holder : mapE ((comp RU 60).s g_is_holder) (defBody s_is_holder) = some b_is_holder := by kernel_rfl
def gs12 : List (Str × GM) := ("is_holder", GM.fn is_holder) :: gs11
def s_is_entry := st 19
def g_is_entry : Cn := cn cls fld gs12 ["shape", "thing"] ["isinstance", "tuple", "len", "is_holder", "is_name"] [] []
theorem k_is_entry : mapE ((comp RU 60).s g_is_entry) (defBody s_is_entry) = some b_is_entry := by kernel_rfl
def gs13 : List (Str × GM) := ("is_entry", GM.fn is_entry) :: gs12
def s_check_book := st 20
def g_check_book : Cn := cn cls fld gs13 ["shape", "thing"] ["isinstance", "list", "all", "NoName"] ["shape"] []
theorem k_check_book : mapE ((comp RU 60).s g_check_book) (defBody s_check_book) = some b_check_book := by kernel_rfl
def gs14 : List (Str × GM) := ("check_book", GM.fn check_book) :: gs13
def gs15 : List (Str × GM) := ("SIGNS", GM.cst (.str "0123456789abcdefghjkmnpqrstvwxyz")) :: gs14
def gs16 : List (Str × GM) := ("BASE", GM.cst (.int 32)) :: gs15
def s_length_for := st 24
def g_length_for : Cn := cn cls fld gs16 ["many", "length", "room"] ["BASE"] [] []
theorem k_length_for : mapE ((comp RU 60).s g_length_for) (defBody s_length_for) = some b_length_for := by kernel_rfl
def gs17 : List (Str × GM) := ("length_for", GM.fn length_for) :: gs16
def s_word_of := st 25
def g_word_of : Cn := cn cls fld gs17 ["number", "length", "signs", "rest", "place"] ["range", "SIGNS", "BASE", "reversed"] [] ["signs"]
theorem k_word_of : mapE ((comp RU 60).s g_word_of) (defBody s_word_of) = some b_word_of := by kernel_rfl
def gs18 : List (Str × GM) := ("word_of", GM.fn (pureFn word_of)) :: gs17
def s_is_word := st 26
def g_is_word : Cn := cn cls fld gs18 ["thing", "length"] ["isinstance", "str", "len", "all"] [] []
theorem k_is_word : mapE ((comp RU 60).s g_is_word) (defBody s_is_word) = some b_is_word := by kernel_rfl
def gs19 : List (Str × GM) := ("is_word", GM.fn is_word) :: gs18
def s_number_of := st 27
def g_number_of : Cn := cn cls fld gs19 ["word", "number", "sign"] ["BASE", "SIGNS"] [] []
theorem k_number_of : mapE ((comp RU 60).s g_number_of) (defBody s_number_of) = some b_number_of := by kernel_rfl
def gs20 : List (Str × GM) := ("number_of", GM.fn number_of) :: gs19
def s_width := st 29
def g_width : Cn := cn cls fld gs20 ["shape"] ["length_for", "names_in"] [] []
theorem k_width : mapE ((comp RU 60).s g_width) (defBody s_width) = some b_width := by kernel_rfl
def gs21 : List (Str × GM) := ("width", GM.fn width) :: gs20
def s_show_name := st 30
def g_show_name : Cn := cn cls fld gs21 ["shape", "name"] ["check_name", "word_of", "width"] [] []
theorem k_show_name : mapE ((comp RU 60).s g_show_name) (defBody s_show_name) = some b_show_name := by kernel_rfl
def gs22 : List (Str × GM) := ("show_name", GM.fn show_name) :: gs21
def s_read_name := st 31
def g_read_name : Cn := cn cls fld gs22 ["shape", "text", "name"] ["is_word", "width", "NoText", "number_of", "is_name"] [] []
theorem k_read_name : mapE ((comp RU 60).s g_read_name) (defBody s_read_name) = some b_read_name := by kernel_rfl
def gs23 : List (Str × GM) := ("read_name", GM.fn read_name) :: gs22
def gs24 : List (Str × GM) := ("BLANK", GM.cst (.str " ")) :: gs23
def gs25 : List (Str × GM) := ("BETWEEN_LINES", GM.cst (.str "\n")) :: gs24
def s_check_text := st 35
def g_check_text : Cn := cn cls fld gs25 ["thing"] ["isinstance", "str", "NoText"] [] []
theorem k_check_text : mapE ((comp RU 60).s g_check_text) (defBody s_check_text) = some b_check_text := by kernel_rfl
def gs26 : List (Str × GM) := ("check_text", GM.fn check_text) :: gs25
def s_show_book := st 36
def g_show_book : Cn := cn cls fld gs26 ["shape", "book"] ["check_book", "BETWEEN_LINES"] ["shape"] []
theorem k_show_book : mapE ((comp RU 60).s g_show_book) (defBody s_show_book) = some b_show_book := by kernel_rfl
def gs27 : List (Str × GM) := ("show_book", GM.fn show_book) :: gs26
def s_read_entry := st 37
def g_read_entry : Cn := cn cls fld gs27 ["shape", "text", "line", "words"] ["BLANK", "len", "is_holder", "NoText", "read_name"] [] []
theorem k_read_entry : mapE ((comp RU 60).s g_read_entry) (defBody s_read_entry) = some b_read_entry := by kernel_rfl
def gs28 : List (Str × GM) := ("read_entry", GM.fn read_entry) :: gs27
def s_read_book := st 38
def g_read_book : Cn := cn cls fld gs28 ["shape", "text", "lines"] ["check_text", "BETWEEN_LINES", "range", "len"] ["shape", "lines"] ["return"]
theorem k_read_book : mapE ((comp RU 60).s g_read_book) (defBody s_read_book) = some b_read_book := by kernel_rfl
def gs29 : List (Str × GM) := ("read_book", GM.fn read_book) :: gs28
def s_l_cell_at := st 40
def g_l_cell_at : Cn := cn cls fld gs29 ["_law_script", "_law_k"] ["len"] [] []
theorem k_l_cell_at : mapE ((comp RU 60).s g_l_cell_at) (defBody s_l_cell_at) = some b_l_cell_at := by kernel_rfl
def gs30 : List (Str × GM) := ("_law_cell_at", GM.fn l_cell_at) :: gs29
def s_l_begin := st 41
def g_l_begin : Cn := cn cls fld gs30 ["_law_cell"] [] [] ["return"]
theorem k_l_begin : mapE ((comp RU 60).s g_l_begin) (defBody s_l_begin) = some b_l_begin := by kernel_rfl
def gs31 : List (Str × GM) := ("_law_begin", GM.fn l_begin) :: gs30
def s_l_next := st 42
def g_l_next : Cn := cn cls fld gs31 ["_law_state", "_law_base", "_law_found", "_law_number"] [] [] []
theorem k_l_next : mapE ((comp RU 60).s g_l_next) (defBody s_l_next) = some b_l_next := by kernel_rfl
def gs32 : List (Str × GM) := ("_law_next", GM.fn l_next) :: gs31
def s_l_holder := st 43
def g_l_holder : Cn := cn cls fld gs32 ["_law_state", "_law_letters", "_law_way", "_law_some", "_law_word", "_law_at"] ["_law_next", "len", "range"] ["_law_state", "_law_letters"] []
theorem k_l_holder : mapE ((comp RU 60).s g_l_holder) (defBody s_l_holder) = some b_l_holder := by kernel_rfl
def gs33 : List (Str × GM) := ("_law_holder", GM.fn l_holder) :: gs32
def s_l_big := st 44
def g_l_big : Cn := cn cls fld gs33 ["_law_state", "_law_far"] ["_law_next"] [] []
theorem k_l_big : mapE ((comp RU 60).s g_l_big) (defBody s_l_big) = some b_l_big := by kernel_rfl
def gs34 : List (Str × GM) := ("_law_big", GM.fn l_big) :: gs33
def s_l_shape := st 45
def g_l_shape : Cn := cn cls fld gs34 ["_law_state", "_law_sizes"] ["_law_big", "_law_next"] [] []
theorem k_l_shape : mapE ((comp RU 60).s g_l_shape) (defBody s_l_shape) = some b_l_shape := by kernel_rfl
def gs35 : List (Str × GM) := ("_law_shape", GM.fn l_shape) :: gs34
def s_l_name := st 46
def g_l_name : Cn := cn cls fld gs35 ["_law_state", "_law_sizes", "_law_many", "_law_way"] ["_law_next", "_law_big"] [] []
theorem k_l_name : mapE ((comp RU 60).s g_l_name) (defBody s_l_name) = some b_l_name := by kernel_rfl
def gs36 : List (Str × GM) := ("_law_name", GM.fn l_name) :: gs35
def s_l_width := st 47
def g_l_width : Cn := cn cls fld gs36 ["_law_sizes", "_law_many", "_law_found"] [] [] []
theorem k_l_width : mapE ((comp RU 60).s g_l_width) (defBody s_l_width) = some b_l_width := by kernel_rfl
def gs37 : List (Str × GM) := ("_law_width", GM.fn l_width) :: gs36
def s_l_text_2 := st 48
def g_l_text_2 : Cn := cn cls fld gs37 ["_law_sizes", "_law_name_here", "_law_signs", "_law_text_here", "_law_place"] ["range", "_law_width"] [] []
theorem k_l_text_2 : mapE ((comp RU 60).s g_l_text_2) (defBody s_l_text_2) = some b_l_text_2 := by kernel_rfl
def gs38 : List (Str × GM) := ("_law_text", GM.fn l_text_2) :: gs37
def s_l_refused_5 := st 49
def g_l_refused_5 : Cn := cn cls fld gs38 ["_law_shape_here", "_law_book", "_law_found", "e"] ["show_book", "HouseError", "isinstance", "NoName", "ValueError", "NoHolder", "NoText"] [] []
theorem k_l_refused_5 : mapE ((comp RU 60).s g_l_refused_5) (defBody s_l_refused_5) = some b_l_refused_5 := by kernel_rfl
def gs39 : List (Str × GM) := ("_law_refused", GM.fn l_refused_5) :: gs38
def s_law_k83 := st 50
def g_law_k83 : Cn := cn cls fld gs39 ["_law_script", "_law_sizes", "_law_shape_here", "_law_many", "_law_book", "_law_cell", "_law_state", "_law_text_here", "_law_handed", "_law_turn", "_law_found", "_law_at"] ["_law_shape", "_law_begin", "_law_cell_at", "Shape", "_law_holder", "_law_name", "list", "show_book", "range", "read_book", "isinstance", "len", "_law_refused"] ["_law_sizes"] ["_law_book"]
theorem k_law_k83 : mapE ((comp RU 60).s g_law_k83) (defBody s_law_k83) = some b_law_k83 := by kernel_rfl
end NH.K83
end
section
set_option linter.all false
set_option maxRecDepth 100000
set_option maxHeartbeats 4000000
namespace NH
open PySem PySem.Spec PyProof.Rows L2
theorem br_dec {p : Prop} {i : Decidable p} {A B : Prop} (h1 : p → A) (h2 : ¬ p → B) : brW (decide p) A B := by
  cases i with
  | isTrue h => exact h1 h
  | isFalse h => exact h2 h
theorem br_pos {p : Prop} {i : Decidable p} {A B : Prop} (h : p) (a : A) : brW (decide p) A B := br_dec (fun _ => a) fun n => absurd h n
theorem br_neg {p : Prop} {i : Decidable p} {A B : Prop} (h : ¬ p) (b : B) : brW (decide p) A B := br_dec (fun y => absurd y h) fun _ => b
theorem brn_dec {p : Prop} {i : Decidable p} {A B : Prop} (h1 : p → B) (h2 : ¬ p → A) : brW (!decide p) A B := by
  cases i with
  | isTrue h => exact h1 h
  | isFalse h => exact h2 h
theorem brn_pos {p : Prop} {i : Decidable p} {A B : Prop} (h : p) (b : B) : brW (!decide p) A B := brn_dec (fun _ => b) fun n => absurd h n
theorem br_t {b : Bool} {A B : Prop} (h : b = true) (a : A) : brW b A B := by rw [h]; exact a
theorem br_f {b : Bool} {A B : Prop} (h : b = false) (a : B) : brW b A B := by rw [h]; exact a
theorem compO_pure {tg : Tg} {g : Sl → Mem → RE (Option T)} {lv : Mem → Prop} {τ : Sl} {μ : Mem} {Z : Xp} (f : T → Option T) {xs : List T} {K : List T → Mem → Prop}
    (h : ∀ x ∈ xs, ∀ k : Option T → Mem → Prop, k (f x) μ → ∃ τ', asg tg x τ = some τ' ∧ g τ' μ k Z) (k : K (xs.filterMap f) μ) (hl : lv μ := by trivial) : compO tg g lv τ xs μ K Z := by
  induction xs generalizing K with
  | nil => exact k
  | cons x r ih =>
    unfold compO
    obtain ⟨τ', e, hg⟩ := h x List.mem_cons_self (fun o μ1 => lv μ1 ∧ (match o with
      | some y => (compO tg g lv τ r μ1).bind fun ys μ2 => RE.ok (y :: ys) μ2
      | none => compO tg g lv τ r μ1) K Z) (by
        refine ⟨hl, ?_⟩
        cases q : f x with
        | none =>
          rw [List.filterMap_cons_none q] at k
          exact ih (fun y hy => h y (List.mem_cons_of_mem _ hy)) k
        | some y =>
          rw [List.filterMap_cons_some q] at k
          exact ih (K := fun ys μ2 => K (y :: ys) μ2) (fun y hy => h y (List.mem_cons_of_mem _ hy)) k)
    exact ⟨τ', e, hg⟩
theorem compO_map {tg : Tg} {g : Sl → Mem → RE (Option T)} {lv : Mem → Prop} {τ : Sl} {μ : Mem} {Z : Xp} (f : T → T) {xs : List T} {K : List T → Mem → Prop}
    (h : ∀ x ∈ xs, ∀ k : Option T → Mem → Prop, k (some (f x)) μ → ∃ τ', asg tg x τ = some τ' ∧ g τ' μ k Z) (k : K (xs.map f) μ) (hl : lv μ := by trivial) : compO tg g lv τ xs μ K Z :=
  compO_pure (fun x => some (f x)) h (by rw [List.filterMap_eq_map']; exact k) hl
theorem compO_inv {tg : Tg} {g : Sl → Mem → RE (Option T)} {lv : Mem → Prop} {τ : Sl} {Z : Xp} (I : Nat → List T → Mem → Prop) {xs : List T} {K : List T → Mem → Prop} {μ : Mem}
    (h0 : I 0 [] μ) (h : ∀ i x ys μ, xs[i]? = some x → I i ys μ → ∀ k : Option T → Mem → Prop, (∀ o μ', I (i + 1) (match o with | some y => ys ++ [y] | none => ys) μ' → k o μ') → ∃ τ', asg tg x τ = some τ' ∧ g τ' μ k Z)
    (k : ∀ ys μ', I xs.length ys μ' → K ys μ') (hl : ∀ i ys μ, I i ys μ → lv μ := by intros; trivial) : compO tg g lv τ xs μ K Z := by
  have go : ∀ (rest : List T) (i : Nat) (ys : List T) (μ : Mem) (K : List T → Mem → Prop), xs.drop i = rest → i ≤ xs.length → I i ys μ → (∀ zs μ', I xs.length (ys ++ zs) μ' → K zs μ') → compO tg g lv τ rest μ K Z := by
    intro rest
    induction rest with
    | nil =>
      intro i ys μ K hd hi hI hK
      have : i = xs.length := by
        have := congrArg List.length hd
        simp at this; omega
      subst this
      exact hK [] μ (by simpa using hI)
    | cons x r ih =>
      intro i ys μ K hd hi hI hK
      have hx : xs[i]? = some x := by
        have : (xs.drop i)[0]? = some x := by rw [hd]; rfl
        simpa using this
      have hlt : i < xs.length := (List.getElem?_eq_some_iff.mp hx).1
      have hd' : xs.drop (i + 1) = r := by
        have : (xs.drop i).tail = r := by rw [hd]; rfl
        simpa using this
      unfold compO
      refine h i x ys μ hx hI _ fun o μ' hI' => ⟨hl _ _ _ hI', ?_⟩
      cases o with
      | none => exact ih (i + 1) ys μ' K hd' hlt hI' hK
      | some y => exact ih (i + 1) (ys ++ [y]) μ' _ hd' hlt hI' fun zs μ2 hz => hK (y :: zs) μ2 (by simpa using hz)
  exact go xs 0 [] μ K rfl (Nat.zero_le _) h0 fun zs μ' hz => k zs μ' (by simpa using hz)
theorem forM_inv {tg : Tg} {body : Ds} {lv : Mem → Prop} {xs : List T} {τ : Sl} {μ : Mem} {E : En} (I : Nat → Sl → Mem → Prop) (h0 : I 0 τ μ)
    (h : ∀ i x τ μ, xs[i]? = some x → I i τ μ → ∀ N : Sl → Mem → Prop, (∀ τ μ, I (i + 1) τ μ → N τ μ) → ∃ τ', asg tg x τ = some τ' ∧ body τ' μ (E.turn N))
    (k : ∀ τ μ, I xs.length τ μ → E.nx τ μ) (hl : ∀ i τ μ, I i τ μ → lv μ := by intros; trivial) : forM tg body lv xs τ μ E := by
  have go : ∀ (rest : List T) (i : Nat) (τ : Sl) (μ : Mem), xs.drop i = rest → i ≤ xs.length → I i τ μ → forM tg body lv rest τ μ E := by
    intro rest
    induction rest with
    | nil =>
      intro i τ μ hd hi hI
      have : i = xs.length := by
        have := congrArg List.length hd
        simp at this; omega
      subst this
      exact k τ μ hI
    | cons x r ih =>
      intro i τ μ hd hi hI
      have hx : xs[i]? = some x := by
        have : (xs.drop i)[0]? = some x := by rw [hd]; rfl
        simpa using this
      have hlt : i < xs.length := (List.getElem?_eq_some_iff.mp hx).1
      have hd' : xs.drop (i + 1) = r := by
        have : (xs.drop i).tail = r := by rw [hd]; rfl
        simpa using this
      exact h i x τ μ hx hI _ fun τ2 μ2 z => ⟨hl _ _ _ z, ih (i + 1) τ2 μ2 hd' hlt z⟩
  exact go xs 0 τ μ rfl (Nat.zero_le _) h0
theorem while_inv {c : Dt} {body : List Ds} {τ : Sl} {μ : Mem} {E : En} (I : Nat → Sl → Mem → Prop) (n : Nat) (h0 : I n τ μ)
    (h : ∀ n τ μ, I n τ μ → ∀ N : Sl → Mem → Prop, (∀ m τ μ, m < n → I m τ μ → N τ μ) → c τ μ (fun b μ1 => brW b (blks body τ μ1 (E.turn N)) (E.nx τ μ1)) (fun k fs μ1 => E.ex k fs τ μ1)) : sWhile c body τ μ E :=
  ⟨I, ⟨n, h0⟩, fun n τ μ hI => h n τ μ hI _ fun m τ μ hm hi => ⟨m, hm, hi⟩⟩
end NH
end
section
set_option linter.all false
set_option maxRecDepth 100000
set_option maxHeartbeats 400000
namespace NH.P
open PySem L2 NH
local macro_rules | `(tactic| walk_at "grd") => `(tactic| first | decide | exact Or.inl (by decide) | exact Or.inr (by decide) | omega | (simp only [big, room]; omega) | fail)
local macro_rules | `(tactic| walk_at "go") => `(tactic| repeat' (first | (with_reducible refine ⟨_, rfl, ?_⟩) | (with_reducible refine ⟨?w, ?h, ?_⟩; case h => exact rfl) | (with_reducible refine And.intro ?_ ?_; walk_at "grd") | (with_reducible refine brn_pos ?_ ?_; rfl) | (with_reducible refine br_pos ?_ ?_; rfl) | (with_reducible refine brn_neg ?_ ?_; decide) | (with_reducible refine br_neg ?_ ?_; decide) | fail))
variable {μ : Mem} {K : T → Mem → Prop} {Z : Xp}
theorem is_whole_int {i : Int} (k : K (.bl true) μ) : is_whole [.int i] μ K Z := ⟨rfl, k⟩
theorem rangeT_get {n : Int} {i : Nat} {x : T} (h : (rangeT n)[i]? = some x) : x = .int i ∧ (i : Int) < n := by
  unfold rangeT at h
  rw [List.getElem?_map] at h
  cases q : (List.range n.toNat)[i]? with
  | none => rw [q] at h; cases h
  | some j =>
    rw [q] at h
    obtain ⟨hl, e⟩ := List.getElem?_eq_some_iff.mp q
    have e : i = j := by simpa using e
    subst e
    cases h
    simp at hl
    exact ⟨rfl, by omega⟩
theorem rangeT_len {n : Int} : (rangeT n).length = n.toNat := by simp [rangeT]
def isL (z : Str) : Bool := !(Builtin.Str.occurrences "abcdefghijklmnopqrstuvwxyz" z 0 (Str.length "abcdefghijklmnopqrstuvwxyz") 1).isEmpty
def sgn (z : Str) : List Str := z.cps.toList.map fun c => ⟨#[c]⟩
theorem signsT_eq (z : Str) : signsT z = (sgn z).map T.str := by simp [signsT, sgn]
theorem sgn_len (z : Str) : (sgn z).length = z.length := by simp [sgn, Str.length]
def holderF (z : Str) : Bool := decide (1 ≤ (z.length : Int)) && decide ((z.length : Int) ≤ 8) && (sgn z).all isL
theorem bools_map {α : Type} (f : α → Bool) : ∀ xs : List α, bools (xs.map fun x => T.bl (f x)) = some (xs.map f)
  | [] => rfl
  | x :: r => by simp [bools, bools_map f r]
theorem is_holder_str {z : Str} (hz : z.length ≤ room) (q : K (.bl (holderF z)) μ) : is_holder [.str z] μ K Z := by
  unfold is_holder
  refine ⟨rfl, ?_⟩
  unfold holderF at q
  refine ⟨hz, ?_⟩
  refine br_dec (fun h1 => ?_) (fun h1 => ?_)
  · refine brn_dec (fun h2 => ?_) (fun h2 => ?_)
    · show (signsT z).length ≤ room ∧ _
      rw [signsT_eq]
      refine ⟨by rw [List.length_map, sgn_len]; exact hz, ?_⟩
      refine compO_map (fun x => match x with | .str y => .bl (isL y) | t => t) (fun x hx k hk => ?_) ?_
      · obtain ⟨y, hy, rfl⟩ := List.mem_map.mp hx
        exact ⟨_, rfl, hk⟩
      · rw [List.map_map]
        refine ⟨_, bools_map isL (sgn z), ?_⟩
        rw [decide_eq_true h1, decide_eq_true h2] at q
        rw [List.all_map]
        exact q
    · have q : K (.bl false) μ := by simpa [h2] using q
      exact q
  · have q : K (.bl false) μ := by simpa [h1] using q
    exact q
theorem is_holder_c {z : Str} {b : Bool} (hz : z.length ≤ room) (h : holderF z = b) (q : K (.bl b) μ) : is_holder [.str z] μ K Z := is_holder_str hz (by rw [h]; exact q)
theorem ixAt_pos {α : Type} {xs : List α} {k : Int} (h0 : 0 ≤ k) (h1 : k < xs.length) : ixAt xs k = xs[k.toNat]? := by
  unfold ixAt ixNo
  rw [if_pos h0, if_pos h1]
  rfl
theorem som_ix {α : Type} {xs : List α} {k : Int} {n : Nat} {P : α → Prop} (hl : xs.length = n) (h0 : 0 ≤ k) (h1 : k < n) (q : ∀ c, xs[k.toNat]? = some c → P c) : ∃ c, ixAt xs k = some c ∧ P c := by
  rw [ixAt_pos h0 (by omega)]
  exact ⟨xs[k.toNat]'(by omega), by simp, q _ (by simp)⟩
theorem one_len (c : Nat) : (⟨#[c]⟩ : Str).length = 1 := rfl
theorem cutL_mem {α : Type} {xs : List α} {lo hi : Option Int} {x : α} (h : x ∈ cutL xs lo hi) : x ∈ xs := List.mem_of_mem_drop (List.mem_of_mem_take h)
end NH.P
namespace NH.K06
open PySem L2 NH NH.P
local macro_rules | `(tactic| walk_at "grd") => `(tactic| first | decide | exact Or.inl (by decide) | exact Or.inr (by decide) | omega | (simp only [big, room]; omega) | fail)
local macro_rules | `(tactic| walk_at "go") => `(tactic| repeat' (first | (with_reducible refine ⟨_, rfl, ?_⟩) | (with_reducible refine ⟨?w, ?h, ?_⟩; case h => exact rfl) | (with_reducible refine And.intro ?_ ?_; walk_at "grd") | (with_reducible refine brn_pos ?_ ?_; rfl) | (with_reducible refine br_pos ?_ ?_; rfl) | (with_reducible refine brn_neg ?_ ?_; decide) | (with_reducible refine br_neg ?_ ?_; decide) | fail))
end NH.K06
end
section
set_option linter.all false
set_option maxRecDepth 100000
set_option maxHeartbeats 400000
namespace NH.P
open PySem L2 NH
local macro_rules | `(tactic| walk_at "grd") => `(tactic| first | decide | exact Or.inl (by decide) | exact Or.inr (by decide) | omega | (simp only [big, room]; omega) | fail)
local macro_rules | `(tactic| walk_at "go") => `(tactic| repeat' (first | (with_reducible refine ⟨_, rfl, ?_⟩) | (with_reducible refine ⟨?w, ?h, ?_⟩; case h => exact rfl) | (with_reducible refine And.intro ?_ ?_; walk_at "grd") | (with_reducible refine brn_pos ?_ ?_; rfl) | (with_reducible refine br_pos ?_ ?_; rfl) | (with_reducible refine brn_neg ?_ ?_; decide) | (with_reducible refine br_neg ?_ ?_; decide) | fail))
variable {μ μ1 μ2 : Mem} {K : T → Mem → Prop} {Z : Xp}
def SG : Str := "0123456789abcdefghjkmnpqrstvwxyz"
def code (d : Nat) : Nat := SG.cps.toList.getD d 0
def sg (d : Nat) : Str := ⟨#[code d]⟩
theorem sg_all : (List.range 32).all (fun d => match Builtin.Str.occurrences SG (sg d) 0 SG.length 1 with | i :: _ => i == d | [] => false) = true := by decide +kernel
theorem sg_len : SG.cps.toList.length = 32 := by decide +kernel
theorem sg_occ {d : Nat} (h : d < 32) : ∃ r, Builtin.Str.occurrences SG (sg d) 0 SG.length 1 = d :: r := by
  have q := List.all_eq_true.mp sg_all d (List.mem_range.mpr h)
  split at q
  · rename_i i r e
    rw [e, beq_iff_eq.mp q]; exact ⟨r, rfl⟩
  · cases q
theorem sg_at {i : Int} (h0 : 0 ≤ i) (h1 : i < 32) : ixAt SG.cps.toList i = some (code i.toNat) := by
  have hl : i < (SG.cps.toList.length : Int) := by rw [sg_len]; exact h1
  rw [ixAt_pos h0 hl]
  unfold code
  rw [List.getD_eq_getElem?_getD, List.getElem?_eq_getElem (by omega)]
  rfl
def digs (n : Int) : Nat → List Nat
  | 0 => []
  | L + 1 => digs (n / 32) L ++ [code (n % 32).toNat]
def wd (n : Int) (L : Nat) : Str := ⟨(digs n L).toArray⟩
theorem digs_len : ∀ (L : Nat) (n : Int), (digs n L).length = L
  | 0, _ => rfl
  | L + 1, n => by simp [digs, digs_len L]
theorem digs_cons : ∀ (L : Nat) (n : Int), digs n (L + 1) = code (n / 32 ^ L % 32).toNat :: digs n L
  | 0, n => by simp [digs]
  | L + 1, n => by
    have e : digs n (L + 2) = digs (n / 32) (L + 1) ++ [code (n % 32).toNat] := rfl
    rw [e, digs_cons L (n / 32), Int.ediv_ediv_of_nonneg (by decide), show (32 : Int) * 32 ^ L = 32 ^ (L + 1) by rw [Int.pow_succ, Int.mul_comm]]
    rfl
def m32 (x : Int) : 0 ≤ x % 32 ∧ x % 32 < 32 := ⟨Int.emod_nonneg _ (by decide), Int.emod_lt_of_pos _ (by decide)⟩
structure Wd (many : Int) (L : Nat) : Prop where
  l1 : 1 ≤ L
  l2 : L ≤ 24
  up : many ≤ 32 ^ L
  lo : L = 1 ∨ 32 ^ (L - 1) < many
theorem p32 {i j : Nat} (h : i ≤ j) : (32 : Int) ^ i ≤ 32 ^ j := by
  have q : 32 ^ i ≤ 32 ^ j := Nat.pow_le_pow_right (by decide) h
  exact_mod_cast q
theorem Wd.le {many : Int} {L M : Nat} (a : Wd many L) (b : Wd many M) : L ≤ M := by
  rcases a.lo with h | h
  · have := b.l1; omega
  · by_cases q : L ≤ M
    · exact q
    · have := p32 (show M ≤ L - 1 by omega)
      have := b.up
      omega
theorem Wd.eq {many : Int} {L M : Nat} (a : Wd many L) (b : Wd many M) : L = M := Nat.le_antisymm (a.le b) (b.le a)
theorem pow_step (L : Nat) : (32 : Int) ^ L * 32 = 32 ^ (L + 1) := (Int.pow_succ ..).symm
def lows (n : Int) : Nat → List Str
  | 0 => []
  | L + 1 => sg (n % 32).toNat :: lows (n / 32) L
theorem strs_lows : ∀ (L : Nat) (n : Int), strsOf ((lows n L).map T.str) = some (lows n L)
  | 0, _ => rfl
  | L + 1, n => by
    show (strsOf ((lows (n / 32) L).map T.str)).map _ = _
    rw [strs_lows L]; rfl
theorem lows_len : ∀ (L : Nat) (n : Int), (lows n L).length = L
  | 0, _ => rfl
  | L + 1, n => by simp [lows, lows_len L]
theorem lows_one : ∀ (L : Nat) (n : Int) (x : Str), x ∈ lows n L → x.length ≤ 1
  | 0, _, _, h => by simp [lows] at h
  | L + 1, n, x, h => by
    rcases List.mem_cons.mp h with rfl | h
    · exact Nat.le_refl 1
    · exact lows_one L _ x h
theorem fold_cat : ∀ (xs : List Str) (a : Array Nat), xs.foldl (fun acc p => acc ++ (Str.empty).cps ++ p.cps) a = a ++ (xs.map (·.cps.toList)).flatten.toArray
  | [], a => by simp
  | x :: xs, a => by
    rw [List.foldl_cons, fold_cat xs]
    apply Array.ext'
    simp [Str.empty]
theorem join_flat : ∀ (xs : List Str), Txt.join Str.empty xs = ⟨((xs.map (·.cps.toList)).flatten).toArray⟩
  | [] => by
    show (⟨([] : List Str).foldl _ (Str.empty).cps⟩ : Str) = _
    simp [Str.empty]
  | x :: xs => by
    show (⟨xs.foldl (fun acc p => acc ++ (Str.empty).cps ++ p.cps) x.cps⟩ : Str) = _
    rw [fold_cat]
    simp
theorem lows_flat : ∀ (L : Nat) (n : Int), (((lows n L).reverse.map (·.cps.toList)).flatten) = digs n L
  | 0, _ => rfl
  | L + 1, n => by
    simp only [lows, List.reverse_cons, List.map_append, List.flatten_append, lows_flat L]
    rfl
theorem digs_in : ∀ (L : Nat) (n : Int) (c : Nat), c ∈ digs n L → ∃ d, d < 32 ∧ c = code d
  | 0, _, _, h => by simp [digs] at h
  | L + 1, n, c, h => by
    rcases List.mem_append.mp h with h | h
    · exact digs_in L _ c h
    · refine ⟨(n % 32).toNat, ?_, List.mem_singleton.mp h⟩
      have := m32 n
      omega
theorem wd_len (n : Int) (L : Nat) : (wd n L).length = L := by
  show (digs n L).toArray.size = L
  simp [digs_len]
theorem p32_pos (L : Nat) : (0 : Int) < 32 ^ L := Int.pow_pos (by decide)
def St (μ : Mem) (i : Nat) : Prop := ∃ a b c : Int, μ[i]? = some (.lst [.int a, .int b, .int c])
structure Up (μ : Mem) (i : Nat) (μ' : Mem) : Prop where
  len : μ'.length = μ.length
  ot : ∀ j, j ≠ i → μ'[j]? = μ[j]?
  st : St μ' i
theorem Up.trans {i : Nat} (a : Up μ i μ1) (b : Up μ1 i μ2) : Up μ i μ2 := ⟨b.len.trans a.len, fun j h => (b.ot j h).trans (a.ot j h), b.st⟩
theorem get_set {i : Nat} {x y : MO} (h : μ[i]? = some x) : (μ.set i y)[i]? = some y := by
  have := (List.getElem?_eq_some_iff.mp h).1
  simp [this]
theorem Up.set {i : Nat} {x : MO} {a b c : Int} (h : μ[i]? = some x) : Up μ i (μ.set i (.lst [.int a, .int b, .int c])) := ⟨by simp, fun j hj => by rw [List.getElem?_set_ne (Ne.symm hj)], a, b, c, get_set h⟩
theorem get_last {x : MO} : (μ ++ [x])[μ.length]? = some x := by rw [List.getElem?_append_right (Nat.le_refl _)]; simp
theorem get_app {i : Nat} {x o : MO} (h : μ[i]? = some o) : (μ ++ [x])[i]? = some o := by
  rw [List.getElem?_append_left (List.getElem?_eq_some_iff.mp h).1]; exact h
theorem l_begin_sp {c : Int} (q : ∀ x y, K (.mut μ.length) (μ ++ [.lst [.int x, .int y, .int 0]])) : l_begin [.int c] μ K Z := by
  unfold l_begin
  refine ⟨rfl, ?_⟩
  walk_at "go"
  exact q _ _
theorem l_next_sp {i : Nat} {base : Int} (hs : St μ i) (h0 : 0 < base) (h1 : base < 1073741824) (q : ∀ v μ', 0 ≤ v → v < base → Up μ i μ' → K (.int v) μ') : l_next [.mut i, .int base] μ K Z := by
  obtain ⟨a, b, c, h⟩ := hs
  have mn : ∀ x : Int, 0 ≤ x % base ∧ x % base < base := fun x => ⟨Int.emod_nonneg _ (by omega), Int.emod_lt_of_pos _ h0⟩
  unfold l_next
  refine ⟨rfl, ?_⟩
  refine ⟨_, _, h, rfl, ?_⟩
  refine br_dec (fun h2 => ?_) (fun h2 => ?_)
  · refine ⟨_, _, h, rfl, h0, ?_⟩
    refine ⟨_, _, h, rfl, ⟨h0, by omega⟩, ?_⟩
    refine ⟨_, h, by simp, ?_⟩
    exact q _ _ (mn _).1 (mn _).2 (Up.set h)
  · refine ⟨_, _, h, rfl, ?_⟩
    refine ⟨_, h, by simp, ?_⟩
    refine ⟨_, _, get_set h, rfl, ?_⟩
    refine ⟨_, _, get_set h, rfl, ?_⟩
    walk_at "go"
    exact q _ _ (mn _).1 (mn _).2 (Up.set h)
theorem l_big_sp {i : Nat} (hs : St μ i) (q : ∀ v μ', 0 ≤ v → v < 1000000000000 → Up μ i μ' → K (.int v) μ') : l_big [.mut i] μ K Z := by
  unfold l_big
  refine ⟨rfl, ?_⟩
  walk_at "go"
  refine l_next_sp hs (by decide) (by decide) fun v1 μ1 a1 b1 u1 => ?_
  walk_at "go"
  refine l_next_sp u1.st (by decide) (by decide) fun v2 μ2 a2 b2 u2 => ?_
  walk_at "go"
  refine l_next_sp u2.st (by decide) (by decide) fun v3 μ3 a3 b3 u3 => ?_
  walk_at "go"
  refine l_next_sp u3.st (by decide) (by decide) fun v4 μ4 a4 b4 u4 => ?_
  walk_at "go"
  refine l_next_sp u4.st (by decide) (by decide) fun v5 μ5 a5 b5 u5 => ?_
  have m6 : (10 : Int) ^ (6 : Int).toNat = 1000000 := rfl
  rw [m6] at b1 b2 b4
  have U := (((u1.trans u2).trans u3).trans u4).trans u5
  have : v5 = 0 ∨ v5 = 1 ∨ v5 = 2 := by omega
  rcases this with rfl | rfl | rfl
  · exact ⟨_, rfl, q _ _ a3 (by omega) U⟩
  · exact ⟨_, rfl, q _ _ a4 (by omega) U⟩
  · exact ⟨_, rfl, q _ _ (by rw [m6]; omega) (by rw [m6]; omega) U⟩
structure Sz (x y z : Int) : Prop where
  x1 : 1 ≤ x
  x2 : x ≤ 1000000000000
  y1 : 1 ≤ y
  y2 : y ≤ 1000000000000
  z1 : 1 ≤ z
  z2 : z ≤ 1000000000000
theorem l_shape_sp {i : Nat} (hs : St μ i) (q : ∀ x y z μ', Sz x y z → Up μ i μ' → K (.lst [.int x, .int y, .int z]) μ') : l_shape [.mut i] μ K Z := by
  unfold l_shape
  refine ⟨rfl, ?_⟩
  walk_at "go"
  refine l_big_sp hs fun v1 μ1 a1 b1 u1 => ?_
  walk_at "go"
  refine l_big_sp u1.st fun v2 μ2 a2 b2 u2 => ?_
  walk_at "go"
  refine l_big_sp u2.st fun v3 μ3 a3 b3 u3 => ?_
  walk_at "go"
  refine l_next_sp u3.st (by decide) (by decide) fun v4 μ4 a4 b4 u4 => ?_
  have U := ((u1.trans u2).trans u3).trans u4
  refine br_dec (fun h => ?_) (fun h => ?_)
  · walk_at "go"
    refine l_next_sp u4.st (by decide) (by decide) fun v5 μ5 a5 b5 u5 => ?_
    have p5 : ∃ x, ixAt [T.int 1, .int 32, .int 1024, .int 32768] v5 = some (.int x) ∧ 1 ≤ x ∧ x ≤ 32768 := by
      have : v5 = 0 ∨ v5 = 1 ∨ v5 = 2 ∨ v5 = 3 := by omega
      rcases this with rfl | rfl | rfl | rfl
      · exact ⟨1, rfl, by decide, by decide⟩
      · exact ⟨32, rfl, by decide, by decide⟩
      · exact ⟨1024, rfl, by decide, by decide⟩
      · exact ⟨32768, rfl, by decide, by decide⟩
    obtain ⟨x, ex, x1, x2⟩ := p5
    refine ⟨_, ex, ?_⟩
    refine l_next_sp u5.st (by decide) (by decide) fun v6 μ6 a6 b6 u6 => ?_
    have p6 : ∃ x, ixAt [T.int 1, .int 32] v6 = some (.int x) ∧ 1 ≤ x ∧ x ≤ 32 := by
      have : v6 = 0 ∨ v6 = 1 := by omega
      rcases this with rfl | rfl
      · exact ⟨1, rfl, by decide, by decide⟩
      · exact ⟨32, rfl, by decide, by decide⟩
    obtain ⟨y, ey, y1, y2⟩ := p6
    refine ⟨_, ey, ?_⟩
    exact q _ _ _ _ ⟨x1, by omega, y1, by omega, by decide, by decide⟩ ((U.trans u5).trans u6)
  · exact q _ _ _ _ ⟨by omega, by omega, by omega, by omega, by omega, by omega⟩ U
theorem Sz.pos {x y z : Int} (h : Sz x y z) : 0 < x * y * z := Int.mul_pos (Int.mul_pos (by have := h.x1; omega) (by have := h.y1; omega)) (by have := h.z1; omega)
theorem Sz.le {x y z : Int} (h : Sz x y z) : x * y * z ≤ 1000000000000000000000000000000000000 := by
  have h1 : x * y ≤ 1000000000000 * 1000000000000 := Int.mul_le_mul h.x2 h.y2 (by have := h.y1; omega) (by decide)
  have h2 : x * y * z ≤ 1000000000000 * 1000000000000 * 1000000000000 := Int.mul_le_mul h1 h.z2 (by have := h.z1; omega) (by decide)
  exact h2
theorem l_name_sp {i : Nat} {x y z : Int} (hs : St μ i) (s : Sz x y z) (q : ∀ v μ', 0 ≤ v → v < x * y * z → Up μ i μ' → K (.int v) μ') : l_name [.mut i, .lst [.int x, .int y, .int z]] μ K Z := by
  have hp := s.pos
  obtain ⟨x1, x2, y1, y2, z1, z2⟩ := s
  unfold l_name
  refine ⟨rfl, ?_⟩
  walk_at "go"
  refine l_next_sp hs (by decide) (by decide) fun v1 μ1 a1 b1 u1 => ?_
  refine br_dec (fun h => ?_) (fun h => ?_)
  · have : v1 = 0 ∨ v1 = 1 := by omega
    rcases this with rfl | rfl
    · exact ⟨_, rfl, q _ _ (by omega) (by omega) u1⟩
    · exact ⟨_, rfl, q _ _ (by omega) (by omega) u1⟩
  · walk_at "go"
    refine l_big_sp u1.st fun v2 μ2 a2 b2 u2 => ?_
    walk_at "go"
    refine l_big_sp u2.st fun v3 μ3 a3 b3 u3 => ?_
    walk_at "go"
    refine l_big_sp u3.st fun v4 μ4 a4 b4 u4 => ?_
    refine ⟨hp, ?_⟩
    exact q _ _ (Int.emod_nonneg _ (by omega)) (Int.emod_lt_of_pos _ hp) (((u1.trans u2).trans u3).trans u4)
abbrev shp (x y z : Int) : T := .obj 40 [(0, .int x), (1, .int y), (2, .int z)]
theorem is_size_int {n : Int} (k : K (.bl (decide (1 ≤ n))) μ) : is_size [.int n] μ K Z := by
  unfold is_size
  refine ⟨rfl, ?_⟩
  refine is_whole_int ?_
  exact k
theorem Shape_init_sp {x y z : Int} (hx : 1 ≤ x) (hy : 1 ≤ y) (hz : 1 ≤ z) (q : K .non [.obj 40 [(0, .int x), (1, .int y), (2, .int z)]]) : Shape_init [.mut 0, .int x, .int y, .int z] [.obj 40 []] K Z := by
  unfold Shape_init
  refine ⟨rfl, ?_⟩
  refine is_size_int ?_
  refine br_pos hx ?_
  refine is_size_int ?_
  refine br_pos hy ?_
  refine is_size_int ?_
  refine brn_pos hz ?_
  refine ⟨_, _, rfl, by decide, ?_⟩
  refine ⟨_, _, rfl, (by (show (1 : Nat) < 900); decide), ?_⟩
  refine ⟨_, _, rfl, (by (show (2 : Nat) < 900); decide), ?_⟩
  exact q
theorem names_in_sp {x y z : Int} (s : Sz x y z) (q : K (.int (x * y * z)) μ) : names_in [shp x y z] μ K Z := by
  obtain ⟨x1, x2, y1, y2, z1, z2⟩ := s
  unfold names_in
  refine ⟨rfl, ?_⟩
  exact ⟨.inl ⟨by unfold big; omega, by unfold big; omega⟩, .inr ⟨by unfold big; omega, by unfold big; omega⟩, q⟩
theorem is_name_in {x y z n : Int} (s : Sz x y z) (h0 : 0 ≤ n) (h1 : n < x * y * z) (q : K (.bl true) μ) : is_name [shp x y z, .int n] μ K Z := by
  unfold is_name
  refine ⟨rfl, ?_⟩
  refine names_in_sp s ?_
  unfold is_below
  refine ⟨rfl, ?_⟩
  refine is_whole_int ?_
  refine br_pos h0 ?_
  have q : K (.bl (decide (n < x * y * z))) μ := by rw [decide_eq_true h1]; exact q
  exact q
theorem check_name_in {x y z n : Int} (s : Sz x y z) (h0 : 0 ≤ n) (h1 : n < x * y * z) (q : K .non μ) : check_name [shp x y z, .int n] μ K Z := by
  unfold check_name
  refine ⟨rfl, ?_⟩
  refine is_name_in s h0 h1 ?_
  exact q
theorem length_for_sp {many : Int} (hm : many ≤ 32 ^ 24) (q : ∀ L, Wd many L → K (.int L) μ) : length_for [.int many] μ K Z := by
  unfold length_for
  refine ⟨rfl, ?_⟩
  refine while_inv (fun n τ μ' => μ' = μ ∧ ∃ L : Nat, τ = [some (.int many), some (.int L), some (.int (32 ^ L))] ∧ 1 ≤ L ∧ n + L = 24 ∧ (L = 1 ∨ 32 ^ (L - 1) < many)) 23 ⟨rfl, 1, rfl, by decide, by decide, .inl rfl⟩ ?_
  rintro n τ _ ⟨rfl, L, rfl, h1, h2, h3⟩ N hN
  have hp : (32 : Int) ^ L ≤ 32 ^ 24 := p32 (by omega)
  refine br_dec (fun h => ?_) (fun h => ?_)
  · refine ⟨.inr (by decide), ?_⟩
    have hn : n ≠ 0 := fun z => by
      have : L = 24 := by omega
      subst this; omega
    exact hN (n - 1) _ _ (by omega) ⟨rfl, L + 1, by rw [pow_step]; rfl, by omega, by omega, .inr (by simpa using h)⟩
  · exact q L ⟨h1, by omega, by omega, h3⟩
theorem width_sp {x y z : Int} {L : Nat} (s : Sz x y z) (w : Wd (x * y * z) L) (q : K (.int L) μ) : width [shp x y z] μ K Z := by
  unfold width
  refine ⟨rfl, ?_⟩
  refine names_in_sp s ?_
  refine length_for_sp (Int.le_trans s.le (by decide)) fun M w' => ?_
  rw [w.eq w'] at q
  exact q
theorem wd_some {many : Int} (hm : many ≤ 32 ^ 24) : ∃ L, Wd many L := by
  have h := length_for_sp (μ := []) (K := fun t _ => ∃ L, Wd many L ∧ t = .int L) (Z := fun _ _ _ => False) hm fun L w => ⟨L, w, rfl⟩
  apply Classical.byContradiction
  intro hn
  have hd : ∀ n L : Nat, 1 ≤ L → n + L = 24 → (L = 1 ∨ 32 ^ (L - 1) < many) → False := by
    intro n
    induction n with
    | zero =>
      intro L h1 h2 h3
      have : L = 24 := by omega
      subst this
      exact hn ⟨24, by decide, by decide, hm, h3⟩
    | succ n ih =>
      intro L h1 h2 h3
      by_cases q : (32 : Int) ^ L < many
      · exact ih (L + 1) (by omega) (by omega) (.inr (by simpa using q))
      · exact hn ⟨L, h1, by omega, by omega, h3⟩
  exact hd 23 1 (by decide) (by decide) (.inl rfl)
theorem lows_snoc : ∀ (L : Nat) (n : Int), lows n (L + 1) = lows n L ++ [sg (n / 32 ^ L % 32).toNat]
  | 0, n => by simp [lows]
  | L + 1, n => by
    show sg (n % 32).toNat :: lows (n / 32) (L + 1) = _
    rw [lows_snoc L (n / 32), Int.ediv_ediv_of_nonneg (by decide), show (32 : Int) * 32 ^ L = 32 ^ (L + 1) by rw [Int.pow_succ, Int.mul_comm]]
    rfl
theorem word_of_sp {n : Int} {L : Nat} (h : L ≤ 24) (q : K (.str (wd n L)) μ) : pureFn word_of [.int n, .int L] μ K Z := by
  refine ⟨rfl, ?_⟩
  unfold word_of
  refine ⟨rfl, ?_⟩
  walk_at "go"
  refine forM_inv (fun i τ μ' => i ≤ 24 ∧ μ' = [.lst ((lows n i).map T.str)] ∧ ∃ o, τ = [some (.int n), some (.int L), some (.mut 0), some (.int (n / 32 ^ i)), o]) ⟨by decide, rfl, none, by rw [show n / 32 ^ 0 = n by simp]; rfl⟩ ?_ ?_
  · rintro i x τ _ hx ⟨hi, rfl, o, rfl⟩ N hN
    obtain ⟨rfl, hi2⟩ := rangeT_get hx
    have hm := m32 (n / 32 ^ i)
    refine ⟨_, rfl, ⟨_, rfl⟩, by decide, by decide, ?_⟩
    refine ⟨_, sg_at hm.1 hm.2, ?_⟩
    refine ⟨_, rfl, ?_, by decide, ?_⟩
    · rw [List.length_map, lows_len]; unfold room; omega
    · refine hN _ _ ⟨by omega, ?_, some (.int i), ?_⟩
      · rw [lows_snoc, List.map_append]; rfl
      · rw [show n / 32 ^ (i + 1) = n / 32 ^ i / 32 by rw [Int.ediv_ediv_of_nonneg (Int.le_of_lt (p32_pos i)), Int.pow_succ]]
        rfl
  · rintro τ _ ⟨_, rfl, o, rfl⟩
    rw [rangeT_len]
    have e : (L : Int).toNat = L := by simp
    rw [e]
    have e0 : Str.length "" = 0 := by decide +kernel
    refine ⟨_, _, rfl, strs_lows L n, ⟨?_, ?_⟩, ?_⟩
    · unfold JoinOk
      rw [StrLaws.joinFits (B := 1) (fun y hy => lows_one L n y (by simpa using hy)) (by rw [e0, List.length_reverse, lows_len]; omega)]
      rfl
    · rw [lows_len]; exact Nat.le_trans h (by decide)
    · have ej : Txt.join "" (lows n L).reverse = wd n L := by
        have := join_flat (lows n L).reverse
        rw [lows_flat] at this
        exact this
      rw [ej]
      exact ⟨rfl, q⟩
theorem show_name_in {x y z n : Int} {L : Nat} (s : Sz x y z) (w : Wd (x * y * z) L) (h0 : 0 ≤ n) (h1 : n < x * y * z) (q : K (.str (wd n L)) μ) : show_name [shp x y z, .int n] μ K Z := by
  unfold show_name
  refine ⟨rfl, ?_⟩
  refine check_name_in s h0 h1 ?_
  refine width_sp s w ?_
  exact word_of_sp w.l2 q
end NH.P
end
section
set_option linter.all false
set_option maxRecDepth 100000
set_option maxHeartbeats 400000
namespace NH.P
open PySem L2 NH PyProof.Rows
variable {μ μ1 μ2 : Mem} {K : T → Mem → Prop} {Z : Xp}
def inS (y : Str) : Bool := !(Builtin.Str.occurrences SG y 0 SG.length 1).isEmpty
def valS (y : Str) : Int := Txt.find SG y
def numF (ys : List Str) : Int := ys.foldl (fun a y => a * 32 + valS y) 0
theorem valS_in {y : Str} (h : inS y = true) : ∃ i r, Builtin.Str.occurrences SG y 0 SG.length 1 = i :: r ∧ valS y = (i : Nat) := by
  unfold inS at h
  unfold valS Txt.find
  cases q : Builtin.Str.occurrences SG y 0 SG.length 1 with
  | nil => rw [q] at h; cases h
  | cons i r => exact ⟨i, r, rfl, rfl⟩
theorem numF_snoc {ys : List Str} {y : Str} : numF (ys ++ [y]) = numF ys * 32 + valS y := by simp [numF]
theorem numF_nn {ys : List Str} (h : ys.all inS = true) : 0 ≤ numF ys := by
  have go : ∀ (l : List Str) (a : Int), 0 ≤ a → l.all inS = true → 0 ≤ l.foldl (fun a y => a * 32 + valS y) a := by
    intro l
    induction l with
    | nil => intro a h _; exact h
    | cons y r ih =>
      intro a ha hl
      simp only [List.all_cons, Bool.and_eq_true] at hl
      obtain ⟨i, _, _, e⟩ := valS_in hl.1
      exact ih _ (by show 0 ≤ a * 32 + valS y; rw [e]; omega) hl.2
  exact go ys 0 (by decide) h
theorem is_word_sp {z : Str} {L : Int} (hz : z.length ≤ room) (q : K (.bl (decide ((z.length : Int) = L) && (sgn z).all inS)) μ) : is_word [.str z, .int L] μ K Z := by
  unfold is_word
  refine ⟨rfl, ?_⟩
  refine ⟨hz, ?_⟩
  refine brn_dec (fun h1 => ?_) (fun h1 => ?_)
  · show (signsT z).length ≤ room ∧ _
    rw [signsT_eq]
    refine ⟨by rw [List.length_map, sgn_len]; exact hz, ?_⟩
    refine compO_map (fun x => match x with | .str y => .bl (inS y) | t => t) (fun x hx k hk => ?_) ?_
    · obtain ⟨y, hy, rfl⟩ := List.mem_map.mp hx
      exact ⟨_, rfl, hk⟩
    · rw [List.map_map]
      refine ⟨_, bools_map inS (sgn z), ?_⟩
      rw [decide_eq_true h1] at q
      rw [List.all_map]
      exact q
  · have q : K (.bl false) μ := by simpa [h1] using q
    exact q
theorem number_of_sp {z : Str} (h : (sgn z).all inS = true) (q : K (.int (numF (sgn z))) μ) : number_of [.str z] μ K Z := by
  unfold number_of
  refine ⟨rfl, ?_⟩
  refine forM_inv (fun i τ μ' => μ' = μ ∧ ∃ o, τ = [some (.str z), some (.int (numF ((sgn z).take i))), o]) ⟨rfl, none, rfl⟩ ?_ ?_
  · rintro i x τ _ hx ⟨rfl, o, rfl⟩ N hN
    rw [signsT_eq, List.getElem?_map] at hx
    cases hy : (sgn z)[i]? with
    | none => rw [hy] at hx; cases hx
    | some y =>
      rw [hy] at hx
      cases hx
      have hin : inS y = true := List.all_eq_true.mp h y (List.mem_of_getElem? hy)
      obtain ⟨j, r, e1, e2⟩ := valS_in hin
      refine ⟨_, rfl, ?_⟩
      refine ⟨.inr (by decide), ?_⟩
      refine ⟨j, r, e1, ?_⟩
      refine hN _ _ ⟨rfl, some (.str y), ?_⟩
      rw [List.take_add_one, hy, Option.toList_some, numF_snoc, e2]
      rfl
  · rintro τ _ ⟨rfl, o, rfl⟩
    rw [signsT_eq, List.length_map, List.take_of_length_le (Nat.le_refl _)]
    exact q
theorem is_name_sz {x y z n : Int} (s : Sz x y z) (q : K (.bl (decide (0 ≤ n) && decide (n < x * y * z))) μ) : is_name [shp x y z, .int n] μ K Z := by
  unfold is_name
  refine ⟨rfl, ?_⟩
  refine names_in_sp s ?_
  unfold is_below
  refine ⟨rfl, ?_⟩
  refine is_whole_int ?_
  refine br_dec (fun h => ?_) (fun h => ?_)
  · have q : K (.bl (decide (n < x * y * z))) μ := by simpa [h] using q
    exact q
  · have q : K (.bl false) μ := by simpa [h] using q
    exact q
def txtOk (many : Int) (L : Nat) (z : Str) : Bool := decide ((z.length : Int) = (L : Int)) && ((sgn z).all inS && decide (numF (sgn z) < many))
theorem read_name_sp {x y z : Int} {L : Nat} {t : Str} (s : Sz x y z) (w : Wd (x * y * z) L) (ht : t.length ≤ room) (q1 : txtOk (x * y * z) L t = true → K (.int (numF (sgn t))) μ) (q2 : txtOk (x * y * z) L t = false → Z 14 [(28, .int 0)] μ) : read_name [shp x y z, .str t] μ K Z := by
  unfold read_name
  refine ⟨rfl, ?_⟩
  refine width_sp s w ?_
  refine is_word_sp ht ?_
  unfold txtOk at q1 q2
  cases h1 : decide ((t.length : Int) = (L : Int)) with
  | false => rw [h1] at q2; exact ⟨by decide, q2 rfl⟩
  | true =>
    cases h2 : (sgn t).all inS with
    | false => rw [h1, h2] at q2; exact ⟨by decide, q2 rfl⟩
    | true =>
      refine number_of_sp h2 ?_
      refine is_name_sz s ?_
      rw [decide_eq_true (numF_nn h2)]
      rw [h1, h2] at q1 q2
      cases h3 : decide (numF (sgn t) < x * y * z) with
      | false => rw [h3] at q2; exact ⟨by decide, q2 rfl⟩
      | true => rw [h3] at q1; exact q1 rfl
structure Mg (x y z : Int) : Prop where
  a : (-big < x ∧ x < big) ∨ (-big < y ∧ y < big)
  b : (-big < x * y ∧ x * y < big) ∨ (-big < z ∧ z < big)
  p : 0 < x * y * z
theorem Sz.mg {x y z : Int} (s : Sz x y z) : Mg x y z := by
  have hp := s.pos
  obtain ⟨x1, x2, y1, y2, z1, z2⟩ := id s
  exact ⟨.inl ⟨by unfold big; omega, by unfold big; omega⟩, .inr ⟨by unfold big; omega, by unfold big; omega⟩, hp⟩
theorem l_width_sp {x y z : Int} {L : Nat} (s : Mg x y z) (w : Wd (x * y * z) L) (q : K (.int L) μ) : l_width [.lst [.int x, .int y, .int z]] μ K Z := by
  have hp := s.p
  unfold l_width
  refine ⟨rfl, ?_⟩
  refine ⟨_, rfl, _, rfl, s.a, _, rfl, s.b, ?_⟩
  refine while_inv (fun n τ μ' => μ' = μ ∧ ∃ k : Nat, τ = [some (.lst [.int x, .int y, .int z]), some (.int ((x * y * z - 1) / 32 ^ k)), some (.int ((k + 1 : Nat) : Int))] ∧ n + k = 40 ∧ k + 1 ≤ L) 40 ⟨rfl, 0, by rw [show (x * y * z - 1) / 32 ^ 0 = x * y * z - 1 by simp]; rfl, by decide, w.l1⟩ ?_
  rintro n τ _ ⟨rfl, k, rfl, h2, h3⟩ N hN
  have l2 := w.l2
  have pk := p32_pos k
  have pk1 := p32_pos (k + 1)
  have e32 : (32 : Int) ^ (k + 1) = 32 * 32 ^ k := by rw [← pow_step, Int.mul_comm]
  have estep : (x * y * z - 1) / 32 ^ k / 32 = (x * y * z - 1) / 32 ^ (k + 1) := by
    rw [Int.ediv_ediv_of_nonneg (Int.le_of_lt pk), pow_step]
  refine br_dec (fun h => ?_) (fun h => ?_)
  · refine ⟨⟨by decide, by decide⟩, ?_⟩
    have hge : (32 : Int) ^ (k + 1) ≤ x * y * z - 1 := by
      have := (Int.le_ediv_iff_mul_le pk).mp h
      rw [e32]; exact this
    refine hN (n - 1) _ _ (by omega) ⟨rfl, k + 1, ?_, by omega, ?_⟩
    · rw [estep]; rfl
    · have up := w.up
      by_cases c : k + 1 = L
      · rw [← c] at up; omega
      · omega
  · have hlt : x * y * z - 1 < 32 ^ (k + 1) := by
      have := Int.lt_of_not_ge h
      have := (Int.ediv_lt_iff_lt_mul pk).mp this
      rw [e32]; exact this
    have : L = k + 1 := by
      rcases w.lo with e | e
      · have := w.l1; omega
      · by_cases c : k + 1 ≤ L - 1
        · have := p32 c; omega
        · omega
    subst this
    exact q
theorem pow25 (k : Nat) : (2 : Int) ^ ((5 * (k : Int)).toNat) = 32 ^ k := by
  rw [show (5 * (k : Int)).toNat = 5 * k by omega, Int.pow_mul]; rfl
theorem wd_step (n : Int) (k : Nat) : (⟨#[code (n / 32 ^ k % 32).toNat]⟩ : Str) ++ wd n k = wd n (k + 1) := by
  show (⟨#[code (n / 32 ^ k % 32).toNat] ++ (digs n k).toArray⟩ : Str) = ⟨(digs n (k + 1)).toArray⟩
  rw [digs_cons]
  simp
theorem l_text2_sp {x y z n : Int} {L : Nat} (s : Mg x y z) (w : Wd (x * y * z) L) (q : K (.str (wd n L)) μ) : l_text_2 [.lst [.int x, .int y, .int z], .int n] μ K Z := by
  have l2 := w.l2
  unfold l_text_2
  refine ⟨rfl, ?_⟩
  refine l_width_sp s w ?_
  refine ⟨⟨by omega, by omega⟩, ?_⟩
  refine forM_inv (fun i τ μ' => μ' = μ ∧ i ≤ 24 ∧ ∃ o, τ = [some (.lst [.int x, .int y, .int z]), some (.int n), some (.str SG), some (.str (wd n i)), o]) ⟨rfl, by decide, none, rfl⟩ ?_ ?_
  · rintro i x τ _ hx ⟨rfl, hi, o, rfl⟩ N hN
    obtain ⟨rfl, hi2⟩ := rangeT_get hx
    refine ⟨_, rfl, ?_⟩
    refine ⟨.inl ⟨by decide, by decide⟩, ?_⟩
    refine ⟨by omega, ?_⟩
    have eb : Builtin.bitAnd (n / 2 ^ (5 * (i : Int)).toNat) 31 = n / 32 ^ i % 32 := by rw [bitAnd_m5, pow25]
    have hm := m32 (n / 32 ^ i)
    refine ⟨by decide, _, (by rw [eb]; exact sg_at hm.1 hm.2), ?_⟩
    refine ⟨?_, ?_⟩
    · rw [wd_len]; show 1 + i ≤ room; unfold room; omega
    · refine hN _ _ ⟨rfl, by omega, some (.int i), ?_⟩
      rw [← wd_step]
      rfl
  · rintro τ _ ⟨rfl, hi, o, rfl⟩
    rw [rangeT_len]
    exact q
end NH.P
end
section
set_option linter.all false
set_option maxRecDepth 100000
set_option maxHeartbeats 400000
namespace NH.P
open PySem L2 NH
local macro_rules | `(tactic| walk_at "grd") => `(tactic| first | decide | exact Or.inl (by decide) | exact Or.inr (by decide) | omega | (simp only [big, room]; omega) | fail)
local macro_rules | `(tactic| walk_at "go") => `(tactic| repeat' (first | (with_reducible refine ⟨_, rfl, ?_⟩) | (with_reducible refine ⟨?w, ?h, ?_⟩; case h => exact rfl) | (with_reducible refine And.intro ?_ ?_; walk_at "grd") | (with_reducible refine brn_pos ?_ ?_; rfl) | (with_reducible refine br_pos ?_ ?_; rfl) | (with_reducible refine brn_neg ?_ ?_; decide) | (with_reducible refine br_neg ?_ ?_; decide) | fail))
variable {μ μ1 μ2 : Mem} {K : T → Mem → Prop} {Z : Xp}
theorem l_cell_at_sp {ns : List Int} {k : Int} (hk : 0 ≤ k) (q : ∀ c, K (.int c) μ) : l_cell_at [.lst (ns.map T.int), .int k] μ K Z := by
  unfold l_cell_at
  refine ⟨rfl, ?_⟩
  refine br_dec (fun h => ?_) (fun h => ?_)
  · have hl : k.toNat < ns.length := by
      rw [List.length_map] at h; omega
    refine ⟨.int ns[k.toNat], ?_, q _⟩
    rw [ixAt_pos hk h, List.getElem?_map, List.getElem?_eq_getElem hl]
    rfl
  · exact q _
theorem strsOf_map : ∀ zs : List Str, strsOf (zs.map T.str) = some zs
  | [] => rfl
  | z :: r => by simp [strsOf, strsOf_map r]
end NH.P
namespace NH.K12
open PySem L2 NH NH.P
local macro_rules | `(tactic| walk_at "grd") => `(tactic| first | decide | exact Or.inl (by decide) | exact Or.inr (by decide) | omega | (simp only [big, room]; omega) | fail)
local macro_rules | `(tactic| walk_at "go") => `(tactic| repeat' (first | (with_reducible refine ⟨_, rfl, ?_⟩) | (with_reducible refine ⟨?w, ?h, ?_⟩; case h => exact rfl) | (with_reducible refine And.intro ?_ ?_; walk_at "grd") | (with_reducible refine brn_pos ?_ ?_; rfl) | (with_reducible refine br_pos ?_ ?_; rfl) | (with_reducible refine brn_neg ?_ ?_; decide) | (with_reducible refine br_neg ?_ ?_; decide) | fail))
end NH.K12
end
section
set_option linter.all false
set_option maxRecDepth 100000
set_option maxHeartbeats 400000
namespace NH.P
open PySem L2 NH
variable {μ μ1 μ2 : Mem} {K : T → Mem → Prop} {Z : Xp}
end NH.P
namespace NH.K14
open PySem L2 NH NH.P
end NH.K14
end
section
set_option linter.all false
set_option maxRecDepth 100000
set_option maxHeartbeats 400000
namespace NH.P
open PySem L2 NH
local macro_rules | `(tactic| walk_at "grd") => `(tactic| first | decide | exact Or.inl (by decide) | exact Or.inr (by decide) | omega | (simp only [big, room]; omega) | fail)
local macro_rules | `(tactic| walk_at "go") => `(tactic| repeat' (first | (with_reducible refine ⟨_, rfl, ?_⟩) | (with_reducible refine ⟨?w, ?h, ?_⟩; case h => exact rfl) | (with_reducible refine And.intro ?_ ?_; walk_at "grd") | (with_reducible refine brn_pos ?_ ?_; rfl) | (with_reducible refine br_pos ?_ ?_; rfl) | (with_reducible refine brn_neg ?_ ?_; decide) | (with_reducible refine br_neg ?_ ?_; decide) | fail))
variable {μ μ1 μ2 : Mem} {K : T → Mem → Prop} {Z : Xp}
theorem compO_cons {tg : Tg} {g : Sl → Mem → RE (Option T)} {lv : Mem → Prop} {τ : Sl} {x : T} {r : List T} {K : List T → Mem → Prop} (h : ∃ τ', asg tg x τ = some τ' ∧ g τ' μ (fun o μ1 => lv μ1 ∧ (match o with
    | some y => compO tg g lv τ r μ1 (fun ys μ2 => K (y :: ys) μ2) Z
    | none => compO tg g lv τ r μ1 K Z)) Z) : compO tg g lv τ (x :: r) μ K Z := by
  obtain ⟨τ', e, h⟩ := h
  unfold compO
  refine ⟨τ', e, ?_⟩
  have : (fun (o : Option T) μ1 => lv μ1 ∧ (match o with
    | some y => compO tg g lv τ r μ1 (fun ys μ2 => K (y :: ys) μ2) Z
    | none => compO tg g lv τ r μ1 K Z)) = fun o μ1 => lv μ1 ∧ (match o with
      | some y => (compO tg g lv τ r μ1).bind fun ys μ2 => RE.ok (y :: ys) μ2
      | none => compO tg g lv τ r μ1) K Z := by
    funext o μ1
    cases o <;> rfl
  rw [this] at h
  exact h
theorem compO_nil {tg : Tg} {g : Sl → Mem → RE (Option T)} {lv : Mem → Prop} {τ : Sl} {K : List T → Mem → Prop} (h : K [] μ) : compO tg g lv τ [] μ K Z := by
  unfold compO
  exact h
def Ent (sh t : T) (b : Bool) : Prop := ∀ (μ : Mem) (K : T → Mem → Prop) (Z : Xp), K (.bl b) μ → is_entry [sh, t] μ K Z
theorem ent_pair {x y z : Int} {a : Str} {t : T} {ha b : Bool} (hl : a.length ≤ room) (h1 : holderF a = ha) (hn : ∀ (μ : Mem) (K : T → Mem → Prop) (Z : Xp), K (.bl b) μ → is_name [shp x y z, t] μ K Z) : Ent (shp x y z) (.tup [.str a, t]) (ha && b) := by
  intro μ K Z q
  unfold is_entry
  refine ⟨rfl, ?_⟩
  refine ⟨_, rfl, ?_⟩
  refine is_holder_c hl h1 ?_
  cases ha with
  | false => exact q
  | true => exact ⟨_, rfl, hn _ _ _ q⟩
theorem all_map {α : Type} (g : α → Bool) (xs : List α) : bools (xs.map fun x => T.bl (g x)) = some (xs.map g) := bools_map g xs
theorem check_book_lst {sh : T} {ts : List T} (g : T → Bool) (hg : ∀ t ∈ ts, Ent sh t (g t)) (hl : ts.length ≤ 100) (h0 : ts.all g = true) (q : K .non μ) : check_book [sh, .lst ts] μ K Z := by
  unfold check_book
  refine ⟨rfl, ?_⟩
  refine ⟨Nat.le_trans hl (by decide), ?_⟩
  refine compO_map (fun t => .bl (g t)) (fun t ht k hk => ⟨_, rfl, hg t ht _ _ _ hk⟩) ?_
  refine ⟨_, all_map g ts, ?_⟩
  refine br_f (by rw [List.all_map, Function.id_comp, h0]; rfl) ?_
  exact q
end NH.P
namespace NH.K76
open PySem L2 NH NH.P
local macro_rules | `(tactic| walk_at "grd") => `(tactic| first | decide | exact Or.inl (by decide) | exact Or.inr (by decide) | omega | (simp only [big, room]; omega) | fail)
local macro_rules | `(tactic| walk_at "go") => `(tactic| repeat' (first | (with_reducible refine ⟨_, rfl, ?_⟩) | (with_reducible refine ⟨?w, ?h, ?_⟩; case h => exact rfl) | (with_reducible refine And.intro ?_ ?_; walk_at "grd") | (with_reducible refine brn_pos ?_ ?_; rfl) | (with_reducible refine br_pos ?_ ?_; rfl) | (with_reducible refine brn_neg ?_ ?_; decide) | (with_reducible refine br_neg ?_ ?_; decide) | fail))
end NH.K76
end
section
set_option linter.all false
set_option maxRecDepth 100000
namespace NH.P
open PySem L2 NH
end NH.P
end
section
set_option linter.all false
set_option maxRecDepth 100000
set_option maxHeartbeats 400000
namespace NH.P
open PySem L2 NH
variable {μ μ1 μ2 : Mem} {K : T → Mem → Prop} {Z : Xp}
abbrev cd (z : Str) : List Nat := z.cps.toList
theorem cd_app (a b : Str) : cd (a ++ b) = cd a ++ cd b := by simp [cd, Str.cps_append]
theorem cd_inj {a b : Str} (h : cd a = cd b) : a = b := by
  apply Str.ext'
  exact Array.toList_inj.mp h
theorem sgn_wd (n : Int) (L : Nat) : sgn (wd n L) = (digs n L).map fun c => (⟨#[c]⟩ : Str) := by simp [sgn, wd]
theorem inS_code {d : Nat} (h : d < 32) : inS (⟨#[code d]⟩ : Str) = true ∧ valS (⟨#[code d]⟩ : Str) = d := by
  obtain ⟨r, e⟩ := sg_occ h
  have e : Builtin.Str.occurrences SG ⟨#[code d]⟩ 0 SG.length 1 = d :: r := e
  unfold inS valS Txt.find
  rw [e]
  exact ⟨rfl, rfl⟩
theorem wd_in (n : Int) (L : Nat) : (sgn (wd n L)).all inS = true := by
  rw [sgn_wd, List.all_map, List.all_eq_true]
  intro c hc
  obtain ⟨d, hd, rfl⟩ := digs_in L n c hc
  exact (inS_code hd).1
theorem wd_num : ∀ (L : Nat) (n : Int), 0 ≤ n → n < 32 ^ L → numF (sgn (wd n L)) = n
  | 0, n, h0, h1 => by
    have : n = 0 := by
      have : (32 : Int) ^ 0 = 1 := rfl
      omega
    subst this
    rfl
  | L + 1, n, h0, h1 => by
    have e : sgn (wd n (L + 1)) = sgn (wd (n / 32) L) ++ [⟨#[code (n % 32).toNat]⟩] := by
      rw [sgn_wd, sgn_wd]
      show (digs (n / 32) L ++ [code (n % 32).toNat]).map _ = _
      rw [List.map_append]
      rfl
    have m := m32 n
    have hd : n / 32 < 32 ^ L := by
      rw [Int.ediv_lt_iff_lt_mul (by decide), pow_step]
      exact h1
    rw [e, numF_snoc, wd_num L (n / 32) (Int.ediv_nonneg h0 (by decide)) hd, (inS_code (d := (n % 32).toNat) (by omega)).2]
    omega
theorem wd_ok {many n : Int} {L : Nat} (w : Wd many L) (h0 : 0 ≤ n) (h1 : n < many) : txtOk many L (wd n L) = true := by
  unfold txtOk
  have hu := w.up
  rw [wd_len, decide_eq_true rfl, wd_in, wd_num L n h0 (by omega), decide_eq_true h1]
  rfl
end NH.P
end
section
set_option linter.all false
set_option maxRecDepth 100000
set_option maxHeartbeats 400000
namespace NH.P
open PySem L2 NH
variable {μ μ1 μ2 : Mem} {K : T → Mem → Prop} {Z : Xp} {x y z : Int} {i : Nat}
theorem join_cons {c : Nat} {a : Str} {r : List Str} (h : r ≠ []) : cd (Str.join ⟨#[c]⟩ (a :: r)) = cd a ++ c :: cd (Str.join ⟨#[c]⟩ r) := by
  cases r with
  | nil => exact absurd rfl h
  | cons b r =>
    show cd (a ++ ⟨#[c]⟩ ++ Str.join ⟨#[c]⟩ (b :: r)) = _
    rw [cd_app, cd_app]
    simp [cd]
theorem cut_eq {c : Nat} : ∀ {l m x y : List Nat}, c ∉ l → c ∉ m → l ++ c :: x = m ++ c :: y → l = m ∧ x = y
  | [], [], x, y, _, _, e => ⟨rfl, (List.cons.inj e).2⟩
  | [], b :: m, x, y, _, hm, e => by
    have := (List.cons.inj e).1
    exact absurd (by rw [this]; simp) hm
  | a :: l, [], x, y, hl, _, e => by
    have := (List.cons.inj e).1
    exact absurd (by rw [← this]; simp) hl
  | a :: l, b :: m, x, y, hl, hm, e => by
    obtain ⟨e1, e2⟩ := List.cons.inj e
    obtain ⟨f1, f2⟩ := cut_eq (fun w => hl (List.mem_cons_of_mem _ w)) (fun w => hm (List.mem_cons_of_mem _ w)) e2
    exact ⟨by rw [e1, f1], f2⟩
theorem join_inj {c : Nat} : ∀ {xs ys : List Str}, xs ≠ [] → ys ≠ [] → (∀ a ∈ xs, c ∉ cd a) → (∀ a ∈ ys, c ∉ cd a) → cd (Str.join ⟨#[c]⟩ xs) = cd (Str.join ⟨#[c]⟩ ys) → xs = ys
  | [], _, h, _, _, _, _ => absurd rfl h
  | _ :: _, [], _, h, _, _, _ => absurd rfl h
  | a :: xs, b :: ys, _, _, hx, hy, e => by
    have ha := hx a List.mem_cons_self
    have hb := hy b List.mem_cons_self
    by_cases e1 : xs = []
    · by_cases e2 : ys = []
      · subst e1 e2
        have e : cd a = cd b := e
        rw [cd_inj e]
      · subst e1
        rw [join_cons e2] at e
        have e : cd a = cd b ++ c :: _ := e
        exact absurd (by rw [e]; simp) ha
    · by_cases e2 : ys = []
      · subst e2
        rw [join_cons e1] at e
        have e : cd a ++ c :: _ = cd b := e
        exact absurd (by rw [← e]; simp) hb
      · rw [join_cons e1, join_cons e2] at e
        obtain ⟨f1, f2⟩ := cut_eq ha hb e
        rw [cd_inj f1, join_inj e1 e2 (fun a h => hx a (List.mem_cons_of_mem _ h)) (fun a h => hy a (List.mem_cons_of_mem _ h)) f2]
theorem split_join {c : Nat} {xs : List Str} (h : xs ≠ []) (hx : ∀ a ∈ xs, c ∉ cd a) : Txt.split (Txt.join ⟨#[c]⟩ xs) ⟨#[c]⟩ = xs := by
  have e : Txt.join ⟨#[c]⟩ xs = Str.join ⟨#[c]⟩ xs := StrLaws.glued_eq_join _ _
  rw [e]
  have p := PyProof.Rows.split_pos (Str.join ⟨#[c]⟩ xs) ⟨#[c]⟩
  refine join_inj (fun w => by rw [w] at p; simp at p) h (fun a ha => StrLaws.split_free _ c a ha) hx ?_
  rw [StrLaws.join_split]
abbrev NLs : Str := "\n"
abbrev SPs : Str := " "
theorem nl_is : NLs = ⟨#[10]⟩ := by decide +kernel
theorem sp_is : SPs = ⟨#[32]⟩ := by decide +kernel
abbrev AZ : Str := "abcdefghijklmnopqrstuvwxyz"
def gH (h : Str) : Bool := decide (1 ≤ h.length) && decide (h.length ≤ 8) && h.cps.toList.all fun c => decide (97 ≤ c) && decide (c ≤ 122)
theorem az_all : (List.range 123).all (fun c => decide (c < 97) || decide (c ∈ AZ.cps.toList)) = true := by decide +kernel
theorem az_low : AZ.cps.toList.all (fun c => decide (97 ≤ c) && decide (c ≤ 122)) = true := by decide +kernel
theorem az_in {c : Nat} (h0 : 97 ≤ c) (h1 : c ≤ 122) : c ∈ AZ.cps.toList := by
  have := List.all_eq_true.mp az_all c (List.mem_range.mpr (by omega))
  simp only [Bool.or_eq_true, decide_eq_true_eq] at this
  rcases this with h | h
  · omega
  · exact h
structure GH (h : Str) : Prop where
  l1 : 1 ≤ h.length
  l8 : h.length ≤ 8
  az : ∀ c ∈ cd h, 97 ≤ c ∧ c ≤ 122
theorem gh_of {h : Str} (e : gH h = true) : GH h := by
  unfold gH at e
  simp only [Bool.and_eq_true, decide_eq_true_eq, List.all_eq_true] at e
  exact ⟨e.1.1, e.1.2, fun c hc => e.2 c hc⟩
theorem GH.hol {h : Str} (g : GH h) : holderF h = true := by
  unfold holderF
  rw [decide_eq_true (by have := g.l1; omega), decide_eq_true (by have := g.l8; omega)]
  simp only [Bool.true_and, List.all_eq_true]
  intro s hs
  obtain ⟨c, hc, rfl⟩ := List.mem_map.mp hs
  have := g.az c hc
  unfold isL
  rw [StrLaws.found_one]
  exact decide_eq_true (az_in this.1 this.2)
theorem GH.free {h : Str} (g : GH h) {c : Nat} (hc : c < 97) : c ∉ cd h := fun w => by have := g.az c w; omega
def w1 : List Str := ["any", "lease", "ask", "store", "take", "back", "fall", "bare", "runs", "stands", "world", "judge", "who", "tell", "book", "z"]
theorem w1_ok : w1.all gH = true := by decide +kernel
abbrev BI : Str := "bcdefghi"
abbrev AXZ : Str := "axz"
def w2 (n a k : Nat) : Str := Txt.slice (Txt.slice BI none (some (1 + (n : Int)))) none (some (a : Int)) ++ ⟨#[AXZ.cps.toList.getD k 0]⟩ ++ Txt.slice (Txt.slice BI none (some (1 + (n : Int)))) (some ((a : Int) + 1)) none
theorem w2_len : (List.range 8).all (fun n => decide ((Txt.slice BI none (some (1 + (n : Int)))).length = n + 1)) = true := by decide +kernel
theorem w2_ok : (List.range 8).all (fun n => (List.range (n + 1)).all fun a => (List.range 3).all fun k => gH (w2 n a k)) = true := by decide +kernel
theorem bi_len {n : Nat} (h : n < 8) : (Txt.slice BI none (some (1 + (n : Int)))).length = n + 1 := of_decide_eq_true (List.all_eq_true.mp w2_len n (List.mem_range.mpr h))
theorem w2_gh {n a k : Nat} (h : n < 8) (ha : a < n + 1) (hk : k < 3) : GH (w2 n a k) := gh_of (List.all_eq_true.mp (List.all_eq_true.mp (List.all_eq_true.mp w2_ok n (List.mem_range.mpr h)) a (List.mem_range.mpr ha)) k (List.mem_range.mpr hk))
theorem next3 {i : Nat} {base : Int} (hs : St μ i) (h0 : 0 < base) (h1 : base < 1073741824) (q : ∀ (v : Nat) μ', (v : Int) < base → Up μ i μ' → K (.int v) μ') : l_next [.mut i, .int base] μ K Z :=
  l_next_sp hs h0 h1 fun v μ' v0 v1 u => by
    obtain ⟨n, rfl⟩ := Int.eq_ofNat_of_zero_le v0
    exact q n μ' v1 u
theorem w1_at : ∀ v : Nat, v < 16 → ∃ h, ixAt ([T.str "any", .str "lease", .str "ask", .str "store", .str "take", .str "back", .str "fall", .str "bare", .str "runs", .str "stands", .str "world", .str "judge"] ++ [T.str "who", .str "tell", .str "book", .str "z"]) (v : Int) = some (.str h) ∧ GH h := by
  have mem : ∀ h ∈ w1, GH h := fun h hh => gh_of (List.all_eq_true.mp w1_ok h hh)
  intro v hv
  have hl : w1.length = 16 := rfl
  refine ⟨w1[v], ?_, mem _ (List.getElem_mem _)⟩
  have : v = 0 ∨ v = 1 ∨ v = 2 ∨ v = 3 ∨ v = 4 ∨ v = 5 ∨ v = 6 ∨ v = 7 ∨ v = 8 ∨ v = 9 ∨ v = 10 ∨ v = 11 ∨ v = 12 ∨ v = 13 ∨ v = 14 ∨ v = 15 := by omega
  rcases this with rfl | rfl | rfl | rfl | rfl | rfl | rfl | rfl | rfl | rfl | rfl | rfl | rfl | rfl | rfl | rfl <;> rfl
theorem weight_ok {sep : Str} {xs : List Str} (hl : xs.length ≤ 1000) (hx : ∀ a ∈ xs, a.length ≤ 1000) (hs : sep.length ≤ 16) : JoinOk sep xs = true := by
  refine PyProof.Rows.joinOk_of_weight ?_ hs
  have := StrLaws.sumLen_le xs hx
  have h2 : xs.length * 1000 ≤ 1000 * 1000 := Nat.mul_le_mul_right _ hl
  omega
theorem holder_sp {i : Nat} (hs : St μ i) (q : ∀ (h : Str) μ', GH h → Up μ i μ' → K (.str h) μ') : l_holder [.mut i] μ K Z := by
  unfold l_holder
  refine ⟨rfl, ?_⟩
  refine next3 hs (by decide) (by decide) fun way μ1 w1' u1 => ?_
  refine br_dec (fun e => ?_) (fun e => ?_)
  · refine ⟨by decide, ?_⟩
    refine next3 u1.st (by decide) (by decide) fun v μ2 v1 u2 => ?_
    obtain ⟨h, hh, g⟩ := w1_at v (by omega)
    exact ⟨_, hh, q h μ2 g (u1.trans u2)⟩
  · refine br_dec (fun e2 => ?_) (fun e2 => ?_)
    · refine next3 u1.st (by decide) (by decide) fun n μ2 n1 u2 => ?_
      have hn : n < 8 := by omega
      refine ⟨by decide, ?_⟩
      have bl := bi_len hn
      have br : (Txt.slice BI none (some (1 + (n : Int)))).length ≤ room := by rw [bl]; unfold room; omega
      refine ⟨br, ?_⟩
      refine next3 u2.st (by rw [bl]; omega) (by rw [bl]; omega) fun a μ3 a1 u3 => ?_
      rw [bl] at a1
      refine ⟨br, ?_⟩
      refine next3 u3.st (by decide) (by decide) fun k μ4 k1 u4 => ?_
      refine ⟨by decide, ?_⟩
      refine som_ix (n := 3) (by decide +kernel) (by omega) k1 fun ch hch => ?_
      have s1 := Txt.slice_le (Txt.slice BI none (some (1 + (n : Int)))) none (some (a : Int))
      have s2 := Txt.slice_le (Txt.slice BI none (some (1 + (n : Int)))) (some ((a : Int) + 1)) none
      refine ⟨by show (Txt.slice (Txt.slice BI none (some (1 + (n : Int)))) none (some (a : Int))).length + 1 ≤ room; unfold room; omega, ?_⟩
      refine ⟨br, ?_⟩
      refine ⟨by rw [Str.length_append, one_len]; show (Txt.slice (Txt.slice BI none (some (1 + (n : Int)))) none (some (a : Int))).length + 1 + (Txt.slice (Txt.slice BI none (some (1 + (n : Int)))) (some ((a : Int) + 1)) none).length ≤ room; unfold room; omega, ?_⟩
      have ek : AXZ.cps.toList.getD k 0 = ch := by
        rw [List.getD_eq_getElem?_getD]
        have : ((k : Int).toNat) = k := by omega
        rw [this] at hch
        rw [hch]; rfl
      have g := w2_gh hn (show a < n + 1 by omega) (show k < 3 by omega)
      unfold w2 at g
      rw [ek] at g
      exact q _ μ4 g (((u1.trans u2).trans u3).trans u4)
    · refine next3 u1.st (by decide) (by decide) fun n μ2 n1 u2 => ?_
      refine ⟨⟨by omega, by omega⟩, ?_⟩
      have hlr : (rangeT (1 + (n : Int))).length = n + 1 := by rw [rangeT_len]; omega
      refine ⟨by rw [hlr]; unfold room; omega, ?_⟩
      refine compO_inv (fun j ys μ' => ∃ cs : List Nat, ys = (cs.map fun c => (⟨#[c]⟩ : Str)).map T.str ∧ cs.length = j ∧ (∀ c ∈ cs, 97 ≤ c ∧ c ≤ 122) ∧ Up μ i μ') ⟨[], rfl, rfl, by simp, u1.trans u2⟩ ?_ ?_
      · rintro j t ys μ' hx ⟨cs, rfl, hc, hz, U⟩ kk hkk
        refine ⟨_, rfl, ?_⟩
        refine next3 U.st (by decide) (by decide) fun v μ3 v1 u3 => ?_
        refine ⟨by decide, ?_⟩
        refine som_ix (n := 26) (by decide +kernel) (by omega) v1 fun ch hch => ?_
        refine hkk _ _ ⟨cs ++ [ch], by simp, by simp [hc], fun c hc' => ?_, U.trans u3⟩
        rcases List.mem_append.mp hc' with w | w
        · exact hz c w
        · rw [List.mem_singleton.mp w]
          have := List.all_eq_true.mp az_low ch (List.mem_of_getElem? hch)
          simpa using this
      · rintro ys μ' ⟨cs, rfl, hc, hz, U⟩
        rw [hlr] at hc
        refine ⟨_, strsOf_map _, weight_ok (by simp; omega) (fun a ha => ?_) (by decide), ?_⟩
        · obtain ⟨c, _, rfl⟩ := List.mem_map.mp ha
          rw [one_len]; omega
        · have e : Txt.join ("" : Str) (cs.map fun c => (⟨#[c]⟩ : Str)) = ⟨cs.toArray⟩ := by
            have e0 : ("" : Str) = Str.empty := rfl
            rw [e0, join_flat]
            congr 1
            rw [List.map_map]
            have : ((cs.map ((fun x => x.cps.toList) ∘ fun c => (⟨#[c]⟩ : Str))).flatten) = cs := by
              clear hc hz
              induction cs with
              | nil => rfl
              | cons c r ih => simp only [List.map_cons, List.flatten_cons, ih]; rfl
            rw [this]
          rw [e]
          exact q _ μ' ⟨by show 1 ≤ cs.toArray.size; simp; omega, by show cs.toArray.size ≤ 8; simp; omega, fun c hc' => hz c (by simpa [cd] using hc')⟩ U
end NH.P
end
section
set_option linter.all false
set_option maxRecDepth 100000
namespace NH.P
open PySem L2 NH
end NH.P
end
section
set_option linter.all false
set_option maxRecDepth 100000
set_option maxHeartbeats 400000
namespace NH.P
open PySem L2 NH
local macro_rules | `(tactic| walk_at "grd") => `(tactic| first | decide | exact Or.inl (by decide) | exact Or.inr (by decide) | omega | (simp only [big, room]; omega) | fail)
local macro_rules | `(tactic| walk_at "go") => `(tactic| repeat' (first | (with_reducible refine ⟨_, rfl, ?_⟩) | (with_reducible refine ⟨?w, ?h, ?_⟩; case h => exact rfl) | (with_reducible refine And.intro ?_ ?_; walk_at "grd") | (with_reducible refine brn_pos ?_ ?_; rfl) | (with_reducible refine br_pos ?_ ?_; rfl) | (with_reducible refine brn_neg ?_ ?_; decide) | (with_reducible refine br_neg ?_ ?_; decide) | fail))
variable {μ μ1 μ2 : Mem} {K : T → Mem → Prop} {Z : Xp}
theorem compO_sel {β : Type} {tg : Tg} {g : Sl → Mem → RE (Option T)} {lv : Mem → Prop} {τ : Sl} (t : β → T) (f : β → Option T) {ps : List β} {K : List T → Mem → Prop}
    (h : ∀ p ∈ ps, ∀ k : Option T → Mem → Prop, k (f p) μ → ∃ τ', asg tg (t p) τ = some τ' ∧ g τ' μ k Z) (k : K (ps.filterMap f) μ) (hl : lv μ := by trivial) : compO tg g lv τ (ps.map t) μ K Z := by
  induction ps generalizing K with
  | nil => exact compO_nil k
  | cons x r ih =>
    refine compO_cons ?_
    refine h x List.mem_cons_self _ ⟨hl, ?_⟩
    cases q : f x with
    | none =>
      rw [List.filterMap_cons_none q] at k
      exact ih (fun y hy => h y (List.mem_cons_of_mem _ hy)) k
    | some y =>
      rw [List.filterMap_cons_some q] at k
      exact ih (K := fun ys μ2 => K (y :: ys) μ2) (fun y hy => h y (List.mem_cons_of_mem _ hy)) k
end NH.P
end
section
set_option linter.all false
set_option maxRecDepth 100000
set_option maxHeartbeats 400000
namespace NH.P
open PySem L2 NH
variable {μ μ1 μ2 : Mem} {K : T → Mem → Prop} {Z : Xp} {x y z : Int} {i L : Nat}
abbrev Rw := Str × Int
abbrev rwT (p : Rw) : T := .tup [.str p.1, .int p.2]
def lineS (L : Nat) (p : Rw) : Str := p.1 ++ SPs ++ wd p.2 L
def textS (L : Nat) (rs : List Rw) : Str := Txt.join NLs (rs.map (lineS L))
structure RO (many : Int) (p : Rw) : Prop where
  g : GH p.1
  n0 : 0 ≤ p.2
  n1 : p.2 < many
theorem digs_free (n : Int) (L : Nat) {c : Nat} (hc : c = 32 ∨ c = 10) : c ∉ cd (wd n L) := fun w => by
  have w : c ∈ digs n L := by simpa [cd, wd] using w
  obtain ⟨d, hd, e⟩ := digs_in L n c w
  have all : (List.range 32).all (fun d => decide (code d ≠ 32) && decide (code d ≠ 10)) = true := by decide +kernel
  have := List.all_eq_true.mp all d (List.mem_range.mpr hd)
  simp only [Bool.and_eq_true, decide_eq_true_eq] at this
  rcases hc with rfl | rfl
  · exact this.1 e.symm
  · exact this.2 e.symm
theorem line_len {many : Int} {p : Rw} (r : RO many p) (hL : L ≤ 24) : (lineS L p).length ≤ 33 := by
  unfold lineS
  rw [Str.length_append, Str.length_append, wd_len]
  have := r.g.l8
  have : SPs.length = 1 := by decide
  omega
theorem line_free {many : Int} {p : Rw} (r : RO many p) : (10 : Nat) ∉ cd (lineS L p) := fun w => by
  unfold lineS at w
  rw [cd_app, cd_app, List.mem_append, List.mem_append] at w
  rcases w with (w | w) | w
  · exact r.g.free (by decide) w
  · exact absurd w (by decide)
  · exact digs_free _ _ (.inr rfl) w
theorem line_split {many : Int} {p : Rw} (r : RO many p) : Txt.split (lineS L p) SPs = [p.1, wd p.2 L] := by
  have e : lineS L p = Txt.join ⟨#[32]⟩ [p.1, wd p.2 L] := by
    rw [show Txt.join ⟨#[32]⟩ [p.1, wd p.2 L] = Str.join ⟨#[32]⟩ [p.1, wd p.2 L] from StrLaws.glued_eq_join _ _]
    show p.1 ++ SPs ++ wd p.2 L = p.1 ++ ⟨#[32]⟩ ++ wd p.2 L
    rw [sp_is]
  rw [e, sp_is]
  refine split_join (by simp) fun a ha => ?_
  rcases List.mem_cons.mp ha with rfl | ha
  · exact r.g.free (by decide)
  · rw [List.mem_singleton.mp ha]; exact digs_free _ _ (.inl rfl)
theorem text_split {many : Int} {rs : List Rw} (h : rs ≠ []) (hr : ∀ p ∈ rs, RO many p) : Txt.split (textS L rs) NLs = rs.map (lineS L) := by
  unfold textS
  rw [nl_is]
  refine split_join (by simpa using h) fun a ha => ?_
  obtain ⟨p, hp, rfl⟩ := List.mem_map.mp ha
  exact line_free (hr p hp)
theorem text_ok {many : Int} {rs : List Rw} (hl : rs.length ≤ 12) (hL : L ≤ 24) (hr : ∀ p ∈ rs, RO many p) : JoinOk NLs (rs.map (lineS L)) = true := by
  refine weight_ok (by rw [List.length_map]; omega) (fun a ha => ?_) (by decide)
  obtain ⟨p, hp, rfl⟩ := List.mem_map.mp ha
  exact Nat.le_trans (line_len (hr p hp) hL) (by decide)
theorem text_len {many : Int} {rs : List Rw} (hl : rs.length ≤ 12) (hL : L ≤ 24) (hr : ∀ p ∈ rs, RO many p) : (textS L rs).length ≤ room := by
  unfold textS
  rw [show Txt.join NLs (rs.map (lineS L)) = Str.join NLs (rs.map (lineS L)) from StrLaws.glued_eq_join _ _]
  have h1 := StrLaws.join_length_le NLs (rs.map (lineS L))
  have h2 := StrLaws.sumLen_le (B := 33) (rs.map (lineS L)) fun a ha => by
    obtain ⟨p, hp, rfl⟩ := List.mem_map.mp ha
    exact line_len (hr p hp) hL
  have h3 : NLs.length = 1 := by decide
  rw [h3] at h1
  rw [List.length_map] at h1 h2
  have h4 : rs.length * 33 ≤ 12 * 33 := Nat.mul_le_mul_right _ hl
  unfold room
  omega
theorem text_ne {many : Int} {rs : List Rw} (h : rs ≠ []) (hr : ∀ p ∈ rs, RO many p) : textS L rs ≠ ("" : Str) := fun e => by
  have s := text_split (L := L) h hr
  rw [e] at s
  have e2 : Txt.split ("" : Str) NLs = ([""] : List Str) := by decide +kernel
  rw [e2] at s
  cases rs with
  | nil => exact h rfl
  | cons p r =>
    have s1 := (List.cons.inj s).1
    have := congrArg Str.length s1
    unfold lineS at this
    rw [Str.length_append, Str.length_append] at this
    have := (hr p List.mem_cons_self).g.l1
    have : ("" : Str).length = 0 := rfl
    omega
theorem ent_ok {p : Rw} (s : Sz x y z) (r : RO (x * y * z) p) : Ent (shp x y z) (rwT p) true := ent_pair (ha := true) (b := true) (by have := r.g.l8; unfold room; omega) r.g.hol fun _ _ _ q => is_name_in s r.n0 r.n1 q
theorem rw_ents {rs : List Rw} (s : Sz x y z) (hr : ∀ p ∈ rs, RO (x * y * z) p) : ∀ t ∈ rs.map rwT, Ent (shp x y z) t true := fun t ht => by
  obtain ⟨p, hp, rfl⟩ := List.mem_map.mp ht
  exact ent_ok s (hr p hp)
theorem show_sp {rs : List Rw} (s : Sz x y z) (w : Wd (x * y * z) L) (hL : L ≤ 24) (hl : rs.length ≤ 12) (hr : ∀ p ∈ rs, RO (x * y * z) p) (q : K (.str (textS L rs)) μ) : show_book [shp x y z, .lst (rs.map rwT)] μ K Z := by
  unfold show_book
  refine ⟨rfl, ?_⟩
  refine check_book_lst (fun _ => true) (rw_ents s hr) (by rw [List.length_map]; omega) (by simp) ?_
  refine ⟨by rw [List.length_map]; unfold room; omega, ?_⟩
  refine compO_sel rwT (fun p => some (T.str (lineS L p))) (fun p hp kk hkk => ?_) ?_ trivial
  · have r := hr p hp
    have l8 := r.g.l8
    have l1 : SPs.length = 1 := by decide
    refine ⟨_, rfl, _, rfl, ?_⟩
    refine ⟨by show p.1.length + SPs.length ≤ room; unfold room; omega, ?_⟩
    refine ⟨_, rfl, ?_⟩
    refine show_name_in s w r.n0 r.n1 ?_
    refine ⟨by rw [Str.length_append, wd_len]; show p.1.length + SPs.length + L ≤ room; unfold room; omega, ?_⟩
    exact hkk
  · rw [List.filterMap_eq_map']
    have e : (rs.map fun p => T.str (lineS L p)) = (rs.map (lineS L)).map T.str := by rw [List.map_map]; rfl
    rw [e]
    exact ⟨_, strsOf_map _, text_ok hl hL hr, q⟩
theorem entry_sp {p : Rw} {ln : T} (s : Sz x y z) (w : Wd (x * y * z) L) (hL : L ≤ 24) (r : RO (x * y * z) p) (q : K (rwT p) μ) : read_entry [shp x y z, .str (lineS L p), ln] μ K Z := by
  have l8 := r.g.l8
  have ok := wd_ok w r.n0 r.n1
  unfold read_entry
  refine ⟨rfl, ?_⟩
  refine ⟨⟨Nat.le_trans (line_len r hL) (by decide), by decide⟩, ?_⟩
  have sp : splitT (lineS L p) " " = .lst [.str p.1, .str (wd p.2 L)] := by
    show T.lst ((Txt.split (lineS L p) SPs).map T.str) = _
    rw [line_split r]; rfl
  have rest : ∀ t : T, t = .lst [.str p.1, .str (wd p.2 L)] → blks (b_read_entry.drop 1) [some (shp x y z), some (.str (lineS L p)), some ln, some t] μ (En.fn K Z) := by
    intro t ht
    subst ht
    refine ⟨_, rfl, ?_⟩
    refine is_holder_c (by unfold room; omega) r.g.hol ?_
    refine ⟨_, rfl, ?_⟩
    refine ⟨_, rfl, ?_⟩
    refine read_name_sp s w (by rw [wd_len]; unfold room; omega) (fun _ => ?_) (fun h => by rw [ok] at h; cases h)
    have en : numF (sgn (wd p.2 L)) = p.2 := wd_num L p.2 r.n0 (Int.lt_of_lt_of_le r.n1 w.up)
    rw [en]
    exact q
  exact rest _ sp
theorem check_text_str {t : Str} (q : K .non μ) : check_text [.str t] μ K Z := by
  unfold check_text
  exact ⟨rfl, q⟩
theorem read_sp {rs : List Rw} (s : Sz x y z) (w : Wd (x * y * z) L) (hL : L ≤ 24) (hl : rs.length ≤ 12) (hr : ∀ p ∈ rs, RO (x * y * z) p) (q : K (.mut μ.length) (μ ++ [.lst (rs.map rwT)])) : read_book [shp x y z, .str (textS L rs)] μ K Z := by
  unfold read_book
  refine ⟨rfl, ?_⟩
  refine check_text_str ?_
  by_cases hn : rs = []
  · subst hn
    exact q
  · refine br_neg (text_ne hn hr) ?_
    refine ⟨⟨text_len hl hL hr, by decide⟩, ?_⟩
    have sp : splitT (textS L rs) "\n" = .lst ((rs.map (lineS L)).map T.str) := by
      show T.lst ((Txt.split (textS L rs) NLs).map T.str) = _
      rw [text_split hn hr]
    have rest : ∀ t : T, t = .lst ((rs.map (lineS L)).map T.str) → blks (b_read_book.drop 3) [some (shp x y z), some (.str (textS L rs)), some t] μ (En.fn K Z) := by
      intro t ht
      subst ht
      have hln : (((rs.map (lineS L)).map T.str).length : Int) = (rs.length : Int) := by simp
      refine ⟨⟨by omega, by omega⟩, ?_⟩
      have hlr : (rangeT (((rs.map (lineS L)).map T.str).length : Int)).length = rs.length := by rw [rangeT_len]; omega
      refine ⟨by rw [hlr]; unfold room; omega, ?_⟩
      refine compO_inv (fun j ys μ' => μ' = μ ∧ ys = (rs.take j).map rwT) ⟨rfl, rfl⟩ ?_ ?_
      · rintro j t ys μ' hx ⟨rfl, rfl⟩ kk hkk
        obtain ⟨rfl, hj⟩ := rangeT_get hx
        have hj : j < rs.length := by omega
        refine ⟨_, rfl, ?_⟩
        refine ⟨.str (lineS L rs[j]), ?_, ?_⟩
        · rw [ixAt_pos (by omega) (by simp; omega)]
          simp [hj]
        · refine entry_sp s w hL (hr _ (List.getElem_mem hj)) ?_
          refine hkk _ _ ⟨rfl, ?_⟩
          rw [List.take_add_one, List.getElem?_eq_getElem hj, List.map_append]
          rfl
      · rintro ys μ' ⟨rfl, rfl⟩
        rw [hlr, List.take_length]
        exact q
    exact rest _ sp
theorem eqL_rows : ∀ rs : List Rw, eqL (rs.map rwT) (rs.map rwT) = some true
  | [] => by simp [eqL]
  | p :: r => by simp [eqL, eqT, eqL_rows r]
theorem depL_rows : ∀ rs : List Rw, depL (rs.map rwT) ≤ 2
  | [] => by simp [depL]
  | p :: r => by have := depL_rows r; simp [depL, depT] at this ⊢; omega
theorem check_book_bad {sh : T} {ts : List T} (g : T → Bool) (hg : ∀ t ∈ ts, Ent sh t (g t)) (hl : ts.length ≤ 100) (h0 : ts.all g = false) (q : Z 13 [] μ) : check_book [sh, .lst ts] μ K Z := by
  unfold check_book
  refine ⟨rfl, ?_⟩
  refine ⟨Nat.le_trans hl (by decide), ?_⟩
  refine compO_map (fun t => .bl (g t)) (fun t ht k hk => ⟨_, rfl, hg t ht _ _ _ hk⟩) ?_
  refine ⟨_, all_map g ts, ?_⟩
  refine br_t (by rw [List.all_map, Function.id_comp, h0]; rfl) ?_
  exact ⟨by show (1 : Nat) ≤ room; decide, q⟩
@[reducible] def body83 : List Ds := [(sSet 10 (eCall read_book [(eV 2), (eV 7)])), (sIf (tOr (tNot (tE (eIsi [5] (eV 10)))) (tOr (tE (eCmp .NotEq (eV 10) (eV 4))) (tE (eCmp .NotEq (eComp 1 [] (.one 0) (iE (eV 10)) [(tNot (tE (eIsi [4] (eV 0))))] (eV 0)) (eLst []))))) [(sRet (eC (.bl false)))] []), (sExpr (eApp (eV 10) (eTup [(eC (.str "anna")), (eC (.int 0))]))), (sPut (eV 10) (eC (.int 0)) (eC .non))]
end NH.P
end
section
set_option linter.all false
set_option maxRecDepth 100000
set_option maxHeartbeats 400000
namespace NH.P
open PySem L2 NH
variable {μ μ1 μ2 : Mem} {K : T → Mem → Prop} {Z : Xp} {x y z : Int} {i b L : Nat} {t0 : T} {o5 o6 o8 o9 o10 o11 : Option T} {rs : List Rw}
theorem turn83 {E : En} (s : Sz x y z) (w : Wd (x * y * z) L) (hl : rs.length ≤ 12) (hr : ∀ p ∈ rs, RO (x * y * z) p) (hb : μ[b]? = some (.lst (rs.map rwT)))
    (q : ∀ μ' o10, μ'[b]? = some (.lst (rs.map rwT)) → E.nx [some t0, some (.lst [.int x, .int y, .int z]), some (shp x y z), some (.int (x * y * z)), some (.mut b), o5, o6, some (.str (textS L rs)), o8, o9, o10, o11] μ') :
    blks body83 [some t0, some (.lst [.int x, .int y, .int z]), some (shp x y z), some (.int (x * y * z)), some (.mut b), o5, o6, some (.str (textS L rs)), o8, o9, o10, o11] μ E := by
  have bl : b < μ.length := (List.getElem?_eq_some_iff.mp hb).1
  refine read_sp s w w.l2 hl hr ?_
  have hb1 := get_app (x := .lst (rs.map rwT)) hb
  refine ⟨_, get_last, ?_⟩
  refine ⟨(_, _), ⟨get_last, hb1⟩, Nat.le_trans (depL_rows rs) (by decide), _, eqL_rows rs, ?_⟩
  refine ⟨_, get_last, ?_⟩
  refine ⟨by rw [List.length_map]; unfold room; omega, ?_⟩
  refine compO_sel rwT (fun _ => none) (fun p _ kk hkk => ⟨_, rfl, hkk⟩) ?_ get_last
  rw [show (rs.filterMap fun _ => (none : Option T)) = [] by simp]
  refine ⟨by decide, _, rfl, ?_⟩
  refine ⟨⟨_, get_last⟩, _, get_last, by rw [List.length_map]; unfold room; omega, ?_⟩
  refine ⟨_, get_set get_last, ⟨by decide, by rw [List.length_append, List.length_map]; simp, by decide⟩, ?_⟩
  refine q _ _ ?_
  rw [List.getElem?_set_ne (by omega), List.getElem?_set_ne (by omega)]
  exact hb1
theorem show_bad {a : Int} (s : Sz x y z) (hl : rs.length ≤ 12) (hr : ∀ p ∈ rs, RO (x * y * z) p) (a0 : 0 ≤ a) {l h : Option Int} {l2 h2 : Option Int} (q : Z 13 [] μ) :
    show_book [shp x y z, .lst (cutL (rs.map rwT) l h ++ [.tup [.str "anna", .int (x * y * z + a)]] ++ cutL (rs.map rwT) l2 h2)] μ K Z := by
  have lc : ∀ (l h : Option Int), (cutL (rs.map rwT) l h).length ≤ 12 := fun l h => by
    unfold cutL
    rw [List.length_take, List.length_drop, List.length_map]
    omega
  have c1 := lc l h
  have c2 := lc l2 h2
  have hle := s.pos
  unfold show_book
  refine ⟨rfl, ?_⟩
  have bad : Ent (shp x y z) (.tup [.str "anna", .int (x * y * z + a)]) false := ent_pair (ha := true) (b := false) (by decide) (by decide +kernel) fun μ K Z q => is_name_sz s (by
    rw [decide_eq_true (by omega), decide_eq_false (by omega)]; exact q)
  refine check_book_bad (fun t => match t with | .tup [_, .int n] => decide (n < x * y * z) | _ => true) (fun t ht => ?_) (by simp only [List.length_append, List.length_cons, List.length_nil]; omega) ?_ ?_
  · have good : ∀ t ∈ rs.map rwT, Ent (shp x y z) t (match t with | .tup [_, .int n] => decide (n < x * y * z) | _ => true) := fun t ht => by
      obtain ⟨p, hp, rfl⟩ := List.mem_map.mp ht
      have := ent_ok s (hr p hp)
      rw [← decide_eq_true (hr p hp).n1] at this
      exact this
    rcases List.mem_append.mp ht with ht | ht
    · rcases List.mem_append.mp ht with ht | ht
      · exact good t (cutL_mem ht)
      · rw [List.mem_singleton.mp ht]
        have e : decide (x * y * z + a < x * y * z) = false := decide_eq_false (by omega)
        show Ent _ _ (decide (x * y * z + a < x * y * z))
        rw [e]; exact bad
    · exact good t (cutL_mem ht)
  · rw [List.all_append, List.all_append]
    have e : decide (x * y * z + a < x * y * z) = false := decide_eq_false (by omega)
    simp [e]
  · exact q
theorem refused_sp {a : Int} (s : Sz x y z) (hl : rs.length ≤ 12) (hr : ∀ p ∈ rs, RO (x * y * z) p) (a0 : 0 ≤ a) {l h : Option Int} {l2 h2 : Option Int} (q : K (.bl true) μ) :
    l_refused_5 [shp x y z, .lst (cutL (rs.map rwT) l h ++ [.tup [.str "anna", .int (x * y * z + a)]] ++ cutL (rs.map rwT) l2 h2)] μ K Z := by
  unfold l_refused_5
  refine ⟨rfl, ?_⟩
  refine show_bad s hl hr a0 ?_
  exact q
theorem tells83 : Tells law_k83 := by
  intro ns hns
  unfold law_k83
  refine ⟨rfl, ?_⟩
  refine l_cell_at_sp (by decide) fun c0 => ?_
  refine l_begin_sp fun a b => ?_
  refine l_shape_sp ⟨_, _, _, get_last⟩ fun x y z μ2 s u2 => ?_
  obtain ⟨L, w⟩ := wd_some (Int.le_trans s.le (show (1000000000000000000000000000000000000 : Int) ≤ 32 ^ 24 by decide))
  have hL := w.l2
  have pos := s.pos
  refine ⟨_, rfl, _, rfl, _, rfl, ?_⟩
  refine ⟨rfl, ?_⟩
  refine Shape_init_sp s.x1 s.y1 s.z1 ?_
  refine ⟨rfl, _, rfl, rfl, ?_⟩
  refine ⟨_, rfl, _, rfl, s.mg.a, _, rfl, s.mg.b, ?_⟩
  have hcl : (cutL (ns.map T.int) (some 1) (some 13)).length ≤ 12 := by
    unfold cutL sIxN
    simp only [List.length_take, List.length_drop]
    simp
    omega
  have l2 : μ2.length = 1 := by rw [u2.len]; rfl
  refine forM_inv (fun nn τ μ' => ∃ (rs : List Rw) (o5 o6 : Option T), τ = [some (.lst (ns.map T.int)), some (.lst [.int x, .int y, .int z]), some (shp x y z), some (.int (x * y * z)), some (.mut μ2.length), o5, o6, none, none, none, none, none] ∧ rs.length = nn ∧ (∀ p ∈ rs, RO (x * y * z) p) ∧ μ'[μ2.length]? = some (.lst (rs.map rwT))) ⟨[], _, _, rfl, rfl, by simp, get_last⟩ ?_ ?_
  · rintro nn t τ μ' hx ⟨rs, o5, o6, rfl, hl, hr, hb⟩ N hN
    have hnn : nn < 12 := by have := (List.getElem?_eq_some_iff.mp hx).1; omega
    obtain ⟨n, _, e⟩ := List.mem_map.mp (cutL_mem (List.mem_of_getElem? hx))
    subst e
    have bl : μ2.length < μ'.length := (List.getElem?_eq_some_iff.mp hb).1
    refine ⟨_, rfl, ?_⟩
    refine l_begin_sp fun a b => ?_
    have st : St (μ' ++ [.lst [.int a, .int b, .int 0]]) μ'.length := ⟨_, _, _, get_last⟩
    have hb1 := get_app (x := .lst [.int a, .int b, .int 0]) hb
    refine ⟨⟨_, hb1⟩, ?_⟩
    refine holder_sp st fun h μ3 g u3 => ?_
    refine l_name_sp u3.st s fun v μ4 v0 v1 u4 => ?_
    have hb4 := ((u3.trans u4).ot μ2.length (by omega)).trans hb1
    refine ⟨_, hb4, by rw [List.length_map]; unfold room; omega, ?_⟩
    refine hN _ _ ⟨rs ++ [(h, v)], _, _, rfl, by simp [hl], fun p hp => ?_, ?_⟩
    · rcases List.mem_append.mp hp with hp | hp
      · exact hr p hp
      · rw [List.mem_singleton.mp hp]; exact ⟨g, v0, v1⟩
    · rw [get_set hb4, List.map_append]; rfl
  · rintro τ μ' ⟨rs, o5, o6, rfl, hl, hr, hb⟩
    have hl12 : rs.length ≤ 12 := by omega
    refine ⟨_, hb, ?_⟩
    refine ⟨by rw [List.length_map]; unfold room; omega, ?_⟩
    refine compO_sel rwT (fun p => some (T.str (lineS L p))) (fun p hp kk hkk => ?_) ?_ hb
    · have r := hr p hp
      have l8 := r.g.l8
      have l1 : SPs.length = 1 := by decide
      refine ⟨_, rfl, ?_⟩
      refine ⟨by show p.1.length + SPs.length ≤ room; unfold room; omega, ?_⟩
      refine l_text2_sp s.mg w ?_
      refine ⟨by rw [Str.length_append, wd_len]; show p.1.length + SPs.length + L ≤ room; unfold room; omega, ?_⟩
      exact hkk
    rw [List.filterMap_eq_map']
    have e : (rs.map fun p => T.str (lineS L p)) = (rs.map (lineS L)).map T.str := by rw [List.map_map]; rfl
    rw [e]
    refine ⟨_, strsOf_map _, text_ok hl12 hL hr, ?_⟩
    refine ⟨_, hb, ?_⟩
    refine show_sp s w hL hl12 hr ?_
    refine brn_pos rfl ?_
    refine show_sp s w hL hl12 hr ?_
    refine brn_pos rfl ?_
    refine ⟨_, hb, Nat.le_trans (depL_rows rs) (by decide), _, eqL_rows rs, ?_⟩
    refine ⟨⟨by decide, by decide⟩, ?_⟩
    refine forM_inv (fun nn τ μ' => ∃ (o9 o10 : Option T), τ = [some (.lst (ns.map T.int)), some (.lst [.int x, .int y, .int z]), some (shp x y z), some (.int (x * y * z)), some (.mut μ2.length), o5, o6, some (.str (textS L rs)), some (.lst (rs.map rwT)), o9, o10, none] ∧ μ'[μ2.length]? = some (.lst (rs.map rwT))) ⟨_, _, rfl, hb⟩ ?_ ?_
    · rintro nn t τ μ3 hx ⟨o9, o10, rfl, hb3⟩ N hN
      refine ⟨_, rfl, ?_⟩
      exact turn83 s w hl12 hr hb3 fun μ4 p10 hb4 => hN _ _ ⟨_, _, rfl, hb4⟩
    · rintro τ μ3 ⟨o9, o10, rfl, hb3⟩
      refine show_sp (rs := []) s w hL (by simp) (by simp) ?_
      refine read_sp (rs := []) s w hL (by simp) (by simp) ?_
      refine ⟨_, get_last, by decide, _, rfl, ?_⟩
      have hb5 := get_app (x := .lst ([].map rwT)) hb3
      refine l_cell_at_sp (by decide) fun c1 => ?_
      refine ⟨_, hb5, ?_⟩
      refine ⟨by rw [List.length_map]; omega, ?_⟩
      refine ⟨_, hb5, ?_⟩
      have lc : ∀ (l h : Option Int), (cutL (rs.map rwT) l h).length ≤ 12 := fun l h => by
        unfold cutL
        rw [List.length_take, List.length_drop, List.length_map]
        omega
      refine ⟨by have := lc none (some (c1 % (((rs.map rwT).length : Int) + 1))); simp only [List.length_cons, List.length_nil]; unfold room; omega, ?_⟩
      refine ⟨_, hb5, ?_⟩
      refine ⟨by have := lc none (some (c1 % (((rs.map rwT).length : Int) + 1))); have := lc (some (c1 % (((rs.map rwT).length : Int) + 1))) none; simp only [List.length_append, List.length_cons, List.length_nil]; unfold room; omega, ?_⟩
      refine refused_sp s hl12 hr (Int.emod_nonneg _ (by rw [List.length_map]; omega)) ?_
      rfl
end NH.P
namespace NH.K83
open PySem L2 NH NH.P
theorem tells : Tells law_k83 := tells83
end NH.K83
end
section
set_option linter.all false
set_option maxRecDepth 100000
set_option maxHeartbeats 4000000
namespace NH.K83
open PySem PySem.Spec PyProof.Rows L2 NH NH.P
theorem all_mk {l : PySem.W.OpenLaw} {w : World} {K : PySem.W.Frag} {h : Heap} {mg : Str → Option Value} {fa : Addr} {C0 : Addr} {C1 : Addr} {C2 : Addr} {C3 : Addr} {C4 : Addr} {f0 N0 : Addr} {od0 an0 dd0 : Option Addr} {sl0 : Array (Option Value)} {oc0 kV0 dc0 pm0 cd0 ct0 : Value} {nm0 qn0 : Str} {bs0 sb0 : List Value} {hd0 ab0 : Bool} {sn0 : List Str} {co0 : Option Bool} {ka0 kb0 kc0 kd0 ke0 : Option Value} {f1 : Addr} {od1 an1 : Option Addr} {sl1 : Array (Option Value)} {oc1 kV1 dc1 pm1 cd1 ct1 : Value} {f2 : Addr} {od2 an2 : Option Addr} {sl2 : Array (Option Value)} {oc2 kV2 dc2 pm2 cd2 ct2 : Value} {f3 : Addr} {od3 an3 : Option Addr} {sl3 : Array (Option Value)} {oc3 kV3 dc3 pm3 cd3 ct3 : Value} {f4 : Addr} {od4 an4 : Option Addr} {sl4 : Array (Option Value)} {oc4 kV4 dc4 pm4 cd4 ct4 : Value} {CC4 : Addr} {f5 : Addr} {od5 an5 : Option Addr} {sl5 : Array (Option Value)} {oc5 kV5 dc5 pm5 cd5 ct5 : Value} {f6 : Addr} {od6 an6 : Option Addr} {sl6 : Array (Option Value)} {oc6 kV6 dc6 pm6 cd6 ct6 : Value} {f7 : Addr} {od7 an7 : Option Addr} {sl7 : Array (Option Value)} {oc7 kV7 dc7 pm7 cd7 ct7 : Value} {tk8 : Tok} {tk9 : Tok} {f10 : Addr} {od10 an10 : Option Addr} {sl10 : Array (Option Value)} {oc10 kV10 dc10 pm10 cd10 ct10 : Value} {f11 : Addr} {od11 an11 : Option Addr} {sl11 : Array (Option Value)} {oc11 kV11 dc11 pm11 cd11 ct11 : Value} {f12 : Addr} {od12 an12 : Option Addr} {sl12 : Array (Option Value)} {oc12 kV12 dc12 pm12 cd12 ct12 : Value} {tk13 : Tok} {tk14 : Tok} {f15 : Addr} {od15 an15 : Option Addr} {sl15 : Array (Option Value)} {oc15 kV15 dc15 pm15 cd15 ct15 : Value} {f16 : Addr} {od16 an16 : Option Addr} {sl16 : Array (Option Value)} {oc16 kV16 dc16 pm16 cd16 ct16 : Value} {f17 : Addr} {od17 an17 : Option Addr} {sl17 : Array (Option Value)} {oc17 kV17 dc17 pm17 cd17 ct17 : Value} {f18 : Addr} {od18 an18 : Option Addr} {sl18 : Array (Option Value)} {oc18 kV18 dc18 pm18 cd18 ct18 : Value} {f19 : Addr} {od19 an19 : Option Addr} {sl19 : Array (Option Value)} {oc19 kV19 dc19 pm19 cd19 ct19 : Value} {f20 : Addr} {od20 an20 : Option Addr} {sl20 : Array (Option Value)} {oc20 kV20 dc20 pm20 cd20 ct20 : Value} {f21 : Addr} {od21 an21 : Option Addr} {sl21 : Array (Option Value)} {oc21 kV21 dc21 pm21 cd21 ct21 : Value} {tk22 : Tok} {tk23 : Tok} {f24 : Addr} {od24 an24 : Option Addr} {sl24 : Array (Option Value)} {oc24 kV24 dc24 pm24 cd24 ct24 : Value} {f25 : Addr} {od25 an25 : Option Addr} {sl25 : Array (Option Value)} {oc25 kV25 dc25 pm25 cd25 ct25 : Value} {f26 : Addr} {od26 an26 : Option Addr} {sl26 : Array (Option Value)} {oc26 kV26 dc26 pm26 cd26 ct26 : Value} {f27 : Addr} {od27 an27 : Option Addr} {sl27 : Array (Option Value)} {oc27 kV27 dc27 pm27 cd27 ct27 : Value} {f28 : Addr} {od28 an28 : Option Addr} {sl28 : Array (Option Value)} {oc28 kV28 dc28 pm28 cd28 ct28 : Value} {f29 : Addr} {od29 an29 : Option Addr} {sl29 : Array (Option Value)} {oc29 kV29 dc29 pm29 cd29 ct29 : Value} {f30 : Addr} {od30 an30 : Option Addr} {sl30 : Array (Option Value)} {oc30 kV30 dc30 pm30 cd30 ct30 : Value} {f31 : Addr} {od31 an31 : Option Addr} {sl31 : Array (Option Value)} {oc31 kV31 dc31 pm31 cd31 ct31 : Value} {f32 : Addr} {od32 an32 : Option Addr} {sl32 : Array (Option Value)} {oc32 kV32 dc32 pm32 cd32 ct32 : Value} {f33 : Addr} {od33 an33 : Option Addr} {sl33 : Array (Option Value)} {oc33 kV33 dc33 pm33 cd33 ct33 : Value} {f34 : Addr} {od34 an34 : Option Addr} {sl34 : Array (Option Value)} {oc34 kV34 dc34 pm34 cd34 ct34 : Value} {f35 : Addr} {od35 an35 : Option Addr} {sl35 : Array (Option Value)} {oc35 kV35 dc35 pm35 cd35 ct35 : Value} {f36 : Addr} {od36 an36 : Option Addr} {sl36 : Array (Option Value)} {oc36 kV36 dc36 pm36 cd36 ct36 : Value} {f37 : Addr} {od37 an37 : Option Addr} {sl37 : Array (Option Value)} {oc37 kV37 dc37 pm37 cd37 ct37 : Value} {f38 : Addr} {od38 an38 : Option Addr} {sl38 : Array (Option Value)} {oc38 kV38 dc38 pm38 cd38 ct38 : Value} (X : K.In h) (G : h.Ns mainGlobals mg) (hfa : mg "law" = some (.ref fa))
    (e0 : PySem.W.nsIn K mainGlobals "HouseError" = some (some (.ref C0)))
    (e1 : PySem.W.nsIn K mainGlobals "NoShape" = some (some (.ref C1)))
    (e2 : PySem.W.nsIn K mainGlobals "NoName" = some (some (.ref C2)))
    (e3 : PySem.W.nsIn K mainGlobals "NoText" = some (some (.ref C3)))
    (e4 : PySem.W.nsIn K mainGlobals "NoHolder" = some (some (.ref C4)))
    (xa0 : K.lookup C3 = some (excClassObj nm0 qn0 C3 N0 bs0 (.ref C0 :: veMro) hd0 sn0 sb0 ab0 co0 dd0 ka0 kb0 kc0 kd0 ke0 "ValueError.__new__"))
    (xb0 : PySem.W.nsOkIn K N0 = true)
    (xc0 : PySem.W.nsIn K N0 "__init__" = some (some (.ref f0)))
    (xd0 : PySem.W.typeIn K (.ref f0) = some (.type "function"))
    (xe0 : PySem.W.findIn K (.ref C3) "__setattr__" = some (some (.builtin "object.__setattr__")))
    (xf0 : PySem.W.findIn K (.ref C3) "line" = some none)
    (xg0 : PySem.W.hasDictIn K C3 = true)
    (xh0 : PySem.W.keepIn K (.ref C3) = true)
    (ha0 : PySem.W.specialIn K (.ref C0) "__getattribute__" = some (some (.builtin "type.__getattribute__")))
    (ha1 : PySem.W.readsIn K C0 (.type "type") = true)
    (ha2 : PySem.W.findCls K (.ref C0) (.type "type") "__init__" = some (.val (.builtin "ValueError.__init__")))
    (l0 : K.lookup f0 = some ⟨oc0, od0, .func (PySem.W.fnOf "__init__" "NoText.__init__" (defArgs s_NoText_init) (defBody s_NoText_init) (defScope s_NoText_init) .none kV0 dc0 pm0 an0 cd0 ct0), sl0⟩)
    (c0 : PySem.W.codeIn K cd0 "NoText.__init__" = true)
    (k0 : PySem.W.keepIn K (.ref f0) = true)
    (a1 : PySem.W.nsIn K mainGlobals "is_whole" = some (some (.ref f1)))
    (l1 : K.lookup f1 = some ⟨oc1, od1, .func (PySem.W.fnOf "is_whole" "is_whole" (defArgs s_is_whole) (defBody s_is_whole) (defScope s_is_whole) .none kV1 dc1 pm1 an1 cd1 ct1), sl1⟩)
    (c1 : PySem.W.codeIn K cd1 "is_whole" = true)
    (k1 : PySem.W.keepIn K (.ref f1) = true)
    (a2 : PySem.W.nsIn K mainGlobals "is_size" = some (some (.ref f2)))
    (l2 : K.lookup f2 = some ⟨oc2, od2, .func (PySem.W.fnOf "is_size" "is_size" (defArgs s_is_size) (defBody s_is_size) (defScope s_is_size) .none kV2 dc2 pm2 an2 cd2 ct2), sl2⟩)
    (c2 : PySem.W.codeIn K cd2 "is_size" = true)
    (k2 : PySem.W.keepIn K (.ref f2) = true)
    (a3 : PySem.W.nsIn K mainGlobals "is_below" = some (some (.ref f3)))
    (l3 : K.lookup f3 = some ⟨oc3, od3, .func (PySem.W.fnOf "is_below" "is_below" (defArgs s_is_below) (defBody s_is_below) (defScope s_is_below) .none kV3 dc3 pm3 an3 cd3 ct3), sl3⟩)
    (c3 : PySem.W.codeIn K cd3 "is_below" = true)
    (k3 : PySem.W.keepIn K (.ref f3) = true)
    (q4 : PySem.W.nsIn K mainGlobals "Shape" = some (some (.ref CC4)))
    (i4 : PySem.W.findIn K (.ref CC4) "__init__" = some (some (.ref f4)))
    (j4 : PySem.W.isFn K (.ref f4) = true)
    (l4 : K.lookup f4 = some ⟨oc4, od4, .func (PySem.W.fnOf "__init__" "Shape.__init__" (defArgs s_Shape_init) (defBody s_Shape_init) (defScope s_Shape_init) .none kV4 dc4 pm4 an4 cd4 ct4), sl4⟩)
    (c4 : PySem.W.codeIn K cd4 "Shape.__init__" = true)
    (k4 : PySem.W.keepIn K (.ref f4) = true)
    (mk4 : PySem.W.makesIn K CC4 = true)
    (kk4 : PySem.W.keepIn K (.ref CC4) = true)
    (a5 : PySem.W.nsIn K mainGlobals "names_in" = some (some (.ref f5)))
    (l5 : K.lookup f5 = some ⟨oc5, od5, .func (PySem.W.fnOf "names_in" "names_in" (defArgs s_names_in) (defBody s_names_in) (defScope s_names_in) .none kV5 dc5 pm5 an5 cd5 ct5), sl5⟩)
    (c5 : PySem.W.codeIn K cd5 "names_in" = true)
    (k5 : PySem.W.keepIn K (.ref f5) = true)
    (a6 : PySem.W.nsIn K mainGlobals "is_name" = some (some (.ref f6)))
    (l6 : K.lookup f6 = some ⟨oc6, od6, .func (PySem.W.fnOf "is_name" "is_name" (defArgs s_is_name) (defBody s_is_name) (defScope s_is_name) .none kV6 dc6 pm6 an6 cd6 ct6), sl6⟩)
    (c6 : PySem.W.codeIn K cd6 "is_name" = true)
    (k6 : PySem.W.keepIn K (.ref f6) = true)
    (a7 : PySem.W.nsIn K mainGlobals "check_name" = some (some (.ref f7)))
    (l7 : K.lookup f7 = some ⟨oc7, od7, .func (PySem.W.fnOf "check_name" "check_name" (defArgs s_check_name) (defBody s_check_name) (defScope s_check_name) .none kV7 dc7 pm7 an7 cd7 ct7), sl7⟩)
    (c7 : PySem.W.codeIn K cd7 "check_name" = true)
    (k7 : PySem.W.keepIn K (.ref f7) = true)
    (v8 : PySem.W.nsIn K mainGlobals "LETTERS" = some (some (.str "abcdefghijklmnopqrstuvwxyz" tk8)))
    (v9 : PySem.W.nsIn K mainGlobals "LONGEST_HOLDER" = some (some (.int 8 tk9)))
    (a10 : PySem.W.nsIn K mainGlobals "is_holder" = some (some (.ref f10)))
    (l10 : K.lookup f10 = some ⟨oc10, od10, .func (PySem.W.fnOf "is_holder" "is_holder" (defArgs s_is_holder) (defBody s_is_holder) (defScope s_is_holder) .none kV10 dc10 pm10 an10 cd10 ct10), sl10⟩)
    (c10 : PySem.W.codeIn K cd10 "is_holder" = true)
    (k10 : PySem.W.keepIn K (.ref f10) = true)
    (a11 : PySem.W.nsIn K mainGlobals "is_entry" = some (some (.ref f11)))
    (l11 : K.lookup f11 = some ⟨oc11, od11, .func (PySem.W.fnOf "is_entry" "is_entry" (defArgs s_is_entry) (defBody s_is_entry) (defScope s_is_entry) .none kV11 dc11 pm11 an11 cd11 ct11), sl11⟩)
    (c11 : PySem.W.codeIn K cd11 "is_entry" = true)
    (k11 : PySem.W.keepIn K (.ref f11) = true)
    (a12 : PySem.W.nsIn K mainGlobals "check_book" = some (some (.ref f12)))
    (l12 : K.lookup f12 = some ⟨oc12, od12, .func (PySem.W.fnOf "check_book" "check_book" (defArgs s_check_book) (defBody s_check_book) (defScope s_check_book) .none kV12 dc12 pm12 an12 cd12 ct12), sl12⟩)
    (c12 : PySem.W.codeIn K cd12 "check_book" = true)
    (k12 : PySem.W.keepIn K (.ref f12) = true)
    (v13 : PySem.W.nsIn K mainGlobals "SIGNS" = some (some (.str "0123456789abcdefghjkmnpqrstvwxyz" tk13)))
    (v14 : PySem.W.nsIn K mainGlobals "BASE" = some (some (.int 32 tk14)))
    (a15 : PySem.W.nsIn K mainGlobals "length_for" = some (some (.ref f15)))
    (l15 : K.lookup f15 = some ⟨oc15, od15, .func (PySem.W.fnOf "length_for" "length_for" (defArgs s_length_for) (defBody s_length_for) (defScope s_length_for) .none kV15 dc15 pm15 an15 cd15 ct15), sl15⟩)
    (c15 : PySem.W.codeIn K cd15 "length_for" = true)
    (k15 : PySem.W.keepIn K (.ref f15) = true)
    (a16 : PySem.W.nsIn K mainGlobals "word_of" = some (some (.ref f16)))
    (l16 : K.lookup f16 = some ⟨oc16, od16, .func (PySem.W.fnOf "word_of" "word_of" (defArgs s_word_of) (defBody s_word_of) (defScope s_word_of) .none kV16 dc16 pm16 an16 cd16 ct16), sl16⟩)
    (c16 : PySem.W.codeIn K cd16 "word_of" = true)
    (k16 : PySem.W.keepIn K (.ref f16) = true)
    (a17 : PySem.W.nsIn K mainGlobals "is_word" = some (some (.ref f17)))
    (l17 : K.lookup f17 = some ⟨oc17, od17, .func (PySem.W.fnOf "is_word" "is_word" (defArgs s_is_word) (defBody s_is_word) (defScope s_is_word) .none kV17 dc17 pm17 an17 cd17 ct17), sl17⟩)
    (c17 : PySem.W.codeIn K cd17 "is_word" = true)
    (k17 : PySem.W.keepIn K (.ref f17) = true)
    (a18 : PySem.W.nsIn K mainGlobals "number_of" = some (some (.ref f18)))
    (l18 : K.lookup f18 = some ⟨oc18, od18, .func (PySem.W.fnOf "number_of" "number_of" (defArgs s_number_of) (defBody s_number_of) (defScope s_number_of) .none kV18 dc18 pm18 an18 cd18 ct18), sl18⟩)
    (c18 : PySem.W.codeIn K cd18 "number_of" = true)
    (k18 : PySem.W.keepIn K (.ref f18) = true)
    (a19 : PySem.W.nsIn K mainGlobals "width" = some (some (.ref f19)))
    (l19 : K.lookup f19 = some ⟨oc19, od19, .func (PySem.W.fnOf "width" "width" (defArgs s_width) (defBody s_width) (defScope s_width) .none kV19 dc19 pm19 an19 cd19 ct19), sl19⟩)
    (c19 : PySem.W.codeIn K cd19 "width" = true)
    (k19 : PySem.W.keepIn K (.ref f19) = true)
    (a20 : PySem.W.nsIn K mainGlobals "show_name" = some (some (.ref f20)))
    (l20 : K.lookup f20 = some ⟨oc20, od20, .func (PySem.W.fnOf "show_name" "show_name" (defArgs s_show_name) (defBody s_show_name) (defScope s_show_name) .none kV20 dc20 pm20 an20 cd20 ct20), sl20⟩)
    (c20 : PySem.W.codeIn K cd20 "show_name" = true)
    (k20 : PySem.W.keepIn K (.ref f20) = true)
    (a21 : PySem.W.nsIn K mainGlobals "read_name" = some (some (.ref f21)))
    (l21 : K.lookup f21 = some ⟨oc21, od21, .func (PySem.W.fnOf "read_name" "read_name" (defArgs s_read_name) (defBody s_read_name) (defScope s_read_name) .none kV21 dc21 pm21 an21 cd21 ct21), sl21⟩)
    (c21 : PySem.W.codeIn K cd21 "read_name" = true)
    (k21 : PySem.W.keepIn K (.ref f21) = true)
    (v22 : PySem.W.nsIn K mainGlobals "BLANK" = some (some (.str " " tk22)))
    (v23 : PySem.W.nsIn K mainGlobals "BETWEEN_LINES" = some (some (.str "\n" tk23)))
    (a24 : PySem.W.nsIn K mainGlobals "check_text" = some (some (.ref f24)))
    (l24 : K.lookup f24 = some ⟨oc24, od24, .func (PySem.W.fnOf "check_text" "check_text" (defArgs s_check_text) (defBody s_check_text) (defScope s_check_text) .none kV24 dc24 pm24 an24 cd24 ct24), sl24⟩)
    (c24 : PySem.W.codeIn K cd24 "check_text" = true)
    (k24 : PySem.W.keepIn K (.ref f24) = true)
    (a25 : PySem.W.nsIn K mainGlobals "show_book" = some (some (.ref f25)))
    (l25 : K.lookup f25 = some ⟨oc25, od25, .func (PySem.W.fnOf "show_book" "show_book" (defArgs s_show_book) (defBody s_show_book) (defScope s_show_book) .none kV25 dc25 pm25 an25 cd25 ct25), sl25⟩)
    (c25 : PySem.W.codeIn K cd25 "show_book" = true)
    (k25 : PySem.W.keepIn K (.ref f25) = true)
    (a26 : PySem.W.nsIn K mainGlobals "read_entry" = some (some (.ref f26)))
    (l26 : K.lookup f26 = some ⟨oc26, od26, .func (PySem.W.fnOf "read_entry" "read_entry" (defArgs s_read_entry) (defBody s_read_entry) (defScope s_read_entry) .none kV26 dc26 pm26 an26 cd26 ct26), sl26⟩)
    (c26 : PySem.W.codeIn K cd26 "read_entry" = true)
    (k26 : PySem.W.keepIn K (.ref f26) = true)
    (a27 : PySem.W.nsIn K mainGlobals "read_book" = some (some (.ref f27)))
    (l27 : K.lookup f27 = some ⟨oc27, od27, .func (PySem.W.fnOf "read_book" "read_book" (defArgs s_read_book) (defBody s_read_book) (defScope s_read_book) .none kV27 dc27 pm27 an27 cd27 ct27), sl27⟩)
    (c27 : PySem.W.codeIn K cd27 "read_book" = true)
    (k27 : PySem.W.keepIn K (.ref f27) = true)
    (a28 : PySem.W.nsIn K mainGlobals "_law_cell_at" = some (some (.ref f28)))
    (l28 : K.lookup f28 = some ⟨oc28, od28, .func (PySem.W.fnOf "_law_cell_at" "_law_cell_at" (defArgs s_l_cell_at) (defBody s_l_cell_at) (defScope s_l_cell_at) .none kV28 dc28 pm28 an28 cd28 ct28), sl28⟩)
    (c28 : PySem.W.codeIn K cd28 "_law_cell_at" = true)
    (k28 : PySem.W.keepIn K (.ref f28) = true)
    (a29 : PySem.W.nsIn K mainGlobals "_law_begin" = some (some (.ref f29)))
    (l29 : K.lookup f29 = some ⟨oc29, od29, .func (PySem.W.fnOf "_law_begin" "_law_begin" (defArgs s_l_begin) (defBody s_l_begin) (defScope s_l_begin) .none kV29 dc29 pm29 an29 cd29 ct29), sl29⟩)
    (c29 : PySem.W.codeIn K cd29 "_law_begin" = true)
    (k29 : PySem.W.keepIn K (.ref f29) = true)
    (a30 : PySem.W.nsIn K mainGlobals "_law_next" = some (some (.ref f30)))
    (l30 : K.lookup f30 = some ⟨oc30, od30, .func (PySem.W.fnOf "_law_next" "_law_next" (defArgs s_l_next) (defBody s_l_next) (defScope s_l_next) .none kV30 dc30 pm30 an30 cd30 ct30), sl30⟩)
    (c30 : PySem.W.codeIn K cd30 "_law_next" = true)
    (k30 : PySem.W.keepIn K (.ref f30) = true)
    (a31 : PySem.W.nsIn K mainGlobals "_law_holder" = some (some (.ref f31)))
    (l31 : K.lookup f31 = some ⟨oc31, od31, .func (PySem.W.fnOf "_law_holder" "_law_holder" (defArgs s_l_holder) (defBody s_l_holder) (defScope s_l_holder) .none kV31 dc31 pm31 an31 cd31 ct31), sl31⟩)
    (c31 : PySem.W.codeIn K cd31 "_law_holder" = true)
    (k31 : PySem.W.keepIn K (.ref f31) = true)
    (a32 : PySem.W.nsIn K mainGlobals "_law_big" = some (some (.ref f32)))
    (l32 : K.lookup f32 = some ⟨oc32, od32, .func (PySem.W.fnOf "_law_big" "_law_big" (defArgs s_l_big) (defBody s_l_big) (defScope s_l_big) .none kV32 dc32 pm32 an32 cd32 ct32), sl32⟩)
    (c32 : PySem.W.codeIn K cd32 "_law_big" = true)
    (k32 : PySem.W.keepIn K (.ref f32) = true)
    (a33 : PySem.W.nsIn K mainGlobals "_law_shape" = some (some (.ref f33)))
    (l33 : K.lookup f33 = some ⟨oc33, od33, .func (PySem.W.fnOf "_law_shape" "_law_shape" (defArgs s_l_shape) (defBody s_l_shape) (defScope s_l_shape) .none kV33 dc33 pm33 an33 cd33 ct33), sl33⟩)
    (c33 : PySem.W.codeIn K cd33 "_law_shape" = true)
    (k33 : PySem.W.keepIn K (.ref f33) = true)
    (a34 : PySem.W.nsIn K mainGlobals "_law_name" = some (some (.ref f34)))
    (l34 : K.lookup f34 = some ⟨oc34, od34, .func (PySem.W.fnOf "_law_name" "_law_name" (defArgs s_l_name) (defBody s_l_name) (defScope s_l_name) .none kV34 dc34 pm34 an34 cd34 ct34), sl34⟩)
    (c34 : PySem.W.codeIn K cd34 "_law_name" = true)
    (k34 : PySem.W.keepIn K (.ref f34) = true)
    (a35 : PySem.W.nsIn K mainGlobals "_law_width" = some (some (.ref f35)))
    (l35 : K.lookup f35 = some ⟨oc35, od35, .func (PySem.W.fnOf "_law_width" "_law_width" (defArgs s_l_width) (defBody s_l_width) (defScope s_l_width) .none kV35 dc35 pm35 an35 cd35 ct35), sl35⟩)
    (c35 : PySem.W.codeIn K cd35 "_law_width" = true)
    (k35 : PySem.W.keepIn K (.ref f35) = true)
    (a36 : PySem.W.nsIn K mainGlobals "_law_text" = some (some (.ref f36)))
    (l36 : K.lookup f36 = some ⟨oc36, od36, .func (PySem.W.fnOf "_law_text" "_law_text" (defArgs s_l_text_2) (defBody s_l_text_2) (defScope s_l_text_2) .none kV36 dc36 pm36 an36 cd36 ct36), sl36⟩)
    (c36 : PySem.W.codeIn K cd36 "_law_text" = true)
    (k36 : PySem.W.keepIn K (.ref f36) = true)
    (a37 : PySem.W.nsIn K mainGlobals "_law_refused" = some (some (.ref f37)))
    (l37 : K.lookup f37 = some ⟨oc37, od37, .func (PySem.W.fnOf "_law_refused" "_law_refused" (defArgs s_l_refused_5) (defBody s_l_refused_5) (defScope s_l_refused_5) .none kV37 dc37 pm37 an37 cd37 ct37), sl37⟩)
    (c37 : PySem.W.codeIn K cd37 "_law_refused" = true)
    (k37 : PySem.W.keepIn K (.ref f37) = true)
    (a38 : PySem.W.nsIn K mainGlobals "law" = some (some (.ref f38)))
    (l38 : K.lookup f38 = some ⟨oc38, od38, .func (PySem.W.fnOf "law" "law" (defArgs s_law_k83) (defBody s_law_k83) (defScope s_law_k83) .none kV38 dc38 pm38 an38 cd38 ct38), sl38⟩)
    (c38 : PySem.W.codeIn K cd38 "law" = true)
    (k38 : PySem.W.keepIn K (.ref f38) = true)
    (x0 : PySem.W.excIn K C0 veMro "ValueError.__new__" = true)
    (x1 : PySem.W.excIn K C1 veMro "ValueError.__new__" = true)
    (x2 : PySem.W.excIn K C2 veMro "ValueError.__new__" = true)
    (x4 : PySem.W.excIn K C4 veMro "ValueError.__new__" = true)
    (zl : noLs K = true)
    (zc : chk K ⟨[(10, C0), (12, C1), (13, C2), (14, C3), (17, C4)], [(40, CC4)]⟩ cls fld = true)
    (zg : chkGs K ⟨[(10, C0), (12, C1), (13, C2), (14, C3), (17, C4)], [(40, CC4)]⟩ ["ValueError", "all", "bool", "int", "isinstance", "len", "list", "range", "reversed", "str", "tuple"] [("HouseError", 10), ("NoShape", 12), ("NoName", 13), ("NoHolder", 17)] [("NoText", 14, 28)] = true) :
    ∃ fd : FuncData, (∀ (s : Shared) (v : Value), BindsTo s fd ⟨[v], []⟩ [("_law_script", v)]) ∧ ∀ base : Heap, K.In base → base.Ns mainGlobals mg → FnOk l.prog w K mg base (CX1 l.prog w) 35 fa fd ["_law_script"] (spLaw K) := by
  have e := hfa.symm.trans (PySem.W.mg_of X G a38)
  cases e
  have F0 := fun_mk (st := s_NoText_init) l0 c0 k0
  have b0 := F0.binds (ps := ["self", "line"]) fun _ _ _ _ _ _ us hl => match us, hl with | [_, _], _ => rfl
  have F1 := fun_mk (st := s_is_whole) l1 c1 k1
  have b1 := F1.binds (ps := ["thing"]) fun _ _ _ _ _ _ us hl => match us, hl with | [_], _ => rfl
  have F2 := fun_mk (st := s_is_size) l2 c2 k2
  have b2 := F2.binds (ps := ["thing"]) fun _ _ _ _ _ _ us hl => match us, hl with | [_], _ => rfl
  have F3 := fun_mk (st := s_is_below) l3 c3 k3
  have b3 := F3.binds (ps := ["thing", "bound"]) fun _ _ _ _ _ _ us hl => match us, hl with | [_, _], _ => rfl
  have F4 := fun_mk (st := s_Shape_init) l4 c4 k4
  have b4 := F4.binds (ps := ["self", "moments", "houses", "counts"]) fun _ _ _ _ _ _ us hl => match us, hl with | [_, _, _, _], _ => rfl
  have F5 := fun_mk (st := s_names_in) l5 c5 k5
  have b5 := F5.binds (ps := ["shape"]) fun _ _ _ _ _ _ us hl => match us, hl with | [_], _ => rfl
  have F6 := fun_mk (st := s_is_name) l6 c6 k6
  have b6 := F6.binds (ps := ["shape", "thing"]) fun _ _ _ _ _ _ us hl => match us, hl with | [_, _], _ => rfl
  have F7 := fun_mk (st := s_check_name) l7 c7 k7
  have b7 := F7.binds (ps := ["shape", "thing"]) fun _ _ _ _ _ _ us hl => match us, hl with | [_, _], _ => rfl
  have F10 := fun_mk (st := s_is_holder) l10 c10 k10
  have b10 := F10.binds (ps := ["thing"]) fun _ _ _ _ _ _ us hl => match us, hl with | [_], _ => rfl
  have F11 := fun_mk (st := s_is_entry) l11 c11 k11
  have b11 := F11.binds (ps := ["shape", "thing"]) fun _ _ _ _ _ _ us hl => match us, hl with | [_, _], _ => rfl
  have F12 := fun_mk (st := s_check_book) l12 c12 k12
  have b12 := F12.binds (ps := ["shape", "thing"]) fun _ _ _ _ _ _ us hl => match us, hl with | [_, _], _ => rfl
  have F15 := fun_mk (st := s_length_for) l15 c15 k15
  have b15 := F15.binds (ps := ["many"]) fun _ _ _ _ _ _ us hl => match us, hl with | [_], _ => rfl
  have F16 := fun_mk (st := s_word_of) l16 c16 k16
  have b16 := F16.binds (ps := ["number", "length"]) fun _ _ _ _ _ _ us hl => match us, hl with | [_, _], _ => rfl
  have F17 := fun_mk (st := s_is_word) l17 c17 k17
  have b17 := F17.binds (ps := ["thing", "length"]) fun _ _ _ _ _ _ us hl => match us, hl with | [_, _], _ => rfl
  have F18 := fun_mk (st := s_number_of) l18 c18 k18
  have b18 := F18.binds (ps := ["word"]) fun _ _ _ _ _ _ us hl => match us, hl with | [_], _ => rfl
  have F19 := fun_mk (st := s_width) l19 c19 k19
  have b19 := F19.binds (ps := ["shape"]) fun _ _ _ _ _ _ us hl => match us, hl with | [_], _ => rfl
  have F20 := fun_mk (st := s_show_name) l20 c20 k20
  have b20 := F20.binds (ps := ["shape", "name"]) fun _ _ _ _ _ _ us hl => match us, hl with | [_, _], _ => rfl
  have F21 := fun_mk (st := s_read_name) l21 c21 k21
  have b21 := F21.binds (ps := ["shape", "text"]) fun _ _ _ _ _ _ us hl => match us, hl with | [_, _], _ => rfl
  have F24 := fun_mk (st := s_check_text) l24 c24 k24
  have b24 := F24.binds (ps := ["thing"]) fun _ _ _ _ _ _ us hl => match us, hl with | [_], _ => rfl
  have F25 := fun_mk (st := s_show_book) l25 c25 k25
  have b25 := F25.binds (ps := ["shape", "book"]) fun _ _ _ _ _ _ us hl => match us, hl with | [_, _], _ => rfl
  have F26 := fun_mk (st := s_read_entry) l26 c26 k26
  have b26 := F26.binds (ps := ["shape", "text", "line"]) fun _ _ _ _ _ _ us hl => match us, hl with | [_, _, _], _ => rfl
  have F27 := fun_mk (st := s_read_book) l27 c27 k27
  have b27 := F27.binds (ps := ["shape", "text"]) fun _ _ _ _ _ _ us hl => match us, hl with | [_, _], _ => rfl
  have F28 := fun_mk (st := s_l_cell_at) l28 c28 k28
  have b28 := F28.binds (ps := ["_law_script", "_law_k"]) fun _ _ _ _ _ _ us hl => match us, hl with | [_, _], _ => rfl
  have F29 := fun_mk (st := s_l_begin) l29 c29 k29
  have b29 := F29.binds (ps := ["_law_cell"]) fun _ _ _ _ _ _ us hl => match us, hl with | [_], _ => rfl
  have F30 := fun_mk (st := s_l_next) l30 c30 k30
  have b30 := F30.binds (ps := ["_law_state", "_law_base"]) fun _ _ _ _ _ _ us hl => match us, hl with | [_, _], _ => rfl
  have F31 := fun_mk (st := s_l_holder) l31 c31 k31
  have b31 := F31.binds (ps := ["_law_state"]) fun _ _ _ _ _ _ us hl => match us, hl with | [_], _ => rfl
  have F32 := fun_mk (st := s_l_big) l32 c32 k32
  have b32 := F32.binds (ps := ["_law_state"]) fun _ _ _ _ _ _ us hl => match us, hl with | [_], _ => rfl
  have F33 := fun_mk (st := s_l_shape) l33 c33 k33
  have b33 := F33.binds (ps := ["_law_state"]) fun _ _ _ _ _ _ us hl => match us, hl with | [_], _ => rfl
  have F34 := fun_mk (st := s_l_name) l34 c34 k34
  have b34 := F34.binds (ps := ["_law_state", "_law_sizes"]) fun _ _ _ _ _ _ us hl => match us, hl with | [_, _], _ => rfl
  have F35 := fun_mk (st := s_l_width) l35 c35 k35
  have b35 := F35.binds (ps := ["_law_sizes"]) fun _ _ _ _ _ _ us hl => match us, hl with | [_], _ => rfl
  have F36 := fun_mk (st := s_l_text_2) l36 c36 k36
  have b36 := F36.binds (ps := ["_law_sizes", "_law_name_here"]) fun _ _ _ _ _ _ us hl => match us, hl with | [_, _], _ => rfl
  have F37 := fun_mk (st := s_l_refused_5) l37 c37 k37
  have b37 := F37.binds (ps := ["_law_shape_here", "_law_book"]) fun _ _ _ _ _ _ us hl => match us, hl with | [_, _], _ => rfl
  have F38 := fun_mk (st := s_law_k83) l38 c38 k38
  have b38 := F38.binds (ps := ["_law_script"]) fun _ _ _ _ _ _ us hl => match us, hl with | [_], _ => rfl
  refine ⟨PySem.W.fnOf "law" "law" (defArgs s_law_k83) (defBody s_law_k83) (defScope s_law_k83) .none kV38 dc38 pm38 an38 cd38 ct38, fun s v => .of_eq rfl, fun base kb nb => ?_⟩
  have g0 : GsOk l.prog w K mg base ⟨[(10, C0), (12, C1), (13, C2), (14, C3), (17, C4)], [(40, CC4)]⟩ (fun _ _ _ _ => False) 0 gs0 := plainGs_ok kb nb zg ⟨⟨C0, rfl, x0⟩, ⟨C1, rfl, x1⟩, ⟨C2, rfl, x2⟩, ⟨C4, rfl, x4⟩, trivial⟩
  have XI0 : XIn K C3 C0 f0 "line" := ⟨⟨N0, nm0, qn0, bs0, hd0, sn0, sb0, ab0, co0, dd0, ka0, kb0, kc0, kd0, ke0, xa0, xb0, xc0⟩, x0, xd0, xe0, xf0, xg0, xh0⟩
  have W0 : FnOk l.prog w K mg base (CX1 l.prog w) 1 f0 _ ["self", "line"] (spI C3 "line") := xi_fn XI0 ⟨PySem.W.mg_of kb nb e0, ha0, ha1, ha2⟩ l0 c0 (by first | exact ⟨_, _, _, _, _, _, _, _, _, _, _, rfl, rfl, .inl ⟨_, _, _, _, _, _, _, _, rfl, by decide, by decide⟩⟩ | exact ⟨_, _, _, _, _, _, _, _, _, _, _, rfl, rfl, .inr ⟨_, _, _, _, _, rfl, by decide⟩⟩) rfl
  have g1 : GsOk l.prog w K mg base _ _ 2 gs1 _ := GsOk.add (g0.mono (by decide)) ⟨C3, C0, f0, _, _, 1, rfl, PySem.W.mg_of kb nb e3, rfl, XI0, b0, by decide, W0⟩ rfl
  have g2 : GsOk l.prog w K mg base _ _ 2 gs2 _ := GsOk.add g1 ⟨C3, C0, f0, _, _, 1, rfl, PySem.W.mg_of kb nb e3, rfl, XI0, b0, by decide, W0⟩ rfl
  have W1 : FnOk l.prog w K mg base (CX1 l.prog w) 3 f1 _ ["thing"] (spN _ 1 is_whole) := fn_rule (m := 0) RU_ok (md_of (N := ["thing"]) (G := ["isinstance", "int", "bool"]) (cel := []) (own := []) (lam := none) kb nb zc g2) l1 c1 rfl rfl k_is_whole
  have g3 : GsOk l.prog w K mg base _ _ 3 gs3 _ := GsOk.add (g2.mono (by decide)) ⟨f1, PySem.W.mg_of kb nb a1, _, _, 3, k1, b1, by decide, W1, fnW_len⟩ rfl
  have W2 : FnOk l.prog w K mg base (CX1 l.prog w) 4 f2 _ ["thing"] (spN _ 1 is_size) := fn_rule (m := 0) RU_ok (md_of (N := ["thing"]) (G := ["is_whole"]) (cel := []) (own := []) (lam := none) kb nb zc g3) l2 c2 rfl rfl k_is_size
  have g4 : GsOk l.prog w K mg base _ _ 4 gs4 _ := GsOk.add (g3.mono (by decide)) ⟨f2, PySem.W.mg_of kb nb a2, _, _, 4, k2, b2, by decide, W2, fnW_len⟩ rfl
  have W3 : FnOk l.prog w K mg base (CX1 l.prog w) 5 f3 _ ["thing", "bound"] (spN _ 2 is_below) := fn_rule (m := 0) RU_ok (md_of (N := ["thing", "bound"]) (G := ["is_whole"]) (cel := []) (own := []) (lam := none) kb nb zc g4) l3 c3 rfl rfl k_is_below
  have g5 : GsOk l.prog w K mg base _ _ 5 gs5 _ := GsOk.add (g4.mono (by decide)) ⟨f3, PySem.W.mg_of kb nb a3, _, _, 5, k3, b3, by decide, W3, fnW_len⟩ rfl
  have W4 : FnOk l.prog w K mg base (CX1 l.prog w) 6 f4 _ ["self", "moments", "houses", "counts"] (spN _ 4 Shape_init) := fn_rule (m := 0) RU_ok (md_of (N := ["self", "moments", "houses", "counts"]) (G := ["is_size", "NoShape"]) (cel := []) (own := []) (lam := none) kb nb zc g5) l4 c4 rfl rfl k_Shape_init
  have g6 : GsOk l.prog w K mg base _ _ 7 gs6 _ := GsOk.add (g5.mono (by decide)) ⟨CC4, f4, _, _, 6, rfl, PySem.W.mg_of kb nb q4, ⟨mk4, i4, j4, kk4⟩, b4, by decide, W4, fnW_len⟩ rfl
  have W5 : FnOk l.prog w K mg base (CX1 l.prog w) 8 f5 _ ["shape"] (spN _ 1 names_in) := fn_rule (m := 0) RU_ok (md_of (N := ["shape"]) (G := []) (cel := []) (own := []) (lam := none) kb nb zc g6) l5 c5 rfl rfl k_names_in
  have g7 : GsOk l.prog w K mg base _ _ 8 gs7 _ := GsOk.add (g6.mono (by decide)) ⟨f5, PySem.W.mg_of kb nb a5, _, _, 8, k5, b5, by decide, W5, fnW_len⟩ rfl
  have W6 : FnOk l.prog w K mg base (CX1 l.prog w) 9 f6 _ ["shape", "thing"] (spN _ 2 is_name) := fn_rule (m := 0) RU_ok (md_of (N := ["shape", "thing"]) (G := ["is_below", "names_in"]) (cel := []) (own := []) (lam := none) kb nb zc g7) l6 c6 rfl rfl k_is_name
  have g8 : GsOk l.prog w K mg base _ _ 9 gs8 _ := GsOk.add (g7.mono (by decide)) ⟨f6, PySem.W.mg_of kb nb a6, _, _, 9, k6, b6, by decide, W6, fnW_len⟩ rfl
  have W7 : FnOk l.prog w K mg base (CX1 l.prog w) 10 f7 _ ["shape", "thing"] (spN _ 2 check_name) := fn_rule (m := 0) RU_ok (md_of (N := ["shape", "thing"]) (G := ["is_name", "NoName"]) (cel := []) (own := []) (lam := none) kb nb zc g8) l7 c7 rfl rfl k_check_name
  have g9 : GsOk l.prog w K mg base _ _ 10 gs9 _ := GsOk.add (g8.mono (by decide)) ⟨f7, PySem.W.mg_of kb nb a7, _, _, 10, k7, b7, by decide, W7, fnW_len⟩ rfl
  have g10 : GsOk l.prog w K mg base _ _ 10 gs10 _ := GsOk.add g9 ⟨_, (.str "abcdefghijklmnopqrstuvwxyz"), PySem.W.mg_of kb nb v8, ⟨_, rfl⟩, fun _ _ _ => rfl⟩ rfl
  have g11 : GsOk l.prog w K mg base _ _ 10 gs11 _ := GsOk.add g10 ⟨_, (.int 8), PySem.W.mg_of kb nb v9, ⟨_, rfl⟩, fun _ _ _ => rfl⟩ rfl
  have W10 : FnOk l.prog w K mg base (CX1 l.prog w) 11 f10 _ ["thing"] (spN _ 1 is_holder) := fn_rule (m := 0) RU_ok (md_of (N := ["thing"]) (G := ["isinstance", "str", "len", "LONGEST_HOLDER", "all"]) (cel := []) (own := []) (lam := none) kb nb zc g11) l10 c10 rfl rfl k_is_holder
  have g12 : GsOk l.prog w K mg base _ _ 11 gs12 _ := GsOk.add (g11.mono (by decide)) ⟨f10, PySem.W.mg_of kb nb a10, _, _, 11, k10, b10, by decide, W10, fnW_len⟩ rfl
  have W11 : FnOk l.prog w K mg base (CX1 l.prog w) 12 f11 _ ["shape", "thing"] (spN _ 2 is_entry) := fn_rule (m := 0) RU_ok (md_of (N := ["shape", "thing"]) (G := ["isinstance", "tuple", "len", "is_holder", "is_name"]) (cel := []) (own := []) (lam := none) kb nb zc g12) l11 c11 rfl rfl k_is_entry
  have g13 : GsOk l.prog w K mg base _ _ 12 gs13 _ := GsOk.add (g12.mono (by decide)) ⟨f11, PySem.W.mg_of kb nb a11, _, _, 12, k11, b11, by decide, W11, fnW_len⟩ rfl
  have W12 : FnOk l.prog w K mg base (CX1 l.prog w) 13 f12 _ ["shape", "thing"] (spN _ 2 check_book) := fn_rule (m := 0) RU_ok (md_of (N := ["shape", "thing"]) (G := ["isinstance", "list", "all", "NoName"]) (cel := ["shape"]) (own := []) (lam := none) kb nb zc g13) l12 c12 rfl rfl k_check_book
  have g14 : GsOk l.prog w K mg base _ _ 13 gs14 _ := GsOk.add (g13.mono (by decide)) ⟨f12, PySem.W.mg_of kb nb a12, _, _, 13, k12, b12, by decide, W12, fnW_len⟩ rfl
  have g15 : GsOk l.prog w K mg base _ _ 13 gs15 _ := GsOk.add g14 ⟨_, (.str "0123456789abcdefghjkmnpqrstvwxyz"), PySem.W.mg_of kb nb v13, ⟨_, rfl⟩, fun _ _ _ => rfl⟩ rfl
  have g16 : GsOk l.prog w K mg base _ _ 13 gs16 _ := GsOk.add g15 ⟨_, (.int 32), PySem.W.mg_of kb nb v14, ⟨_, rfl⟩, fun _ _ _ => rfl⟩ rfl
  have W15 : FnOk l.prog w K mg base (CX1 l.prog w) 14 f15 _ ["many"] (spN _ 1 length_for) := fn_rule (m := 2) RU_ok (md_of (N := ["many", "length", "room"]) (G := ["BASE"]) (cel := []) (own := []) (lam := none) kb nb zc g16) l15 c15 rfl rfl k_length_for
  have g17 : GsOk l.prog w K mg base _ _ 14 gs17 _ := GsOk.add (g16.mono (by decide)) ⟨f15, PySem.W.mg_of kb nb a15, _, _, 14, k15, b15, by decide, W15, fnW_len⟩ rfl
  have W16 : FnOk l.prog w K mg base (CX1 l.prog w) 15 f16 _ ["number", "length"] (spN _ 2 word_of) := fn_rule (m := 3) RU_ok (md_of (N := ["number", "length", "signs", "rest", "place"]) (G := ["range", "SIGNS", "BASE", "reversed"]) (cel := []) (own := ["signs"]) (lam := none) kb nb zc g17) l16 c16 rfl rfl k_word_of
  have g18 : GsOk l.prog w K mg base _ _ 15 gs18 _ := GsOk.add (g17.mono (by decide)) ⟨f16, PySem.W.mg_of kb nb a16, _, _, 15, k16, b16, by decide, fn_pure W16, pureFn_len fnW_len⟩ rfl
  have W17 : FnOk l.prog w K mg base (CX1 l.prog w) 16 f17 _ ["thing", "length"] (spN _ 2 is_word) := fn_rule (m := 0) RU_ok (md_of (N := ["thing", "length"]) (G := ["isinstance", "str", "len", "all"]) (cel := []) (own := []) (lam := none) kb nb zc g18) l17 c17 rfl rfl k_is_word
  have g19 : GsOk l.prog w K mg base _ _ 16 gs19 _ := GsOk.add (g18.mono (by decide)) ⟨f17, PySem.W.mg_of kb nb a17, _, _, 16, k17, b17, by decide, W17, fnW_len⟩ rfl
  have W18 : FnOk l.prog w K mg base (CX1 l.prog w) 17 f18 _ ["word"] (spN _ 1 number_of) := fn_rule (m := 2) RU_ok (md_of (N := ["word", "number", "sign"]) (G := ["BASE", "SIGNS"]) (cel := []) (own := []) (lam := none) kb nb zc g19) l18 c18 rfl rfl k_number_of
  have g20 : GsOk l.prog w K mg base _ _ 17 gs20 _ := GsOk.add (g19.mono (by decide)) ⟨f18, PySem.W.mg_of kb nb a18, _, _, 17, k18, b18, by decide, W18, fnW_len⟩ rfl
  have W19 : FnOk l.prog w K mg base (CX1 l.prog w) 18 f19 _ ["shape"] (spN _ 1 width) := fn_rule (m := 0) RU_ok (md_of (N := ["shape"]) (G := ["length_for", "names_in"]) (cel := []) (own := []) (lam := none) kb nb zc g20) l19 c19 rfl rfl k_width
  have g21 : GsOk l.prog w K mg base _ _ 18 gs21 _ := GsOk.add (g20.mono (by decide)) ⟨f19, PySem.W.mg_of kb nb a19, _, _, 18, k19, b19, by decide, W19, fnW_len⟩ rfl
  have W20 : FnOk l.prog w K mg base (CX1 l.prog w) 19 f20 _ ["shape", "name"] (spN _ 2 show_name) := fn_rule (m := 0) RU_ok (md_of (N := ["shape", "name"]) (G := ["check_name", "word_of", "width"]) (cel := []) (own := []) (lam := none) kb nb zc g21) l20 c20 rfl rfl k_show_name
  have g22 : GsOk l.prog w K mg base _ _ 19 gs22 _ := GsOk.add (g21.mono (by decide)) ⟨f20, PySem.W.mg_of kb nb a20, _, _, 19, k20, b20, by decide, W20, fnW_len⟩ rfl
  have W21 : FnOk l.prog w K mg base (CX1 l.prog w) 20 f21 _ ["shape", "text"] (spN _ 2 read_name) := fn_rule (m := 1) RU_ok (md_of (N := ["shape", "text", "name"]) (G := ["is_word", "width", "NoText", "number_of", "is_name"]) (cel := []) (own := []) (lam := none) kb nb zc g22) l21 c21 rfl rfl k_read_name
  have g23 : GsOk l.prog w K mg base _ _ 20 gs23 _ := GsOk.add (g22.mono (by decide)) ⟨f21, PySem.W.mg_of kb nb a21, _, _, 20, k21, b21, by decide, W21, fnW_len⟩ rfl
  have g24 : GsOk l.prog w K mg base _ _ 20 gs24 _ := GsOk.add g23 ⟨_, (.str " "), PySem.W.mg_of kb nb v22, ⟨_, rfl⟩, fun _ _ _ => rfl⟩ rfl
  have g25 : GsOk l.prog w K mg base _ _ 20 gs25 _ := GsOk.add g24 ⟨_, (.str "\n"), PySem.W.mg_of kb nb v23, ⟨_, rfl⟩, fun _ _ _ => rfl⟩ rfl
  have W24 : FnOk l.prog w K mg base (CX1 l.prog w) 21 f24 _ ["thing"] (spN _ 1 check_text) := fn_rule (m := 0) RU_ok (md_of (N := ["thing"]) (G := ["isinstance", "str", "NoText"]) (cel := []) (own := []) (lam := none) kb nb zc g25) l24 c24 rfl rfl k_check_text
  have g26 : GsOk l.prog w K mg base _ _ 21 gs26 _ := GsOk.add (g25.mono (by decide)) ⟨f24, PySem.W.mg_of kb nb a24, _, _, 21, k24, b24, by decide, W24, fnW_len⟩ rfl
  have W25 : FnOk l.prog w K mg base (CX1 l.prog w) 22 f25 _ ["shape", "book"] (spN _ 2 show_book) := fn_rule (m := 0) RU_ok (md_of (N := ["shape", "book"]) (G := ["check_book", "BETWEEN_LINES"]) (cel := ["shape"]) (own := []) (lam := none) kb nb zc g26) l25 c25 rfl rfl k_show_book
  have g27 : GsOk l.prog w K mg base _ _ 22 gs27 _ := GsOk.add (g26.mono (by decide)) ⟨f25, PySem.W.mg_of kb nb a25, _, _, 22, k25, b25, by decide, W25, fnW_len⟩ rfl
  have W26 : FnOk l.prog w K mg base (CX1 l.prog w) 23 f26 _ ["shape", "text", "line"] (spN _ 3 read_entry) := fn_rule (m := 1) RU_ok (md_of (N := ["shape", "text", "line", "words"]) (G := ["BLANK", "len", "is_holder", "NoText", "read_name"]) (cel := []) (own := []) (lam := none) kb nb zc g27) l26 c26 rfl rfl k_read_entry
  have g28 : GsOk l.prog w K mg base _ _ 23 gs28 _ := GsOk.add (g27.mono (by decide)) ⟨f26, PySem.W.mg_of kb nb a26, _, _, 23, k26, b26, by decide, W26, fnW_len⟩ rfl
  have W27 : FnOk l.prog w K mg base (CX1 l.prog w) 24 f27 _ ["shape", "text"] (spN _ 2 read_book) := fn_rule (m := 1) RU_ok (md_of (N := ["shape", "text", "lines"]) (G := ["check_text", "BETWEEN_LINES", "range", "len"]) (cel := ["shape", "lines"]) (own := ["return"]) (lam := none) kb nb zc g28) l27 c27 rfl rfl k_read_book
  have g29 : GsOk l.prog w K mg base _ _ 24 gs29 _ := GsOk.add (g28.mono (by decide)) ⟨f27, PySem.W.mg_of kb nb a27, _, _, 24, k27, b27, by decide, W27, fnW_len⟩ rfl
  have W28 : FnOk l.prog w K mg base (CX1 l.prog w) 25 f28 _ ["_law_script", "_law_k"] (spN _ 2 l_cell_at) := fn_rule (m := 0) RU_ok (md_of (N := ["_law_script", "_law_k"]) (G := ["len"]) (cel := []) (own := []) (lam := none) kb nb zc g29) l28 c28 rfl rfl k_l_cell_at
  have g30 : GsOk l.prog w K mg base _ _ 25 gs30 _ := GsOk.add (g29.mono (by decide)) ⟨f28, PySem.W.mg_of kb nb a28, _, _, 25, k28, b28, by decide, W28, fnW_len⟩ rfl
  have W29 : FnOk l.prog w K mg base (CX1 l.prog w) 26 f29 _ ["_law_cell"] (spN _ 1 l_begin) := fn_rule (m := 0) RU_ok (md_of (N := ["_law_cell"]) (G := []) (cel := []) (own := ["return"]) (lam := none) kb nb zc g30) l29 c29 rfl rfl k_l_begin
  have g31 : GsOk l.prog w K mg base _ _ 26 gs31 _ := GsOk.add (g30.mono (by decide)) ⟨f29, PySem.W.mg_of kb nb a29, _, _, 26, k29, b29, by decide, W29, fnW_len⟩ rfl
  have W30 : FnOk l.prog w K mg base (CX1 l.prog w) 27 f30 _ ["_law_state", "_law_base"] (spN _ 2 l_next) := fn_rule (m := 2) RU_ok (md_of (N := ["_law_state", "_law_base", "_law_found", "_law_number"]) (G := []) (cel := []) (own := []) (lam := none) kb nb zc g31) l30 c30 rfl rfl k_l_next
  have g32 : GsOk l.prog w K mg base _ _ 27 gs32 _ := GsOk.add (g31.mono (by decide)) ⟨f30, PySem.W.mg_of kb nb a30, _, _, 27, k30, b30, by decide, W30, fnW_len⟩ rfl
  have W31 : FnOk l.prog w K mg base (CX1 l.prog w) 28 f31 _ ["_law_state"] (spN _ 1 l_holder) := fn_rule (m := 5) RU_ok (md_of (N := ["_law_state", "_law_letters", "_law_way", "_law_some", "_law_word", "_law_at"]) (G := ["_law_next", "len", "range"]) (cel := ["_law_state", "_law_letters"]) (own := []) (lam := none) kb nb zc g32) l31 c31 rfl rfl k_l_holder
  have g33 : GsOk l.prog w K mg base _ _ 28 gs33 _ := GsOk.add (g32.mono (by decide)) ⟨f31, PySem.W.mg_of kb nb a31, _, _, 28, k31, b31, by decide, W31, fnW_len⟩ rfl
  have W32 : FnOk l.prog w K mg base (CX1 l.prog w) 29 f32 _ ["_law_state"] (spN _ 1 l_big) := fn_rule (m := 1) RU_ok (md_of (N := ["_law_state", "_law_far"]) (G := ["_law_next"]) (cel := []) (own := []) (lam := none) kb nb zc g33) l32 c32 rfl rfl k_l_big
  have g34 : GsOk l.prog w K mg base _ _ 29 gs34 _ := GsOk.add (g33.mono (by decide)) ⟨f32, PySem.W.mg_of kb nb a32, _, _, 29, k32, b32, by decide, W32, fnW_len⟩ rfl
  have W33 : FnOk l.prog w K mg base (CX1 l.prog w) 30 f33 _ ["_law_state"] (spN _ 1 l_shape) := fn_rule (m := 1) RU_ok (md_of (N := ["_law_state", "_law_sizes"]) (G := ["_law_big", "_law_next"]) (cel := []) (own := []) (lam := none) kb nb zc g34) l33 c33 rfl rfl k_l_shape
  have g35 : GsOk l.prog w K mg base _ _ 30 gs35 _ := GsOk.add (g34.mono (by decide)) ⟨f33, PySem.W.mg_of kb nb a33, _, _, 30, k33, b33, by decide, W33, fnW_len⟩ rfl
  have W34 : FnOk l.prog w K mg base (CX1 l.prog w) 31 f34 _ ["_law_state", "_law_sizes"] (spN _ 2 l_name) := fn_rule (m := 2) RU_ok (md_of (N := ["_law_state", "_law_sizes", "_law_many", "_law_way"]) (G := ["_law_next", "_law_big"]) (cel := []) (own := []) (lam := none) kb nb zc g35) l34 c34 rfl rfl k_l_name
  have g36 : GsOk l.prog w K mg base _ _ 31 gs36 _ := GsOk.add (g35.mono (by decide)) ⟨f34, PySem.W.mg_of kb nb a34, _, _, 31, k34, b34, by decide, W34, fnW_len⟩ rfl
  have W35 : FnOk l.prog w K mg base (CX1 l.prog w) 32 f35 _ ["_law_sizes"] (spN _ 1 l_width) := fn_rule (m := 2) RU_ok (md_of (N := ["_law_sizes", "_law_many", "_law_found"]) (G := []) (cel := []) (own := []) (lam := none) kb nb zc g36) l35 c35 rfl rfl k_l_width
  have g37 : GsOk l.prog w K mg base _ _ 32 gs37 _ := GsOk.add (g36.mono (by decide)) ⟨f35, PySem.W.mg_of kb nb a35, _, _, 32, k35, b35, by decide, W35, fnW_len⟩ rfl
  have W36 : FnOk l.prog w K mg base (CX1 l.prog w) 33 f36 _ ["_law_sizes", "_law_name_here"] (spN _ 2 l_text_2) := fn_rule (m := 3) RU_ok (md_of (N := ["_law_sizes", "_law_name_here", "_law_signs", "_law_text_here", "_law_place"]) (G := ["range", "_law_width"]) (cel := []) (own := []) (lam := none) kb nb zc g37) l36 c36 rfl rfl k_l_text_2
  have g38 : GsOk l.prog w K mg base _ _ 33 gs38 _ := GsOk.add (g37.mono (by decide)) ⟨f36, PySem.W.mg_of kb nb a36, _, _, 33, k36, b36, by decide, W36, fnW_len⟩ rfl
  have W37 : FnOk l.prog w K mg base (CX1 l.prog w) 34 f37 _ ["_law_shape_here", "_law_book"] (spN _ 2 l_refused_5) := fn_rule (m := 2) RU_ok (md_of (N := ["_law_shape_here", "_law_book", "_law_found", "e"]) (G := ["show_book", "HouseError", "isinstance", "NoName", "ValueError", "NoHolder", "NoText"]) (cel := []) (own := []) (lam := none) kb nb zc g38) l37 c37 rfl rfl k_l_refused_5
  have g39 : GsOk l.prog w K mg base _ _ 34 gs39 _ := GsOk.add (g38.mono (by decide)) ⟨f37, PySem.W.mg_of kb nb a37, _, _, 34, k37, b37, by decide, W37, fnW_len⟩ rfl
  have W38 : FnOk l.prog w K mg base (CX1 l.prog w) 35 fa _ ["_law_script"] (spN _ 1 law_k83) := fn_rule (m := 11) RU_ok (md_of (N := ["_law_script", "_law_sizes", "_law_shape_here", "_law_many", "_law_book", "_law_cell", "_law_state", "_law_text_here", "_law_handed", "_law_turn", "_law_found", "_law_at"]) (G := ["_law_shape", "_law_begin", "_law_cell_at", "Shape", "_law_holder", "_law_name", "list", "show_book", "range", "read_book", "isinstance", "len", "_law_refused"]) (cel := ["_law_sizes"]) (own := ["_law_book"]) (lam := none) kb nb zc g39) l38 c38 rfl rfl k_law_k83
  exact law_of (f := law_k83) zl tells W38
end NH.K83
end
section
open PySem PySem.W PyProof.Rows
set_option maxRecDepth 100000 in
set_option maxHeartbeats 0 in
theorem PySem.Challenge.cw_namehouses_k83_books_as_texts_holds : PySem.Challenge.rw_namehouses_k83_books_as_texts.Holds := by
  w_on; o_law; k_head; (case hw => w_witness2)
  k_fill
  refine NH.walk (l := PySem.Challenge.rw_namehouses_k83_books_as_texts) (k := 35) (x := "_law_script") (by decide) rfl rfl (fun w h Y => PySem.W.kIn_of Y) ?F
  case F =>
    intro w mg fa h KX G hmg
    refine' NH.K83.all_mk KX G hmg ?ze0 ?ze1 ?ze2 ?ze3 ?ze4 ?zxa0 ?zxb0 ?zxc0 ?zxd0 ?zxe0 ?zxf0 ?zxg0 ?zxh0 ?zha0 ?zha1 ?zha2 ?zl0 ?zc0 ?zk0 ?za1 ?zl1 ?zc1 ?zk1 ?za2 ?zl2 ?zc2 ?zk2 ?za3 ?zl3 ?zc3 ?zk3 ?zq4 ?zi4 ?zj4 ?zl4 ?zc4 ?zk4 ?zmk4 ?zkk4 ?za5 ?zl5 ?zc5 ?zk5 ?za6 ?zl6 ?zc6 ?zk6 ?za7 ?zl7 ?zc7 ?zk7 ?zv8 ?zv9 ?za10 ?zl10 ?zc10 ?zk10 ?za11 ?zl11 ?zc11 ?zk11 ?za12 ?zl12 ?zc12 ?zk12 ?zv13 ?zv14 ?za15 ?zl15 ?zc15 ?zk15 ?za16 ?zl16 ?zc16 ?zk16 ?za17 ?zl17 ?zc17 ?zk17 ?za18 ?zl18 ?zc18 ?zk18 ?za19 ?zl19 ?zc19 ?zk19 ?za20 ?zl20 ?zc20 ?zk20 ?za21 ?zl21 ?zc21 ?zk21 ?zv22 ?zv23 ?za24 ?zl24 ?zc24 ?zk24 ?za25 ?zl25 ?zc25 ?zk25 ?za26 ?zl26 ?zc26 ?zk26 ?za27 ?zl27 ?zc27 ?zk27 ?za28 ?zl28 ?zc28 ?zk28 ?za29 ?zl29 ?zc29 ?zk29 ?za30 ?zl30 ?zc30 ?zk30 ?za31 ?zl31 ?zc31 ?zk31 ?za32 ?zl32 ?zc32 ?zk32 ?za33 ?zl33 ?zc33 ?zk33 ?za34 ?zl34 ?zc34 ?zk34 ?za35 ?zl35 ?zc35 ?zk35 ?za36 ?zl36 ?zc36 ?zk36 ?za37 ?zl37 ?zc37 ?zk37 ?za38 ?zl38 ?zc38 ?zk38 ?zx0 ?zx1 ?zx2 ?zx4 ?zzl ?zzc ?zzg
    (case ze0 => k_is)
    (case ze1 => k_is)
    (case ze2 => k_is)
    (case ze3 => k_is)
    (case ze4 => k_is)
    (case zxa0 => k_is)
    (case zxb0 => kernel_rfl)
    (case zxc0 => k_is)
    (case zxd0 => k_is)
    (case zxe0 => k_is)
    (case zxf0 => k_is)
    (case zxg0 => k_is)
    (case zxh0 => k_is)
    (case zha0 => k_is)
    (case zha1 => k_is)
    (case zha2 => k_is)
    (case zl0 => k_is)
    (case zc0 => k_is)
    (case zk0 => k_is)
    (case za1 => k_is)
    (case zl1 => k_is)
    (case zc1 => k_is)
    (case zk1 => k_is)
    (case za2 => k_is)
    (case zl2 => k_is)
    (case zc2 => k_is)
    (case zk2 => k_is)
    (case za3 => k_is)
    (case zl3 => k_is)
    (case zc3 => k_is)
    (case zk3 => k_is)
    (case zq4 => k_is)
    (case zi4 => k_is)
    (case zj4 => k_is)
    (case zl4 => k_is)
    (case zc4 => k_is)
    (case zk4 => k_is)
    (case zmk4 => k_is)
    (case zkk4 => k_is)
    (case za5 => k_is)
    (case zl5 => k_is)
    (case zc5 => k_is)
    (case zk5 => k_is)
    (case za6 => k_is)
    (case zl6 => k_is)
    (case zc6 => k_is)
    (case zk6 => k_is)
    (case za7 => k_is)
    (case zl7 => k_is)
    (case zc7 => k_is)
    (case zk7 => k_is)
    (case zv8 => k_is)
    (case zv9 => k_is)
    (case za10 => k_is)
    (case zl10 => k_is)
    (case zc10 => k_is)
    (case zk10 => k_is)
    (case za11 => k_is)
    (case zl11 => k_is)
    (case zc11 => k_is)
    (case zk11 => k_is)
    (case za12 => k_is)
    (case zl12 => k_is)
    (case zc12 => k_is)
    (case zk12 => k_is)
    (case zv13 => k_is)
    (case zv14 => k_is)
    (case za15 => k_is)
    (case zl15 => k_is)
    (case zc15 => k_is)
    (case zk15 => k_is)
    (case za16 => k_is)
    (case zl16 => k_is)
    (case zc16 => k_is)
    (case zk16 => k_is)
    (case za17 => k_is)
    (case zl17 => k_is)
    (case zc17 => k_is)
    (case zk17 => k_is)
    (case za18 => k_is)
    (case zl18 => k_is)
    (case zc18 => k_is)
    (case zk18 => k_is)
    (case za19 => k_is)
    (case zl19 => k_is)
    (case zc19 => k_is)
    (case zk19 => k_is)
    (case za20 => k_is)
    (case zl20 => k_is)
    (case zc20 => k_is)
    (case zk20 => k_is)
    (case za21 => k_is)
    (case zl21 => k_is)
    (case zc21 => k_is)
    (case zk21 => k_is)
    (case zv22 => k_is)
    (case zv23 => k_is)
    (case za24 => k_is)
    (case zl24 => k_is)
    (case zc24 => k_is)
    (case zk24 => k_is)
    (case za25 => k_is)
    (case zl25 => k_is)
    (case zc25 => k_is)
    (case zk25 => k_is)
    (case za26 => k_is)
    (case zl26 => k_is)
    (case zc26 => k_is)
    (case zk26 => k_is)
    (case za27 => k_is)
    (case zl27 => k_is)
    (case zc27 => k_is)
    (case zk27 => k_is)
    (case za28 => k_is)
    (case zl28 => k_is)
    (case zc28 => k_is)
    (case zk28 => k_is)
    (case za29 => k_is)
    (case zl29 => k_is)
    (case zc29 => k_is)
    (case zk29 => k_is)
    (case za30 => k_is)
    (case zl30 => k_is)
    (case zc30 => k_is)
    (case zk30 => k_is)
    (case za31 => k_is)
    (case zl31 => k_is)
    (case zc31 => k_is)
    (case zk31 => k_is)
    (case za32 => k_is)
    (case zl32 => k_is)
    (case zc32 => k_is)
    (case zk32 => k_is)
    (case za33 => k_is)
    (case zl33 => k_is)
    (case zc33 => k_is)
    (case zk33 => k_is)
    (case za34 => k_is)
    (case zl34 => k_is)
    (case zc34 => k_is)
    (case zk34 => k_is)
    (case za35 => k_is)
    (case zl35 => k_is)
    (case zc35 => k_is)
    (case zk35 => k_is)
    (case za36 => k_is)
    (case zl36 => k_is)
    (case zc36 => k_is)
    (case zk36 => k_is)
    (case za37 => k_is)
    (case zl37 => k_is)
    (case zc37 => k_is)
    (case zk37 => k_is)
    (case za38 => k_is)
    (case zl38 => k_is)
    (case zc38 => k_is)
    (case zk38 => k_is)
    (case zx0 => k_exc)
    (case zx1 => k_exc)
    (case zx2 => k_exc)
    (case zx4 => k_exc)
    (case zzl => exact rfl)
    (case zzc => exact rfl)
    (case zzg => exact rfl)
end
