import PyProof.Rows.All
import Wide.All
import OpenK.AllK
import Wide.FinOn
import Lean
import PyProof.EqAt
import PyProof.EqKinds
import PyProof.TupleCall
import PyProof.StationsW
import PySem.Syntax
import KE.KLam
import PyProof.StrBlockH
import KE.KRevIter
import PyProof.JoinWalk
import PyProof.CollectIter
import PyProof.StrCalls
import PyProof.DictStraight
import PyProof.Rows.Range3
import PyProof.StrWalks
import PyProof.LongRange
import KE.KTryMore
import KE.KItem
import PyProof.NsDelKeeps
import PyProof.DictTable
import PyProof.WalkInts
import PyProof.Rows.SortStr
import PyProof.Rows.SortWalk
import PyProof.EnumMake
import PyProof.EnumFor
import KE.KRevSl
import PyProof.Rows.StrNews
import KE.KMinBuiltin
import KE.KSortKey
import PyProof.ZipIter
import PyProof.ExcInit
import PyProof.ExcClass2
import PyProof.InstStoreFacts
import PyProof.FString
import KE.LcSums
import PyProof.AttrMissHeap
import PyProof.Rows.SetFrom
import KE.KDictOf
import KE.KIntText
import PyProof.StrBlock2
import KE.BitLaws
import PyProof.Rows.StrFit
import PyProof.StrLawsTight
import PyProof.Rows.StrSplitAre
import KE.IntTextLaws
import PyProof.Rows.StrClose5
import PySem.Challenge.RW_namehouses_k81_rows_as_texts
set_option Elab.async false
set_option linter.all false
set_option maxRecDepth 100000
set_option maxHeartbeats 4000000
set_option bootstrap.genMatcherCode false
noncomputable section
namespace PySem.W.Fast
theorem tw6510737609995139074:True:=⟨⟩
theorem tw15135142950578897641:True:=⟨⟩
theorem tw12340788358017911463:True:=⟨⟩
theorem tw9857393696181956020:True:=⟨⟩
theorem tw15047370989484737648:True:=⟨⟩
theorem tw15223902164117777744:True:=⟨⟩
theorem tw2294899946545719441:True:=⟨⟩
theorem tw6108231771937424483:True:=⟨⟩
theorem tw9676312107643994270:True:=⟨⟩
theorem tw9097706657008665141:True:=⟨⟩
theorem tw654763428767891536:True:=⟨⟩
theorem tw5887317404183233255:True:=⟨⟩
theorem tw12309203117750530613:True:=⟨⟩
theorem tw1633204259820405379:True:=⟨⟩
theorem tw8134177672527015851:True:=⟨⟩
theorem tw6659391150332622893:True:=⟨⟩
theorem tw10469424562084302348:True:=⟨⟩
theorem tw9200603677452892236:True:=⟨⟩
theorem tw4794348973552739566:True:=⟨⟩
theorem tw10708035067866322541:True:=⟨⟩
theorem tw17111354460636425611:True:=⟨⟩
theorem tw15281849461568276562:True:=⟨⟩
theorem tw10954601532770233033:True:=⟨⟩
theorem tw6136097549387401742:True:=⟨⟩
theorem tw9870355981467304832:True:=⟨⟩
theorem tw2557725044328728745:True:=⟨⟩
theorem tw15662706259879404273:True:=⟨⟩
theorem tw5720175587956224741:True:=⟨⟩
theorem tw11414257963457148105:True:=⟨⟩
theorem tw17896380166566199566:True:=⟨⟩
theorem tw7378285400532277356:True:=⟨⟩
theorem tw3548200541556516398:True:=⟨⟩
theorem tw4757601882457314225:True:=⟨⟩
theorem tw4547775631620672855:True:=⟨⟩
theorem tw17055198938655498123:True:=⟨⟩
theorem tw12273516964131731615:True:=⟨⟩
theorem tw7775986116315051327:True:=⟨⟩
theorem tw158138390977571702:True:=⟨⟩
theorem tw2093139042284689121:True:=⟨⟩
theorem tw12315650109682381495:True:=⟨⟩
theorem tw8650208339190208627:True:=⟨⟩
theorem tw4769232039114175405:True:=⟨⟩
theorem tw781407465471154799:True:=⟨⟩
theorem tw13411288922949447150:True:=⟨⟩
theorem tw10914083184960689086:True:=⟨⟩
theorem tw15449431336266061821:True:=⟨⟩
theorem tw1187269852256919174:True:=⟨⟩
theorem tw5563204765553080385:True:=⟨⟩
theorem tw9531384101333890084:True:=⟨⟩
theorem tw1445838538709465070:True:=⟨⟩
theorem tw16412609005526408699:True:=⟨⟩
theorem tw18014424308255275721:True:=⟨⟩
theorem tw12754692872965337:True:=⟨⟩
theorem tw10782252414751098393:True:=⟨⟩
theorem tw12522684928289417346:True:=⟨⟩
theorem tw4366277044271658303:True:=⟨⟩
theorem tw1809051119957224257:True:=⟨⟩
theorem tw3825264265660619087:True:=⟨⟩
theorem tw13035133685046822489:True:=⟨⟩
theorem tw16485054312991936246:True:=⟨⟩
theorem tw13381092853852401642:True:=⟨⟩
theorem tw7085254354630170654:True:=⟨⟩
theorem tw1414372653789652097:True:=⟨⟩
theorem tw14805629009507072658:True:=⟨⟩
theorem tw17181395223689217839:True:=⟨⟩
theorem tw3166835607554715380:True:=⟨⟩
theorem tw3467273694568461430:True:=⟨⟩
theorem tw7580791429414182285:True:=⟨⟩
theorem tw15807904999277524348:True:=⟨⟩
theorem tw6966222094730398497:True:=⟨⟩
theorem tw7419292566710404566:True:=⟨⟩
theorem tw17165052268162865223:True:=⟨⟩
theorem tw5621008281313998832:True:=⟨⟩
theorem tw1004109259446447189:True:=⟨⟩
theorem tw11477011498687595706:True:=⟨⟩
theorem tw2623480146207428197:True:=⟨⟩
theorem tw142697793916522051:True:=⟨⟩
theorem tw14355161210188578037:True:=⟨⟩
theorem tw13565968389468768527:True:=⟨⟩
theorem tw12862960209056476874:True:=⟨⟩
theorem tw7069163886875151434:True:=⟨⟩
theorem tw16138614602425122901:True:=⟨⟩
theorem tw9968687465965675569:True:=⟨⟩
theorem tw6242010308275216107:True:=⟨⟩
theorem tw17458173103847490139:True:=⟨⟩
theorem tw1012092515898316996:True:=⟨⟩
theorem tw896116670362518788:True:=⟨⟩
theorem tw4179360302411131624:True:=⟨⟩
theorem tw7611194487946288738:True:=⟨⟩
theorem tw17407806500600402027:True:=⟨⟩
theorem tw4983760481176434479:True:=⟨⟩
theorem tw2537327557111945697:True:=⟨⟩
theorem tw8309870201933457569:True:=⟨⟩
theorem tw3510859987886433117:True:=⟨⟩
theorem tw2016996000395905521:True:=⟨⟩
theorem tw11255356403853173056:True:=⟨⟩
theorem tw6796012606083443154:True:=⟨⟩
theorem tw3640404309814069010:True:=⟨⟩
theorem tw16408018923150117925:True:=⟨⟩
theorem tw2119284177731499802:True:=⟨⟩
theorem tw149481464545788391:True:=⟨⟩
theorem tw7608700518957563194:True:=⟨⟩
theorem tw9798440073528859723:True:=⟨⟩
theorem tw3339102412070494330:True:=⟨⟩
theorem tw6595696928802289028:True:=⟨⟩
theorem tw10299770021151793207:True:=⟨⟩
theorem tw17589637570699247884:True:=⟨⟩
theorem tw17975973546165821373:True:=⟨⟩
theorem tw17582265749358787205:True:=⟨⟩
theorem tw12629267068733647938:True:=⟨⟩
theorem tw11415775673643709339:True:=⟨⟩
theorem tw12122910751577405103:True:=⟨⟩
theorem tw3799123657200032258:True:=⟨⟩
theorem tw4159114488424148196:True:=⟨⟩
theorem tw5048411397734520042:True:=⟨⟩
theorem tw7741505366667303800:True:=⟨⟩
theorem tw5611540985682520722:True:=⟨⟩
theorem tw3000429704457072795:True:=⟨⟩
theorem tw3030177992255670495:True:=⟨⟩
theorem tw1786212157578716087:True:=⟨⟩
theorem tw12303308007097618883:True:=⟨⟩
theorem tw4806818397690690995:True:=⟨⟩
theorem tw9808740595653209975:True:=⟨⟩
theorem tw8709669821372716528:True:=⟨⟩
theorem tw1867217452495068858:True:=⟨⟩
theorem tw1427341599556332232:True:=⟨⟩
end PySem.W.Fast
section
set_option Elab.async false
namespace L2
open PySem PySem.Spec PyProof.Rows
noncomputable abbrev Key:=Sum Int Str
noncomputable def x3:Key->Value->Bool
 |.inl k,v=>Value.isInt k v
 |.inr x,v=>Value.isStrOf x v
noncomputable def z18 (w:World):Key->Int
 |.inl k=>hashInt k
 |.inr x=>hashStr w x
theorem zy:∀{k:Key} {v:Value},x3 k v=true->(∃i t,k=Sum.inl i/\v=Value.int i t)\/(∃x t,k=Sum.inr x/\v=Value.str x t)
 |.inl i,v,h=>by
  obtain⟨t,e⟩:=Value.isInt_shape (k:=i) (v:=v) h
  exact .inl ⟨i,t,rfl,e⟩
 |.inr x,v,h=>by
  obtain⟨t,e⟩:=Value.isStrOf_shape (x:=x) (v:=v) h
  exact .inr ⟨x,t,rfl,e⟩
theorem Qt(i:Int)(t:Tok):x3 (.inl i) (.int i t)=true:=by simp[x3,Value.isInt]
theorem xk(x:Str)(t:Tok):x3 (.inr x) (.str x t)=true:=by simp[x3,Value.isStrOf]
theorem XU(a b:Int):decide ((Sum.inl a:Key)=Sum.inl b)=(a == b):=by
 by_cases e:a=b
 ·subst e;simp
 ·have h:¬(Sum.inl a:Key)=Sum.inl b:=λq=>e (Sum.inl.inj q)
  rw[decide_eq_false h]
  exact (beq_eq_false_iff_ne.mpr e).symm
theorem Xn(a b:Str):decide ((Sum.inr a:Key)=Sum.inr b)=decide (a=b):=by
 by_cases e:a=b
 ·subst e;simp
 ·have h:¬(Sum.inr a:Key)=Sum.inr b:=λq=>e (Sum.inr.inj q)
  rw[decide_eq_false h,decide_eq_false e]
theorem YC(a:Int)(b:Str):decide ((Sum.inl a:Key)=Sum.inr b)=false:=decide_eq_false (λq=>nomatch q)
theorem Ua(a:Str)(b:Int):decide ((Sum.inr a:Key)=Sum.inl b)=false:=decide_eq_false (λq=>nomatch q)
noncomputable def zk(prog:Program)(w:World):PySem.KeyKind prog w Key where
 is:=x3
 hash:=z18 w
 inj:=λv a b ha hb=>by
  rcases zy ha with⟨i,t,rfl,rfl⟩|⟨x,t,rfl,rfl⟩
  ·rcases zy hb with⟨j,u,rfl,e⟩|⟨y,u,rfl,e⟩
   ·injection e with e1 _;rw[e1]
   ·exact nomatch e
  ·rcases zy hb with⟨j,u,rfl,e⟩|⟨y,u,rfl,e⟩
   ·exact nomatch e
   ·injection e with e1 _;rw[e1]
 byValue:=λk v h=>by
  rcases zy h with⟨i,t,rfl,rfl⟩|⟨x,t,rfl,rfl⟩<;>rfl
 pyHash:=λhv h=>by
  rcases zy hv with⟨i,t,rfl,rfl⟩|⟨x,t,rfl,rfl⟩
  ·exact wpAny_pyHash_int h
  ·exact wpAny_pyHash_str h
 eqBool:=λhu hv h=>by
  rcases zy hu with⟨i,t,rfl,rfl⟩|⟨x,t,rfl,rfl⟩
  ·rcases zy hv with⟨j,u,rfl,rfl⟩|⟨y,u,rfl,rfl⟩
   ·rw[XU] at h;exact wpAny_eqBool_int h
   ·rw[YC] at h;exact SeqAt.EqAt.int_str i t y u _ _ _ _ h
  ·rcases zy hv with⟨j,u,rfl,rfl⟩|⟨y,u,rfl,rfl⟩
   ·rw[Ua] at h;exact SeqAt.EqAt.str_int x t j u _ _ _ _ h
   ·rw[Xn] at h;exact wpAny_eqBool_str h
 «strs»:=λk x t v h=>by
  rcases zy h with⟨i,u,rfl,e⟩|⟨y,u,rfl,e⟩
  ·exact nomatch e
  ·injection e with e1 _
   subst e1
   cases v<;>rfl
theorem j1(prog:Program)(w:World)(i:Int)(t:Tok):(zk prog w).is (.inl i) (.int i t)=true:=Qt i t
theorem vX(prog:Program)(w:World)(x:Str)(t:Tok):(zk prog w).is (.inr x) (.str x t)=true:=xk x t
end L2
namespace L2
open PySem PySem.Spec PyProof.Rows
inductive V where
 |non|bl (b:Bool)|int (i:Int)|str (x:Str)|byt (b:Array UInt8)|flt (b:UInt64)|ref (a:Addr)|ty (n:String)
 deriving DecidableEq
noncomputable def RelV:V->Value->Prop
 |.non,u=>u=Value.none
 |.bl b,u=>u=Value.bool b
 |.int i,u=>∃t,u=Value.int i t
 |.str x,u=>∃t,u=Value.str x t
 |.byt b,u=>∃t,u=Value.bytes b t
 |.flt b,u=>∃t,u=Value.float b t
 |.ref a,u=>u=Value.ref a
 |.ty n,u=>u=Value.type n
abbrev Vals:List V->List Value->Prop:=Paired RelV
theorem Vals.length{xs:List V}{us:List Value}(r:Vals xs us):xs.length=us.length:=Paired.length r
theorem Vals.get:∀{xs:List V} {us:List Value} {i:Nat} {x:V},Vals xs us->xs[i]?=some x->∃u,us[i]?=some u/\RelV x u
 |_,_,_,_,.nil,e=>by simp at e
 |_,_,0,_,.cons r _,e=>by simp at e;subst e;exact⟨_,rfl,r⟩
 |_,_,i+1,x,.cons _ t,e=>by
  obtain⟨u,h1,h2⟩:=Vals.get (i:=i) (x:=x) t (by simpa using e)
  exact⟨u,by simpa using h1,h2⟩
theorem Vals.set{x:V}{u:Value}(r:RelV x u):∀{xs:List V} {us:List Value} (i:Nat),Vals xs us->Vals (xs.set i x) (us.set i u)
 |_,_,_,.nil=>.nil
 |_,_,0,.cons _ t=>.cons r t
 |_,_,i+1,.cons q t=>.cons q (Vals.set r i t)
theorem Vals.append:∀{xs ys:List V} {us ws:List Value},Vals xs us->Vals ys ws->Vals (xs++ys) (us++ws)
 |_,_,_,_,.nil,s=>s
 |_,_,_,_,.cons r t,s=>.cons r (Vals.append t s)
theorem Vals.take:∀{xs:List V} {us:List Value} (n:Nat),Vals xs us->Vals (xs.take n) (us.take n)
 |_,_,0,_=>.nil
 |_,_,_+1,.nil=>.nil
 |_,_,n+1,.cons r t=>.cons r (Vals.take n t)
theorem Vals.drop:∀{xs:List V} {us:List Value} (n:Nat),Vals xs us->Vals (xs.drop n) (us.drop n)
 |_,_,0,r=>r
 |_,_,_+1,.nil=>.nil
 |_,_,n+1,.cons _ t=>Vals.drop n t
noncomputable def RelO:Option V->Option Value->Prop
 |some v,some u=>RelV v u
 |none,none=>True
 |_,_=>False
noncomputable def KV {κ:Type}:List (κ×V)->List (κ×Value)->Prop:=Paired λ(p:κ×V) (q:κ×Value)=>p.1=q.1/\RelV p.2 q.2
noncomputable def kV:Key->V
 |.inl i=>.int i
 |.inr x=>.str x
inductive HO where
 |lst (xs:List V)
 |tup (xs:List V)
 |dK (kvs:List (Key×V))|dT (kvs:List (List Key×V))
 |set (S:Int->Bool) (n:Nat)
 |ins (C dx:Addr) (fs:List (Str×V))
 |own (x:Addr)
 |xd (fs:List (Str×V))
 |met (f x:Addr)
 |rng (lo hi:Int)
 |frz (o:Obj) (u:HO)
 |tbl (ps:Array Value)
 |ext (φ:Heap->Prop)
noncomputable abbrev Hp:=Addr->Option HO
noncomputable def upd (H:Hp)(a:Addr)(o:HO):Hp:=λb=>if b=a then some o else H b
theorem z8{H:Hp}{a:Addr}{o:HO}:upd H a o a=some o:=by unfold upd;rw[if_pos rfl]
theorem z7{H:Hp}{a b:Addr}{o:HO}(h:b≠a):upd H a o b=H b:=by unfold upd;rw[if_neg h]
theorem Zu{H:Hp}{a:Addr}{o u:HO}:upd (upd H a o) a u=upd H a u:=by
 funext b;unfold upd;split<;>rfl
theorem zA{H:Hp}{a b:Addr}{o:HO}(h:H a=some o)(h':H b=none):a≠b:=by
 intro e;subst e;rw[h] at h';cases h'
section
variable (P:Program)(w:World)
noncomputable def ObjOk(H:Hp)(h:Heap)(a:Addr):HO->Prop
 |.lst xs=>xs.length<=sizeLine/\∃(its:List Value) (n:Nat),Vals xs its/\h.get? a=some {cls:=.type "list",data:=.seq its.toArray n}
 |.tup xs=>xs.length<=sizeLine/\∃its:List Value,Vals xs its/\IsTup h a its.toArray
 |.dK kvs=>kvs.length<=sizeLine/\(a == sysModules)=false/\∃vs,KV kvs vs/\h.DictOf (zk P w) a vs
 |.dT kvs=>kvs.length<=sizeLine/\(a == sysModules)=false/\∃xs:List (List Key×Addr×Value),
   Paired (λ(p:List Key×V) (q:List Key×Addr×Value)=>p.1=q.1/\H q.2.1=some (.tup (p.1.map kV))/\RelV p.2 q.2.2) kvs xs/\
   ∃o es ep,h.get? a=some o/\o.ExactDict/\o.data=.dict es ep/\es.toList=xs.map (entryOfKey (tupleKind (zk P w)))/\(xs.map (·.1)).Nodup
 |.set S n=>h.SetOf (intKind P w) a S n
 |.ins C dx fs=>H dx=some (.own a)/\fs.length<=1000/\dx≠a/\h.get? a=some (PySem.W.instObj C dx)/\
   ∃mA,h.Ns1 dx mA/\(∀f,RelO (fs.lookup f) (mA f))/\PySem.Within mA (fs.map (·.1))
 |.own _=>∃o,h.get? a=some o
 |.xd fs=>∃mA,h.Ns1 a mA/\∀f,RelO (fs.lookup f) (mA f)
 |.rng lo hi=>∃t u v,h.get? a=some {cls:=.type "range",data:=.fields #[.int lo t,.int hi u,.int 1 v]}
 |.frz o u=>h.get? a=some o/\ObjOk H h a u
 |.tbl ps=>h.get? a=some {cls:=.none,data:=.fields ps}
 |.met f x=>h.get? a=some (PySem.W.methodObj (.ref f) (.ref x))
 |.ext φ=>φ h/\(∃o,h.get? a=some o)/\∀h1 h2:Heap,φ h1->(∀o,h1.get? a=some o->h2.get? a=some o)->φ h2
noncomputable def HOk (H:Hp)(h:Heap):Prop:=∀a o,H a=some o->ObjOk P w H h a o
end
section
variable {P:Program}{w:World}{H H':Hp}{h h':Heap}{a:Addr}{o:HO}
theorem ObjOk.lt(x:ObjOk P w H h a o):a<h.objs.size:=by
 cases o with
 |lst xs=>obtain⟨_,_,_,_,e⟩:=x;exact Heap.lt_size e
 |tup xs=>obtain⟨_,_,_,p⟩:=x;exact p.lt
 |dK kvs=>obtain⟨_,_,_,_,o,_,_,e,_⟩:=x;exact Heap.lt_size e
 |dT kvs=>obtain⟨_,_,_,_,o,_,_,e,_⟩:=x;exact Heap.lt_size e
 |set S n=>obtain⟨o,_,_,_,e,_⟩:=x;exact Heap.lt_size e
 |ins C dx fs=>obtain⟨_,_,_,e,_⟩:=x;exact Heap.lt_size e
 |own y=>obtain⟨_,e⟩:=x;exact Heap.lt_size e
 |xd fs=>obtain⟨_,⟨_,_,_,e,_⟩,_⟩:=x;exact Heap.lt_size e
 |rng lo hi=>obtain⟨_,_,_,e⟩:=x;exact Heap.lt_size e
 |frz ob u=>obtain⟨e,_⟩:=x;exact Heap.lt_size e
 |tbl ps=>exact Heap.lt_size (show h.get? a=some _ from x)
 |met f y=>exact Heap.lt_size (show h.get? a=some _ from x)
 |ext φ=>obtain⟨_,⟨_,e⟩,_⟩:=x;exact Heap.lt_size e
theorem Paired.mapP{α β:Type}{F G:α->β->Prop}:∀{l₁:List α} {l₂:List β},Paired F l₁ l₂->(∀a b,F a b->G a b)->Paired G l₁ l₂
 |_,_,.nil,_=>.nil
 |_,_,.cons r t,f=>.cons (f _ _ r) (Paired.mapP t f)
theorem ObjOk.stay(x:ObjOk P w H h a o)(k:∀b u,(b=a\/H b=some (.own a))->h.get? b=some u->h'.get? b=some u)
  (ho:∀b,H b=some (.own a)->H' b=some (.own a)) (ht:∀b xs,H b=some (.tup xs)->H' b=some (.tup xs)):ObjOk P w H' h' a o:=by
 induction o with
 |lst xs=>obtain⟨z,its,n,r,e⟩:=x;exact⟨z,its,n,r,k _ _ (.inl rfl) e⟩
 |tup xs=>obtain⟨z,its,r,ob,e,c⟩:=x;exact⟨z,its,r,ob,k _ _ (.inl rfl) e,c⟩
 |dK kvs=>obtain⟨z,y,vs,r,ob,es,ep,e,c⟩:=x;exact⟨z,y,vs,r,ob,es,ep,k _ _ (.inl rfl) e,c⟩
 |dT kvs=>
  obtain⟨z,y,xs,r,ob,es,ep,e,c⟩:=x
  exact⟨z,y,xs,Paired.mapP r λp q z=>⟨z.1,ht _ _ z.2.1,z.2.2⟩,ob,es,ep,k _ _ (.inl rfl) e,c⟩
 |set S n=>obtain⟨ob,es,ep,t,e,c⟩:=x;exact⟨ob,es,ep,t,k _ _ (.inl rfl) e,c⟩
 |ins C dx fs=>
  obtain⟨d,z,ne,e,mA,⟨od,es,ep,e2,c⟩,r⟩:=x
  exact⟨ho _ d,z,ne,k _ _ (.inl rfl) e,mA,⟨od,es,ep,k _ _ (.inr d) e2,c⟩,r⟩
 |own y=>obtain⟨ob,e⟩:=x;exact⟨ob,k _ _ (.inl rfl) e⟩
 |xd fs=>obtain⟨mA,⟨od,es,ep,e,c⟩,r⟩:=x;exact⟨mA,⟨od,es,ep,k _ _ (.inl rfl) e,c⟩,r⟩
 |rng lo hi=>obtain⟨t,u,v,e⟩:=x;exact⟨t,u,v,k _ _ (.inl rfl) e⟩
 |frz ob u ih=>obtain⟨e,q⟩:=x;exact⟨k _ _ (.inl rfl) e,ih q⟩
 |tbl ps=>
  have e:h.get? a=some {cls:=.none,data:=.fields ps}:=x
  show h'.get? a=some {cls:=.none,data:=.fields ps}
  exact k a _ (.inl rfl) e
 |met f y=>
  have e:h.get? a=some (PySem.W.methodObj (.ref f) (.ref y)):=x
  show h'.get? a=some (PySem.W.methodObj (.ref f) (.ref y))
  exact k a _ (.inl rfl) e
 |ext φ=>obtain⟨p,⟨o,e⟩,st⟩:=x;exact⟨st _ _ p λo q=>k _ _ (.inl rfl) q,⟨o,k _ _ (.inl rfl) e⟩,st⟩
theorem HOk.lt(x:HOk P w H h)(e:H a=some o):a<h.objs.size:=(x a o e).lt
theorem HOk.fresh(x:HOk P w H h)(e:h.objs.size<=a):H a=none:=by
 cases q:H a with
 |none=>rfl
 |some u=>exact absurd (Nat.lt_of_lt_of_le (x.lt q) e) (Nat.lt_irrefl _)
theorem HOk.kept(x:HOk P w H h)(k:∀b u,h.get? b=some u->h'.get? b=some u):HOk P w H h':=λa o e=>
 (x a o e).stay (λb u _ q=>k b u q) (λ_ q=>q) λ_ _ q=>q
theorem HOk.laid(x:HOk P w H h)(k:∀b u,h.get? b=some u->h'.get? b=some u)(hp:h.objs.size<=a)(new:ObjOk P w (upd H a o) h' a o):HOk P w (upd H a o) h':=λb u e=>by
 have hn:=x.fresh hp
 by_cases hb:b=a
 ·subst hb;rw[z8] at e;cases e;exact new
 ·rw[z7 hb] at e
  exact (x b u e).stay (λc v _ q=>k c v q) (λc q=>by rw[z7 (zA q hn)];exact q) λc xs q=>by rw[z7 (zA q hn)];exact q
end
noncomputable def Rd (H:Hp)(a:Addr)(u:HO):Prop:=H a=some u\/∃o,H a=some (.frz o u)
theorem Rd.ok{P:Program}{w:World}{H:Hp}{h:Heap}{a:Addr}{u:HO}(r:Rd H a u)(x:HOk P w H h):ObjOk P w H h a u:=by
 rcases r with r|⟨o,r⟩
 ·exact x a u r
 ·obtain⟨_,q⟩:=x a _ r
  exact q
noncomputable def Mut:Option HO->Prop
 |some (.lst _)=>True
 |some (.dK _)=>True
 |some (.dT _)=>True
 |some (.set _ _)=>True
 |some (.ins _ _ _)=>True
 |some (.ext _)=>True
 |_=>False
section
variable {P:Program}{w:World}{H:Hp}{h h':Heap}{x e:Addr}{o':HO}
theorem HOk.write(ok:HOk P w H h)(mu:Mut (H x))(he:e=x\/H e=some (.own x))(k:∀b u,b≠e->h.get? b=some u->h'.get? b=some u)(heo:∃u,h'.get? e=some u)
  (new:ObjOk P w (upd H x o') h' x o'):HOk P w (upd H x o') h':=λb u q=>by
 have nown:∀c y,H c=some (.own y)->c≠x:=λc y r z=>by subst z;rw[r] at mu;exact mu
 have ntup:∀c xs,H c=some (.tup xs)->c≠x:=λc xs r z=>by subst z;rw[r] at mu;exact mu
 by_cases hb:b=x
 ·subst hb;rw[z8] at q;cases q;exact new
 ·rw[z7 hb] at q
  by_cases hbe:b=e
  ·have q':H b=some (.own x):=by
    rcases he with z|z
    ·exact absurd (hbe.trans z) hb
    ·rw[hbe];exact z
   rw[q] at q';cases q'
   obtain⟨v,hv⟩:=heo
   exact⟨v,by rw[hbe];exact hv⟩
  ·refine (ok b u q).stay (λc v hc r=>k c v ?_ r) (λc r=>by rw[z7 (nown c b r)];exact r) λc xs r=>by rw[z7 (ntup c xs r)];exact r
   rcases hc with rfl|hc
   ·exact hbe
   ·rintro rfl
    rcases he with z|z
    ·exact nown c b hc z
    ·rw[hc] at z;cases z;exact hb rfl
end
structure Un(fs ex:List Addr)(H H':Hp)(h h':Heap):Prop where
 keep:∀b o,h.get? b=some o->H b=none->b∉fs->b∉ex->h'.get? b=some o
 slot:∀b o,h.get? b=some o->H b=none->b∈fs->b∉ex->∃sl,h'.get? b=some {o with slots:=sl}
 free:∀b o,h.get? b=some o->H b=none->b∉ex->H' b=none
 there:∀b o,h.get? b=some o->b∉ex->∃o',h'.get? b=some o'
 tups:∀b xs,H b=some (.tup xs)->H' b=some (.tup xs)
 frzs:∀b o u,H b=some (.frz o u)->H' b=some (.frz o u)
 tbls:∀b ps,H b=some (.tbl ps)->∃more,H' b=some (.tbl (ps++more))
section
variable {fs fs' ex ex':List Addr}{H H1 H2:Hp}{h h1 h2 h':Heap}{a x e:Addr}{o:HO}
theorem Un.any(u:Un fs ex H H1 h h1){b:Addr}{ob:Obj}(q:h.get? b=some ob)(n:H b=none)(hx:b∉ex):∃sl,h1.get? b=some {ob with slots:=sl}:=by
 by_cases hb:b∈fs
 ·exact u.slot b ob q n hb hx
 ·exact⟨ob.slots,u.keep b ob q n hb hx⟩
theorem Un.kept(k:∀b u,h.get? b=some u->h'.get? b=some u):Un fs ex H H h h':=
 ⟨λb ob q _ _ _=>k b ob q,λb ob q _ _ _=>⟨ob.slots,k b ob q⟩,λ_ _ _ n _=>n,λb ob q _=>⟨ob,k b ob q⟩,λ_ _ q=>q,λ_ _ _ q=>q,λ_ ps q=>⟨#[],by rw[q];simp⟩⟩
theorem Un.refl:Un fs ex H H h h:=Un.kept λ_ _ q=>q
theorem Un.laid(k:∀b u,h.get? b=some u->h'.get? b=some u)(hp:h.objs.size<=a)(hn:H a=none):Un fs ex H (upd H a o) h h' where
 keep:=λb u q _ _ _=>k b u q
 slot:=λb u q _ _ _=>⟨u.slots,k b u q⟩
 free:=λb u q n _=>by rw[z7 (Nat.ne_of_lt (Nat.lt_of_lt_of_le (Heap.lt_size q) hp))];exact n
 there:=λb u q _=>⟨u,k b u q⟩
 tups:=λb xs q=>by rw[z7 (zA q hn)];exact q
 frzs:=λb u xs q=>by rw[z7 (zA q hn)];exact q
 tbls:=λb ps q=>⟨#[],by rw[z7 (zA q hn),q];simp⟩
theorem Un.write(mu:Mut (H x))(he:e=x\/H e=some (.own x))(k:∀b u,b≠e->h.get? b=some u->h'.get? b=some u)(heo:∃u,h'.get? e=some u):Un fs ex H (upd H x o) h h':=by
 have hx:∀b,H b=none->b≠x:=λb n z=>by subst z;rw[n] at mu;exact mu
 have hb:∀b,H b=none->b≠e:=λb n z=>by
  subst z
  rcases he with r|r
  ·exact hx b n r
  ·rw[n] at r;cases r
 have hm:∀b u,H b=some u->¬Mut (some u)->b≠x:=λb u q nm z=>by subst z;rw[q] at mu;exact nm mu
 refine⟨λb u q n _ _=>k b u (hb b n) q,λb u q n _ _=>⟨u.slots,k b u (hb b n) q⟩,λb u q n _=>by rw[z7 (hx b n)];exact n,λb u q _=>?_,
  λb xs q=>by rw[z7 (hm b _ q λz=>z)];exact q,λb u xs q=>by rw[z7 (hm b _ q λz=>z)];exact q,λb ps q=>⟨#[],by rw[z7 (hm b _ q λz=>z),q];simp⟩⟩
 by_cases hbe:b=e
 ·subst hbe;exact heo
 ·exact⟨u,k b u hbe q⟩
end
noncomputable def trk (h:Heap)(H:Hp):List Addr:=(List.range h.objs.size).filter λa=>(H a).isSome
noncomputable def xE (h:Heap)(H:Hp):Heap:=PySem.W.hideAll h (trk h H)
theorem ZW(h:Heap)(H:Hp):(xE h H).objs.size=h.objs.size:=PySem.W.hideAll_size _ _
theorem WZ{h:Heap}{H:Hp}{b:Addr}{o:Obj}(e:h.get? b=some o)(n:H b=none):(xE h H).get? b=some o:=
 PySem.W.hideAll_get _ e λhm=>by
  have q:(H b).isSome=true:=(List.mem_filter.mp hm).2
  rw[n] at q;simp at q
theorem JR{h:Heap}{H:Hp}{b:Addr}{o:Obj}(e:(xE h H).get? b=some o):h.get? b=some o/\H b=none:=by
 have e':h.get? b=some o:=PySem.W.of_hideAll (trk h H) e
 refine⟨e',?_⟩
 cases q:H b with
 |none=>rfl
 |some x=>
  have hm:b∈trk h H:=List.mem_filter.mpr ⟨List.mem_range.mpr (Heap.lt_size e'),by simp[q]⟩
  have z:(xE h H).get? b=none:=PySem.W.hideAll_none (trk h H) hm
  rw[z] at e;cases e
noncomputable def VZ(g h:Heap)(L:Addr):List (Addr×Obj):=(List.range h.objs.size).filterMap λa=>if a=L\/(g.get? a).isSome=true then none else (h.get? a).map λo=>(a,o)
noncomputable def rest (g h:Heap)(L d:Addr):List (Addr×Obj):=(VZ g h L).filter λp=>decide (p.1≠d)
end L2
namespace L2
open PySem PySem.Spec PyProof.Rows
structure Mod(K:PySem.W.Frag)(mg:Str->Option Value)(base:Heap):Prop where
 kin:K.In base
 glob:base.Ns mainGlobals mg
 blt:∃mb,base.Ns builtinsNs mb/\∀x:Str,x≠"__name__"->mb x=bootBuiltins x
 nolimit:base.NoLimit
structure Cx where
 prog:Program
 w:World
 K:PySem.W.Frag
 mg:Str->Option Value
 base:Heap
 A:Around
 N:List Str
 s₀:Shared
 H₀:Hp
 env:Env
 outer:List Env
 stack:List Env
 ex:List Addr
 fn:Str->Bool
 calm:Bool
 pn:List (Addr×Obj)
 xe:Value->Shared->Prop
noncomputable def frs(l:List Env):List Addr:=l.filterMap (·.frame)
noncomputable abbrev Cx.fs(X:Cx):List Addr:=frs X.outer
noncomputable def Vis(sc:Scope)(x:Str):Prop:=sc.names.lookup x=some .local\/sc.names.lookup x=some .cell\/sc.names.lookup x=some .free
noncomputable def Loc(sc:Scope)(x:Str):Prop:=sc.names.lookup x=some .local\/sc.names.lookup x=some .cell
noncomputable def Look(env:Env)(h:Heap)(m:Str->Option Value)(x:Str)(u:Value):Prop:=
 (env.kindOf x=some .local/\m x=some u)\/((env.kindOf x=some .cell\/env.kindOf x=some .free)/\∃c,env.cells.lookup x=some c/\h.IsCell c (some u))
structure Cx.Ok(X:Cx):Prop where
 mod:Mod X.K X.mg X.base
 kind:X.env.scope.kind=.function
 glob:X.env.globals=mainGlobals
 blt:X.env.builtins=builtinsNs
 above:X.s₀.heap.objs.size<=X.env.locals
 inj:∀x y c,X.env.cells.lookup x=some c->X.env.cells.lookup y=some c->x=y
 has:∀x,(X.env.kindOf x=some .cell\/X.env.kindOf x=some .free)->∃c,X.env.cells.lookup x=some c
 cab:∀x c,X.fn x=true->X.env.cells.lookup x=some c->X.s₀.heap.objs.size<=c
 hd:X.calm=true->X.A.handled=none
 frames:X.A.frames=some X.stack
 stk:X.stack=X.outer\/(X.stack=X.env::X.outer/\X.env.frame=some X.env.locals)
 exf:∀b∈X.ex,b≠X.env.locals/\∀x c,X.env.cells.lookup x=some c->c≠b
 bs:∀b o,X.base.get? b=some o->X.s₀.heap.get? b=some o/\X.H₀ b=none
 bsz:X.base.objs.size<=X.s₀.heap.objs.size
 noex:∀b o,X.base.get? b=some o->b∉X.ex
 exfs:∀b∈X.ex,b∉X.fs
 funs:X.s₀.heap.FunFrames X.base X.outer
 frf:∀b∈X.fs,X.H₀ b=none
structure Inv(X:Cx)(pins:List (Addr×Obj))(σ:List (Option V))(H:Hp)(s:Shared):Prop where
 ok:X.Ok
 os:s.os=X.s₀.os
 bare:AllBare s.gens
 base:Un X.fs X.ex X.H₀ H X.s₀.heap s.heap
 loc:∃m,s.heap.Ns X.env.locals m/\∀(i:Nat) (x:Str) (v:V),X.N[i]?=some x->σ[i]?=some (some v)->Vis X.env.scope x->∃u,RelV v u/\Look X.env s.heap m x u
 cell:∀x c,X.env.cells.lookup x=some c->∃v,s.heap.IsCell c v
 free:H X.env.locals=none
 freeC:∀x c,X.env.cells.lookup x=some c->H c=none\/(X.fn x=false/\∃o u,H c=some (.frz o u))
 pin:∀p∈X.pn++pins,s.heap.get? p.1=some p.2/\H p.1=none/\p.1≠X.env.locals/\p.1∉X.fs/\∀v,p.2.data≠.cell v
 hok:HOk X.prog X.w H s.heap
 len:σ.length=X.N.length
section
variable {X:Cx}{pins:List (Addr×Obj)}{σ:List (Option V)}{H H':Hp}{s:Shared}{h':Heap}
theorem Cx.Ok.nofr(ok:X.Ok){b:Addr}{o:Obj}(e:X.base.get? b=some o):b∉X.fs:=λhb=>by
 have:=(ok.funs.mem hb).1
 rw[e] at this;cases this
theorem Inv.bs(I:Inv X pins σ H s):∀b o,X.base.get? b=some o->s.heap.get? b=some o/\H b=none:=λb o e=>
 ⟨I.base.keep b o (I.ok.bs b o e).1 (I.ok.bs b o e).2 (I.ok.nofr e) (I.ok.noex b o e),I.base.free b o (I.ok.bs b o e).1 (I.ok.bs b o e).2 (I.ok.noex b o e)⟩
theorem Inv.bk(I:Inv X pins σ H s):∀b o,X.base.get? b=some o->s.heap.get? b=some o:=λb o e=>(I.bs b o e).1
theorem Inv.mod(I:Inv X pins σ H s):Mod X.K X.mg X.base:=I.ok.mod
theorem Inv.kIn(I:Inv X pins σ H s):X.K.In s.heap:=I.ok.mod.kin.keeps I.bk
theorem Inv.lt(I:Inv X pins σ H s):X.env.locals<s.heap.objs.size:=let ⟨_,hn,_⟩:=I.loc;hn.lt
theorem Inv.sz(I:Inv X pins σ H s):X.s₀.heap.objs.size<=s.heap.objs.size:=Nat.le_trans I.ok.above (Nat.le_of_lt I.lt)
theorem Inv.nofs(I:Inv X pins σ H s){a:Addr}(h:s.heap.objs.size<=a):a∉X.fs:=λhb=>by
 obtain⟨_,o,ho,_⟩:=I.ok.funs.mem hb
 exact absurd (Nat.lt_of_lt_of_le (Heap.lt_size ho) (Nat.le_trans I.sz h)) (Nat.lt_irrefl _)
theorem Inv.cne(I:Inv X pins σ H s):∀x c,X.env.cells.lookup x=some c->c≠X.env.locals:=λx c e z=>by
 obtain⟨v,o,ho,hd⟩:=I.cell x c e
 obtain⟨m,⟨o',es,ep,ho',hd',_⟩,_⟩:=I.loc
 rw[z,ho'] at ho;cases ho;rw[hd'] at hd;cases hd
theorem Inv.funs(I:Inv X pins σ H s):s.heap.FunFrames X.base X.outer:=by
 have all:∀(l:List Env),(∀b∈frs l,b∈X.fs)->X.s₀.heap.FunFrames X.base l->s.heap.FunFrames X.base l:=by
  intro l
  induction l with
  |nil=>intro _ _;trivial
  |cons env r ih=>
   intro hs hl
   obtain⟨hk,⟨L,o,hf,hn,ho,hd⟩,hr⟩:=hl
   have hL:L∈X.fs:=hs L (by unfold frs;rw[List.filterMap_cons,hf];exact List.mem_cons_self)
   obtain⟨sl,e⟩:=I.base.slot L o ho (I.ok.frf L hL) hL λz=>I.ok.exfs L z hL
   exact⟨hk,⟨L,_,hf,hn,e,hd⟩,ih (λb hb=>hs b (by unfold frs;rw[List.filterMap_cons,hf];exact List.mem_cons_of_mem _ hb)) hr⟩
 exact all X.outer (λ_ hb=>hb) I.ok.funs
theorem Inv.stack(I:Inv X pins σ H s):s.heap.FunFrames X.base X.stack:=by
 rcases I.ok.stk with e|⟨e,hf⟩
 ·rw[e];exact I.funs
 ·rw[e]
  obtain⟨m,hn,_⟩:=I.loc
  refine .cons (by rw[I.ok.kind];decide) hf hn ?_ I.funs
  exact Heap.get?_none_of_le (Nat.le_trans I.ok.bsz I.ok.above)
theorem Inv.stkSub(I:Inv X pins σ H s):∀b∈frs X.stack,b∈X.env.locals::X.fs:=λb hb=>by
 rcases I.ok.stk with e|⟨e,hf⟩
 ·rw[e] at hb;exact List.mem_cons_of_mem _ hb
 ·rw[e] at hb
  unfold frs at hb
  rw[List.filterMap_cons,hf] at hb
  exact hb
theorem Inv.stkFree(I:Inv X pins σ H s):∀b∈frs X.stack,H b=none:=λb hb=>by
 rcases List.mem_cons.mp (I.stkSub b hb) with e|hb
 ·rw[e];exact I.free
 ·obtain⟨_,o,ho,_⟩:=I.ok.funs.mem hb
  exact I.base.free b o ho (I.ok.frf b hb) λz=>I.ok.exfs b z hb
theorem Inv.step{g':Array GenState}{t':Nat}{d':Drawn}{ch:List Addr}(I:Inv X pins σ H s)
  (hch:∀b∈ch,(b∈X.ex\/X.s₀.heap.objs.size<=b)/\b≠X.env.locals/\(∀x c,X.env.cells.lookup x=some c->c≠b)/\∀p∈X.pn++pins,p.1≠b)
  (keep:∀b o,b≠X.env.locals->b∉X.fs->b∉ch->s.heap.get? b=some o->H b=none->h'.get? b=some o)
  (slot:∀b o,b≠X.env.locals->b∈X.fs->b∉ch->s.heap.get? b=some o->H b=none->∃sl,h'.get? b=some {o with slots:=sl}) (free:∀b o,b∉ch->s.heap.get? b=some o->H b=none->H' b=none)
  (there:∀b o,b∉ch->s.heap.get? b=some o->∃o',h'.get? b=some o')
  (tups:∀b xs,H b=some (.tup xs)->H' b=some (.tup xs)) (frzs:∀b o u,H b=some (.frz o u)->H' b=some (.frz o u)) (tbls:∀b ps,H b=some (.tbl ps)->∃more,H' b=some (.tbl (ps++more)))
  (ns:∀m,s.heap.Ns X.env.locals m->h'.Ns X.env.locals m) (hok:HOk X.prog X.w H' h') (hg:AllBare g') :
  Inv X pins σ H' {s with heap:=h',gens:=g',drawn:=d',toks:=t'}:=by
 have neL:∀b o,X.s₀.heap.get? b=some o->b≠X.env.locals:=λb o e=>Nat.ne_of_lt (Nat.lt_of_lt_of_le (Heap.lt_size e) I.ok.above)
 have neC:∀b o,X.s₀.heap.get? b=some o->b∉X.ex->b∉ch:=λb o e hx hb=>by
  rcases (hch b hb).1 with z|z
  ·exact hx z
  ·exact absurd (Nat.lt_of_lt_of_le (Heap.lt_size e) z) (Nat.lt_irrefl _)
 have cellK:∀x c,X.env.cells.lookup x=some c->∀v,s.heap.IsCell c v->h'.IsCell c v:=λx c e v ⟨o,ho,hd⟩=>by
  have nch:c∉ch:=λz=>(hch c z).2.2.1 x c e rfl
  rcases I.freeC x c e with f|⟨_,ob,u,f⟩
  ·by_cases hc:c∈X.fs
   ·obtain⟨sl,q⟩:=slot c o (I.cne x c e) hc nch ho f
    exact⟨_,q,hd⟩
   ·exact⟨o,keep c o (I.cne x c e) hc nch ho f,hd⟩
  ·have h1:=(I.hok c _ f).1
   rw[ho] at h1;cases h1
   exact⟨o,(hok c _ (frzs c _ u f)).1,hd⟩
 refine⟨I.ok,I.os,hg,⟨λb o e n hb hx=>?_,λb o e n hb hx=>?_,λb o e n hx=>?_,λb o e hx=>?_,λb xs e=>tups b xs (I.base.tups b xs e),λb o xs e=>frzs b o xs (I.base.frzs b o xs e),λb ps e=>?_⟩,?_,λx c e=>?_,?_,λx c e=>?_,λp hp=>?_,hok,I.len⟩
 ·exact keep b o (neL b o e) hb (neC b o e hx) (I.base.keep b o e n hb hx) (I.base.free b o e n hx)
 ·obtain⟨sl,e1⟩:=I.base.slot b o e n hb hx
  obtain⟨sl',e2⟩:=slot b _ (neL b o e) hb (neC b o e hx) e1 (I.base.free b o e n hx)
  exact⟨sl',e2⟩
 ·obtain⟨o',e1⟩:=I.base.there b o e hx
  exact free b o' (neC b o e hx) e1 (I.base.free b o e n hx)
 ·obtain⟨o',e1⟩:=I.base.there b o e hx
  exact there b o' (neC b o e hx) e1
 ·obtain⟨m1,e1⟩:=I.base.tbls b ps e
  obtain⟨m2,e2⟩:=tbls b _ e1
  exact⟨m1++m2,by rw[e2,Array.append_assoc]⟩
 ·obtain⟨m,hn,hl⟩:=I.loc
  refine⟨m,ns m hn,λi x v e1 e2 e3=>?_⟩
  obtain⟨u,r,l⟩:=hl i x v e1 e2 e3
  refine⟨u,r,?_⟩
  rcases l with l|⟨k,c,e,z⟩
  ·exact .inl l
  ·exact .inr ⟨k,c,e,cellK x c e _ z⟩
 ·obtain⟨v,z⟩:=I.cell x c e
  exact⟨v,cellK x c e v z⟩
 ·obtain⟨m,⟨o,_,_,ho,_⟩,_⟩:=I.loc
  exact free _ o (λz=>(hch _ z).2.1 rfl) ho I.free
 ·obtain⟨v,o,ho,hd⟩:=I.cell x c e
  exact (I.freeC x c e).imp (free c o (λz=>(hch c z).2.2.1 x c e rfl) ho) λ⟨n,ob,u,f⟩=>⟨n,ob,u,frzs c ob u f⟩
 ·obtain⟨e,n,ne,nf,d⟩:=I.pin p hp
  have nch:p.1∉ch:=λz=>(hch p.1 z).2.2.2 p hp rfl
  exact⟨keep p.1 p.2 ne nf nch e n,free p.1 p.2 nch e n,ne,nf,d⟩
theorem Inv.un{t':Nat}(I:Inv X pins σ H s)(u:Un X.fs [] H H' s.heap h')(hok:HOk X.prog X.w H' h'):Inv X pins σ H' {s with heap:=h',toks:=t'}:=by
 obtain⟨m,⟨o,es,ep,ho,r⟩,_⟩:=id I.loc
 obtain⟨sl,hL⟩:=u.any ho I.free (by simp)
 exact I.step (g':=s.gens) (d':=s.drawn) (ch:=[]) (λ_ z=>nomatch z) (λb o _ hb _ e n=>u.keep b o e n hb (by simp)) (λb o _ hb _ e n=>u.slot b o e n hb (by simp)) (λb o _ e n=>u.free b o e n (by simp)) (λb o _ e=>u.there b o e (by simp)) u.tups u.frzs u.tbls (λm' hm=>by
  obtain⟨o',es',ep',ho',r'⟩:=hm
  rw[ho] at ho';cases ho'
  exact⟨_,es',ep',hL,r'⟩) hok I.bare
theorem Inv.call{g':Array GenState}{t':Nat}{d':Drawn}{ch:List Addr}(I:Inv X pins σ H s)(u:Un (frs X.stack) ch H H' s.heap h')(hok:HOk X.prog X.w H' h')(hg:AllBare g')
  (hch:∀b∈ch,(b∈X.ex\/X.s₀.heap.objs.size<=b)/\b≠X.env.locals/\(∀x c,X.env.cells.lookup x=some c->c≠b)/\∀p∈X.pn++pins,p.1≠b) :
  Inv X pins σ H' {s with heap:=h',gens:=g',drawn:=d',toks:=t'}:=by
 obtain⟨m,⟨o,es,ep,ho,r⟩,_⟩:=id I.loc
 obtain⟨sl,hL⟩:=u.any ho I.free λz=>(hch _ z).2.1 rfl
 exact I.step (ch:=ch) hch (λb o hL hb hc e n=>u.keep b o e n (λz=>(List.mem_cons.mp (I.stkSub b z)).elim hL hb) hc) (λb o _ _ hc e n=>u.any e n hc) (λb o hc e n=>u.free b o e n hc) (λb o hc e=>u.there b o e hc) u.tups u.frzs u.tbls (λm' hm=>by
  obtain⟨o',es',ep',ho',r'⟩:=hm
  rw[ho] at ho';cases ho'
  exact⟨_,es',ep',hL,r'⟩) hok hg
theorem Inv.turned{t':Nat}{it:Addr}(I:Inv X pins σ H s)(k:∀b o,b≠it->s.heap.get? b=some o->h'.get? b=some o)(hn:H it=none)(hL:it≠X.env.locals)
  (h1:it∈X.ex\/X.s₀.heap.objs.size<=it) (h2:∀x c,X.env.cells.lookup x=some c->c≠it) (h3:∀p∈X.pn++pins,p.1≠it):Inv X pins σ H {s with heap:=h',toks:=t'}:=by
 have nit:∀b u,H b=some u->b≠it:=λb u e z=>by rw[z,hn] at e;cases e
 refine I.step (g':=s.gens) (d':=s.drawn) (ch:=[it]) (λb hb=>?_) (λb o _ _ hc e _=>k b o (λz=>hc (by simp[z])) e) (λb o _ _ hc e _=>⟨o.slots,k b o (λz=>hc (by simp[z])) e⟩) (λ_ _ _ _ n=>n)
  (λb o hc e=>⟨o,k b o (λz=>hc (by simp[z])) e⟩) (λ_ _ e=>e) (λ_ _ _ e=>e) (λb ps e=>⟨#[],by rw[e];simp⟩) (λm hm=>?_) (λb u e=>?_) I.bare
 ·have e:b=it:=by simpa using hb
  subst e
  exact⟨h1,hL,h2,h3⟩
 ·obtain⟨o,es,ep,ho,r⟩:=hm
  exact⟨o,es,ep,k _ o (Ne.symm hL) ho,r⟩
 ·refine (I.hok b u e).stay (λc v hc q=>k c v ?_ q) (λ_ q=>q) λ_ _ q=>q
  rcases hc with z|z
  ·rw[z];exact nit b u e
  ·exact nit c _ z
theorem Inv.tok(I:Inv X pins σ H s)(t:Nat):Inv X pins σ H {s with toks:=t}:=I.un (h':=s.heap) (t':=t) Un.refl I.hok
theorem Inv.kept{t':Nat}(I:Inv X pins σ H s)(k:∀b u,s.heap.get? b=some u->h'.get? b=some u):Inv X pins σ H {s with heap:=h',toks:=t'}:=I.un (Un.kept k) (I.hok.kept k)
theorem Inv.laid{a:Addr}{o:HO}{t':Nat}(I:Inv X pins σ H s)(k:∀b u,s.heap.get? b=some u->h'.get? b=some u)(hp:s.heap.objs.size<=a)(new:ObjOk X.prog X.w (upd H a o) h' a o) :
  Inv X pins σ (upd H a o) {s with heap:=h',toks:=t'}:=I.un (Un.laid k hp (I.hok.fresh hp)) (I.hok.laid k hp new)
theorem Inv.write{x e:Addr}{o:HO}{t':Nat}(I:Inv X pins σ H s)(mu:Mut (H x))(he:e=x\/H e=some (.own x))(k:∀b u,b≠e->s.heap.get? b=some u->h'.get? b=some u)(heo:∃u,h'.get? e=some u)
  (new:ObjOk X.prog X.w (upd H x o) h' x o):Inv X pins σ (upd H x o) {s with heap:=h',toks:=t'}:=I.un (Un.write mu he k heo) (I.hok.write mu he k heo new)
theorem Inv.pins_of{pins':List (Addr×Obj)}(I:Inv X pins σ H s)(h:∀p∈pins',s.heap.get? p.1=some p.2/\H p.1=none/\p.1≠X.env.locals/\p.1∉X.fs/\∀v,p.2.data≠.cell v):Inv X pins' σ H s:=
 ⟨I.ok,I.os,I.bare,I.base,I.loc,I.cell,I.free,I.freeC,λp hp=>(List.mem_append.mp hp).elim (λz=>I.pin p (List.mem_append_left _ z)) (h p),I.hok,I.len⟩
theorem vd{N:List Str}(hN:N.Nodup){i j:Nat}{x:Str}(a:N[i]?=some x)(b:N[j]?=some x):i=j:=by
 obtain⟨h1,e1⟩:=List.getElem?_eq_some_iff.mp a
 obtain⟨h2,e2⟩:=List.getElem?_eq_some_iff.mp b
 exact (List.getElem_inj hN).mp (e1.trans e2.symm)
theorem Q3{M:Model}{A:Around}{E:Value->Shared->Prop}{i:Nat}{x:Str}{v:V}{u:Value}{Q:Unit->Shared->Prop}(I:Inv X pins σ H s)(hN:X.N.Nodup)(hi:X.N[i]?=some x)(hx:Loc X.env.scope x)(r:RelV v u)
  (h:∀s',Inv X pins (σ.set i (some v)) H s'->(∃a,Heap.SameBut a s.heap s'.heap/\(a=X.env.locals\/X.env.cells.lookup x=some a))->Q () s') (hf:X.fn x=true\/X.env.scope.names.lookup x=some .local:=by first|exact .inl rfl|exact .inr rfl|assumption):wpAny M A (storeName X.env x u) Q E s:=by
 obtain⟨m,hn,hl⟩:=id I.loc
 have hcls:(X.env.scope.kind == .class || (X.env.scope.kind == .module&&X.env.locals != X.env.globals))=false:=by rw[I.ok.kind];rfl
 have hiσ:i<σ.length:=by rw[I.len];exact (List.getElem?_eq_some_iff.mp hi).1
 have cne:=I.cne
 have tracked:∀{a:Addr} {h':Heap},(∃o,s.heap.get? a=some o/\H a=none)->Heap.SameBut a s.heap h'->HOk X.prog X.w H h':=λ{a h'} ha hs b ob e=>by
  obtain⟨_,_,hfree⟩:=ha
  refine (I.hok b ob e).stay (λc w' hc q=>(hs.2 c ?_).trans q) (λ_ q=>q) λ_ _ q=>q
  rintro rfl
  rcases hc with rfl|hc
  ·rw[hfree] at e;cases e
  ·rw[hfree] at hc;cases hc
 rcases hx with hk|hk
 ·refine wpAny_storeName_local hk hn (λh' hn' hs=>?_) hcls
  obtain⟨oL,_,_,hoL,_⟩:=id hn
  refine h _ ⟨I.ok,I.os,I.bare,⟨λb o e n hb hx=>?_,λb o e n hb hx=>?_,I.base.free,λb o e hx=>?_,I.base.tups,I.base.frzs,I.base.tbls⟩,⟨_,hn',λj y v' e1 e2 e3=>?_⟩,λy c e=>?_,I.free,I.freeC,λp hp=>?_,tracked ⟨oL,hoL,I.free⟩ hs,by simpa using I.len⟩ ⟨_,hs,.inl rfl⟩
  ·exact (hs.2 b (Nat.ne_of_lt (Nat.lt_of_lt_of_le (Heap.lt_size e) I.ok.above))).trans (I.base.keep b o e n hb hx)
  ·obtain⟨sl,e1⟩:=I.base.slot b o e n hb hx
   exact⟨sl,(hs.2 b (Nat.ne_of_lt (Nat.lt_of_lt_of_le (Heap.lt_size e) I.ok.above))).trans e1⟩
  ·obtain⟨o',e1⟩:=I.base.there b o e hx
   exact⟨o',(hs.2 b (Nat.ne_of_lt (Nat.lt_of_lt_of_le (Heap.lt_size e) I.ok.above))).trans e1⟩
  ·by_cases hj:j=i
   ·subst hj
    rw[hi] at e1;cases e1
    rw[List.getElem?_set_self hiσ] at e2
    cases e2
    exact⟨u,r,.inl ⟨hk,by simp⟩⟩
   ·rw[List.getElem?_set_ne (Ne.symm hj)] at e2
    obtain⟨u',r',q⟩:=hl j y v' e1 e2 e3
    refine⟨u',r',?_⟩
    rcases q with⟨k,e⟩|⟨k,c,e,z⟩
    ·refine .inl ⟨k,?_⟩
     have:y≠x:=λe=>hj (vd hN e1 (e▸hi))
     simp[this,e]
    ·exact .inr ⟨k,c,e,z.sameBut hs (cne y c e)⟩
  ·obtain⟨w',z⟩:=I.cell y c e
   exact⟨w',z.sameBut hs (cne y c e)⟩
  ·obtain⟨e,n,ne,nf,d⟩:=I.pin p hp
   exact⟨(hs.2 p.1 ne).trans e,n,ne,nf,d⟩
 ·have hfn:X.fn x=true:=by
   rcases hf with z|z
   ·exact z
   ·rw[z] at hk;cases hk
  obtain⟨c,hc⟩:=I.ok.has x (.inl hk)
  obtain⟨w',z⟩:=I.cell x c hc
  refine wpAny_storeName_cell I.ok.kind hk hc z (λh' hc' hs=>?_)
  obtain⟨oc,hoc,hocd⟩:=id z
  refine h {s with heap:=h'} ⟨I.ok,I.os,I.bare,⟨λb o e n hb hx=>?_,λb o e n hb hx=>?_,I.base.free,λb o e hx=>?_,I.base.tups,I.base.frzs,I.base.tbls⟩,⟨m,hn.sameBut hs (Ne.symm (cne x c hc)),λj y v' e1 e2 e3=>?_⟩,λy c' e=>?_,I.free,I.freeC,λp hp=>?_,tracked ⟨oc,hoc,(I.freeC x c hc).resolve_right λz=>by rw[hfn] at z;cases z.1⟩ hs,by simpa using I.len⟩ ⟨c,hs,.inr hc⟩
  ·exact (hs.2 b (Nat.ne_of_lt (Nat.lt_of_lt_of_le (Heap.lt_size e) (I.ok.cab x c hfn hc)))).trans (I.base.keep b o e n hb hx)
  ·obtain⟨sl,e1⟩:=I.base.slot b o e n hb hx
   exact⟨sl,(hs.2 b (Nat.ne_of_lt (Nat.lt_of_lt_of_le (Heap.lt_size e) (I.ok.cab x c hfn hc)))).trans e1⟩
  ·obtain⟨o',e1⟩:=I.base.there b o e hx
   exact⟨o',(hs.2 b (Nat.ne_of_lt (Nat.lt_of_lt_of_le (Heap.lt_size e) (I.ok.cab x c hfn hc)))).trans e1⟩
  ·by_cases hj:j=i
   ·subst hj
    rw[hi] at e1;cases e1
    rw[List.getElem?_set_self hiσ] at e2
    cases e2
    exact⟨u,r,.inr ⟨.inl hk,c,hc,hc'⟩⟩
   ·rw[List.getElem?_set_ne (Ne.symm hj)] at e2
    obtain⟨u',r',q⟩:=hl j y v' e1 e2 e3
    refine⟨u',r',?_⟩
    rcases q with q|⟨k,c',e,z'⟩
    ·exact .inl q
    ·refine .inr ⟨k,c',e,z'.sameBut hs ?_⟩
     rintro rfl
     exact hj (vd hN e1 (I.ok.inj _ _ _ e hc▸hi))
  ·by_cases hcc:c'=c
   ·subst hcc;exact⟨_,hc'⟩
   ·obtain⟨w2,z2⟩:=I.cell y c' e
    exact⟨w2,z2.sameBut hs hcc⟩
  ·obtain⟨e,n,ne,nf,d⟩:=I.pin p hp
   refine⟨(hs.2 p.1 ?_).trans e,n,ne,nf,d⟩
   intro q
   rw[q,hoc] at e
   have q':oc=p.2:=Option.some.inj e
   exact d w' (by rw[←q'];exact hocd)
theorem js{M:Model}{A:Around}{E:Value->Shared->Prop}{i:Nat}{x:Str}{v:V}{u:Value}{Q:Unit->Shared->Prop}(I:Inv X pins σ H s)(hN:X.N.Nodup)(hi:X.N[i]?=some x)(hx:Loc X.env.scope x)(r:RelV v u)
  (h:∀s',Inv X pins (σ.set i (some v)) H s'->Q () s') (hf:X.fn x=true\/X.env.scope.names.lookup x=some .local:=by first|exact .inl rfl|exact .inr rfl|assumption):wpAny M A (storeName X.env x u) Q E s:=
 Q3 I hN hi hx r (λs' I' _=>h s' I') hf
theorem Inv.call'{s':Shared}{ch:List Addr}(I:Inv X pins σ H s)(ho:s'.os=s.os)(u:Un (frs X.stack) ch H H' s.heap s'.heap)(hok:HOk X.prog X.w H' s'.heap)(hg:AllBare s'.gens)
  (hch:∀b∈ch,(b∈X.ex\/X.s₀.heap.objs.size<=b)/\b≠X.env.locals/\(∀x c,X.env.cells.lookup x=some c->c≠b)/\∀p∈X.pn++pins,p.1≠b):Inv X pins σ H' s':=by
 obtain⟨h',g',d',t',o'⟩:=s'
 have e:o'=s.os:=ho
 subst e
 exact I.call (g':=g') (t':=t') (d':=d') u hok hg hch
end
noncomputable abbrev XK:=Value->Option Addr->Hp->Prop
noncomputable abbrev St:=List (Option V)
noncomputable abbrev VK:=V->Hp->Prop
noncomputable abbrev TE:=St->Hp->VK->Prop
noncomputable abbrev TT:=St->Hp->(Bool->Hp->Prop)->Prop
noncomputable abbrev TA:=St->Hp->(List V->Hp->Prop)->Prop
structure Ends where
 nx:St->Hp->Prop
 rt:VK
 bk:St->Hp->Prop:=λ_ _=>False
 ct:St->Hp->Prop:=λ_ _=>False
noncomputable abbrev TS:=Ends->St->Hp->Prop
inductive EP(X:Cx)(pins:List (Addr×Obj))(σ:St)(Q:VK)(u:Value)(s':Shared):Prop where
 |mk (v:V) (H':Hp) (i:Inv X pins σ H' s') (r:RelV v u) (q:Q v H')
inductive TP(X:Cx)(pins:List (Addr×Obj))(σ:St)(Q:Bool->Hp->Prop)(b:Bool)(s':Shared):Prop where
 |mk (H':Hp) (i:Inv X pins σ H' s') (q:Q b H')
inductive AP(X:Cx)(pins:List (Addr×Obj))(σ:St)(Q:List V->Hp->Prop)(us:List Value)(s':Shared):Prop where
 |mk (vs:List V) (H':Hp) (i:Inv X pins σ H' s') (r:Vals vs us) (q:Q vs H')
noncomputable def SP (X:Cx)(pins:List (Addr×Obj))(D:Ends)(f:Flow)(s':Shared):Prop:=
 match f with
 |.next=>∃σ' H',Inv X pins σ' H' s'/\D.nx σ' H'
 |.brk=>∃σ' H',Inv X pins σ' H' s'/\D.bk σ' H'
 |.cont=>∃σ' H',Inv X pins σ' H' s'/\D.ct σ' H'
 |.ret u=>∃v σ' H',Inv X pins σ' H' s'/\RelV v u/\D.rt v H'
noncomputable def PE (X:Cx)(e:Expr)(t:TE):Prop:=
 ∀(pins:List (Addr×Obj)) (s:Shared) (σ:St) (H:Hp) (Q:VK),Inv X pins σ H s->t σ H Q->wpAny (model X.prog X.w) X.A (eval e X.env) (EP X pins σ Q) X.xe s
noncomputable def PT (X:Cx)(e:Expr)(t:TT):Prop:=
 ∀(pins:List (Addr×Obj)) (s:Shared) (σ:St) (H:Hp) (Q:Bool->Hp->Prop),Inv X pins σ H s->t σ H Q->wpAny (model X.prog X.w) X.A (isTrue e X.env (eval e X.env)) (TP X pins σ Q) X.xe s
noncomputable def PW (X:Cx)(e:Expr)(t:TT):Prop:=
 ∀(whole:Sem Value) (pins:List (Addr×Obj)) (s:Shared) (σ:St) (H:Hp) (Q:Bool->Hp->Prop),Inv X pins σ H s->t σ H Q->wpAny (model X.prog X.w) X.A (isTrue e X.env whole) (TP X pins σ Q) X.xe s
theorem PW.pt{X:Cx}{e:Expr}{t:TT}(h:PW X e t):PT X e t:=h _
noncomputable def PA (X:Cx)(es:List Expr)(t:TA):Prop:=
 ∀(pos:Pos) (pins:List (Addr×Obj)) (s:Shared) (σ:St) (H:Hp) (Q:List V->Hp->Prop),Inv X pins σ H s->t σ H Q->wpAny (model X.prog X.w) X.A (spliced (backTo pos (starEach es X.env))) (AP X pins σ Q) X.xe s
noncomputable def PS (X:Cx)(st:Stmt)(t:TS):Prop:=
 ∀(pins:List (Addr×Obj)) (s:Shared) (σ:St) (H:Hp) (D:Ends),Inv X pins σ H s->t D σ H->wpAny (model X.prog X.w) X.A (exec st X.env) (SP X pins D) X.xe s
noncomputable def PSs (X:Cx)(st:List Stmt)(t:TS):Prop:=
 ∀(pins:List (Addr×Obj)) (s:Shared) (σ:St) (H:Hp) (D:Ends),Inv X pins σ H s->t D σ H->wpAny (model X.prog X.w) X.A (execs st X.env) (SP X pins D) X.xe s
theorem thn{α:Type}{t:Sem α}{Q Q':α->Shared->Prop}{M:Model}{A:Around}{E:Value->Shared->Prop}{s:Shared}(h:wpAny M A t Q E s)(hQ:∀a s,Q a s->Q' a s):wpAny M A t Q' E s:=wpAny_mono h hQ λ_ _ x=>x
end L2
namespace L2
open PySem PySem.Spec PyProof.Rows
section
variable {X:Cx}
noncomputable def z0R (i:Nat):TE:=λσ H Q=>∃v,σ[i]?=some (some v)/\Q v H
noncomputable def tC (v:V):TE:=λ_ H Q=>Q v H
theorem vz {i:Nat} {x:Str} {pos:Pos} (hN:X.N[i]?=some x) (hv:Vis X.env.scope x) (hd:(x == ("__debug__":Str))=false:=by decide) (hcd:(x == ("__classdict__":Str))=false:=by decide):PE X (.Name x pos) (z0R i):=by
 intro pins s σ H Q I h
 obtain⟨v,e,h⟩:=h
 obtain⟨m,hn,hl⟩:=I.loc
 obtain⟨u,r,l⟩:=hl i x v hN e hv
 have fin:EP X pins σ Q u s:=⟨v,H,I,r,h⟩
 rcases l with⟨hk,hm⟩|⟨hk,c,hc,hcell⟩
 ·exact wpAny_Name (wpAny_loadName_local I.ok.kind hk hn hm fin) hd
 ·rcases hk with hk|hk
  ·exact wpAny_Name (wpAny_loadName_cell I.ok.kind hk hc hcell fin) hd
  ·exact wpAny_Name (wpAny_loadName_free I.ok.kind hk hc hcell fin hcd) hd
theorem XB{i j pos}:PE X (.Constant (.int i) j pos) (tC (.int i)):=λ_ _ _ H _ I h=>wpAny_Constant_int ⟨.int i,H,I.tok _,⟨_,rfl⟩,h⟩
theorem UI{b j pos}:PE X (.Constant (.bool b) j pos) (tC (.bl b)):=λ_ _ _ H _ I h=>Constant_bool ⟨.bl b,H,I,rfl,h⟩
theorem YL{j pos}:PE X (.Constant .none j pos) (tC .non):=λ_ _ _ H _ I h=>Constant_none ⟨.non,H,I,rfl,h⟩
theorem xM{x j pos}:PE X (.Constant (.str x) j pos) (tC (.str x)):=λ_ _ _ H _ I h=>Calls.Constant_str ⟨.str x,H,I.tok _,⟨_,rfl⟩,h⟩
noncomputable def Gl(X:Cx)(x:Str):Prop:=X.env.kindOf x=some .globalImplicit
theorem qJ{E:Value->Shared->Prop}{pins:List (Addr×Obj)}{s:Shared}{σ:St}{H:Hp}{x:Str}{u:Value}{pos:Pos}{Q:Value->Shared->Prop}(I:Inv X pins σ H s)(hg:Gl X x)(hm:X.mg x=some u)(h:Q u s)
  (hd:(x == ("__debug__":Str))=false:=by decide):wpAny (model X.prog X.w) X.A (eval (.Name x pos) X.env) Q E s:=
 Calls.Name_function_global I.ok.kind hg (Calls.loadGlobal_global (by rw[I.ok.glob];exact I.mod.glob.keeps I.bk) hm h) hd
theorem wK{E:Value->Shared->Prop}{pins:List (Addr×Obj)}{s:Shared}{σ:St}{H:Hp}{x:Str}{u:Value}{pos:Pos}{Q:Value->Shared->Prop}(I:Inv X pins σ H s)(hg:Gl X x)(hm:X.mg x=none)(hv:bootBuiltins x=some u)(h:Q u s)
  (hn:x≠"__name__":=by decide) (hd:(x == ("__debug__":Str))=false:=by decide):wpAny (model X.prog X.w) X.A (eval (.Name x pos) X.env) Q E s:=by
 obtain⟨mb,h1,h2⟩:=I.mod.blt
 exact Calls.Name_function_global I.ok.kind hg (Calls.loadGlobal_builtin (by rw[I.ok.glob];exact I.mod.glob.keeps I.bk) hm (by rw[I.ok.blt];exact h1.keeps I.bk) ((h2 x hn).trans hv) h) hd
theorem Z6 {x:Str} {v:V} {u:Value} {pos:Pos} (hg:Gl X x) (hm:X.mg x=some u) (r:RelV v u) (hd:(x == ("__debug__":Str))=false:=by decide):PE X (.Name x pos) (tC v):=
 λ_ _ _ H _ I h=>qJ I hg hm ⟨v,H,I,r,h⟩ hd
theorem Ji {x:Str} {v:V} {u:Value} {pos:Pos} (hg:Gl X x) (hm:X.mg x=none) (hv:bootBuiltins x=some u) (r:RelV v u) (hn:x≠"__name__":=by decide) (hd:(x == ("__debug__":Str))=false:=by decide):PE X (.Name x pos) (tC v):=
 λ_ _ _ H _ I h=>wK I hg hm hv ⟨v,H,I,r,h⟩ hn hd
variable {a b:Expr}{ta tb:TE}{pos:Pos}
variable {tA tB':TT}{rest:List Expr}
noncomputable def yy (t u:TT):TT:=λσ H Q=>t σ H λc H1=>if c=true then u σ H1 Q else Q false H1
noncomputable def tOr (t u:TT):TT:=λσ H Q=>t σ H λc H1=>if c=true then Q true H1 else u σ H1 Q
noncomputable def wz (t:TT):TT:=λσ H Q=>t σ H λc H1=>Q (!c) H1
theorem JJ(ha:PT X a tA):PW X (.BoolOp .And [a] pos) tA:=by
 intro wh pins s σ H Q I h
 refine isTrue_and (thn (ha pins s σ H Q I h) λc s1 e=>?_)
 cases c with
 |true=>exact isTrue_and_nil e
 |false=>exact e
theorem XM(ha:PT X a tA):PW X (.BoolOp .Or [a] pos) tA:=by
 intro wh pins s σ H Q I h
 refine isTrue_or (thn (ha pins s σ H Q I h) λc s1 e=>?_)
 cases c with
 |false=>exact isTrue_or_nil e
 |true=>exact e
theorem YT(ha:PT X a tA)(hb:PW X (.BoolOp .And (b::rest) pos) tB'):PW X (.BoolOp .And (a::b::rest) pos) (yy tA tB'):=by
 intro wh pins s σ H Q I h
 refine isTrue_and (thn (ha pins s σ H _ I h) λc s1 ⟨H1,I1,q1⟩=>?_)
 cases c with
 |true=>exact hb wh pins s1 σ H1 Q I1 q1
 |false=>exact⟨H1,I1,q1⟩
theorem UP(ha:PT X a tA)(hb:PW X (.BoolOp .Or (b::rest) pos) tB'):PW X (.BoolOp .Or (a::b::rest) pos) (tOr tA tB'):=by
 intro wh pins s σ H Q I h
 refine isTrue_or (thn (ha pins s σ H _ I h) λc s1 ⟨H1,I1,q1⟩=>?_)
 cases c with
 |true=>exact⟨H1,I1,q1⟩
 |false=>exact hb wh pins s1 σ H1 Q I1 q1
theorem Ue(ha:PT X a tA):PT X (.UnaryOp .Not a pos) (wz tA):=by
 intro pins s σ H Q I h
 exact isTrue_not (thn (ha pins s σ H (λc H1=>Q (!c) H1) I h) λc s' ⟨H',i,q⟩=>⟨H',i,q⟩)
theorem Xe{op}{t:TE}(h:PE X a t):PE X (.BoolOp op [a] pos) t:=λpins s σ H Q I hw=>BoolOp_one (h pins s σ H Q I hw)
end
end L2
namespace L2
open PySem PySem.Spec PyProof.Rows
noncomputable def SqL (K:PySem.W.Frag)(H:Hp)(a:Addr)(xs:List V):Prop:=
 Rd H a (.lst xs)\/
  ∃(o:Obj) (its:Array Value) (n:Nat),K.lookup a=some o/\o.cls=.type "list"/\o.dict=none/\o.data=.seq its n/\its.size<=sizeLine/\Vals xs its.toList
noncomputable def SqT (K:PySem.W.Frag)(H:Hp)(a:Addr)(xs:List V):Prop:=
 Rd H a (.tup xs)\/
  ∃(o:Obj) (its:Array Value) (n:Nat),K.lookup a=some o/\o.cls=.type "tuple"/\o.data=.seq its n/\its.size<=sizeLine/\Vals xs its.toList
noncomputable def z0U:Value->Option V
 |.none=>some .non
 |.bool b=>some (.bl b)
 |.int i _=>some (.int i)
 |.str x _=>some (.str x)
 |.bytes b _=>some (.byt b)
 |.float b _=>some (.flt b)
 |.ref a=>some (.ref a)
 |.type n=>some (.ty n)
 |_=>none
theorem RelV.abs{x:V}{u:Value}(r:RelV x u):z0U u=some x:=by
 cases x with
 |non=>cases r;rfl
 |bl _=>cases r;rfl
 |int _=>obtain⟨t,rfl⟩:=r;rfl
 |str _=>obtain⟨t,rfl⟩:=r;rfl
 |byt _=>obtain⟨t,rfl⟩:=r;rfl
 |flt _=>obtain⟨t,rfl⟩:=r;rfl
 |ref _=>cases r;rfl
 |ty _=>cases r;rfl
theorem RelV.inj{x y:V}{u:Value}(r:RelV x u)(q:RelV y u):x=y:=Option.some.inj (r.abs.symm.trans q.abs)
theorem Vals.inj:∀{xs ys:List V} {us:List Value},Vals xs us->Vals ys us->xs=ys
 |_,_,_,.nil,.nil=>rfl
 |_,_,_,.cons r t,.cons r' t'=>by rw[r.inj r',Vals.inj t t']
section
variable {X:Cx}{pins:List (Addr×Obj)}{σ:St}{H:Hp}{s:Shared}{a:Addr}{xs ys:List V}
theorem Inv.list(I:Inv X pins σ H s)(h:SqL X.K H a xs):∃its:List Value,Vals xs its/\PlainL s.heap a its.toArray/\xs.length<=sizeLine:=by
 rcases h with h|⟨o,its,n,hk,hc,hd,hs,hz,r⟩
 ·obtain⟨z,its,n,r,e⟩:=h.ok I.hok
  exact⟨its,r,⟨_,n,e,rfl,rfl,rfl⟩,z⟩
 ·refine⟨its.toList,r,⟨o,n,I.kIn a o hk,hc,hd,by simpa using hs⟩,?_⟩
  have e:=r.length
  simp only[Array.length_toList] at e
  omega
theorem Inv.tuple(I:Inv X pins σ H s)(h:SqT X.K H a xs):∃its:List Value,Vals xs its/\IsTup s.heap a its.toArray/\xs.length<=sizeLine:=by
 rcases h with h|⟨o,its,n,hk,hc,hs,hz,r⟩
 ·obtain⟨z,its,r,p⟩:=h.ok I.hok
  exact⟨its,r,p,z⟩
 ·refine⟨its.toList,r,⟨o,I.kIn a o hk,hc,n,by simpa using hs⟩,?_⟩
  have e:=r.length
  simp only[Array.length_toList] at e
  omega
theorem Inv.list_inj(I:Inv X pins σ H s)(h:SqL X.K H a xs)(h':SqL X.K H a ys):xs=ys:=by
 obtain⟨its,r,⟨o,n,e,_,_,d⟩,_⟩:=I.list h
 obtain⟨its',r',⟨o',n',e',_,_,d'⟩,_⟩:=I.list h'
 rw[e] at e';cases e'
 rw[d] at d'
 injection d' with d1 _
 have:its=its':=by simpa using congrArg Array.toList d1
 subst this
 exact r.inj r'
theorem Inv.tuple_inj(I:Inv X pins σ H s)(h:SqT X.K H a xs)(h':SqT X.K H a ys):xs=ys:=by
 obtain⟨its,r,⟨o,e,_,n,d⟩,_⟩:=I.tuple h
 obtain⟨its',r',⟨o',e',_,n',d'⟩,_⟩:=I.tuple h'
 rw[e] at e';cases e'
 rw[d] at d'
 injection d' with d1 _
 have:its=its':=by simpa using congrArg Array.toList d1
 subst this
 exact r.inj r'
end
noncomputable abbrev Cx.wish(X:Cx)(E:Value->Shared->Prop):Cx:={X with xe:=E}
theorem Cx.Ok.wish{X:Cx}(ok:X.Ok)(E:Value->Shared->Prop):(X.wish E).Ok:=
 ⟨ok.mod,ok.kind,ok.glob,ok.blt,ok.above,ok.inj,ok.has,ok.cab,ok.hd,ok.frames,ok.stk,ok.exf,ok.bs,ok.bsz,ok.noex,ok.exfs,ok.funs,ok.frf⟩
theorem Cx.Ok.unwish{X:Cx}{E:Value->Shared->Prop}(ok:(X.wish E).Ok):X.Ok:=
 ⟨ok.mod,ok.kind,ok.glob,ok.blt,ok.above,ok.inj,ok.has,ok.cab,ok.hd,ok.frames,ok.stk,ok.exf,ok.bs,ok.bsz,ok.noex,ok.exfs,ok.funs,ok.frf⟩
section
variable {X:Cx}{pins:List (Addr×Obj)}{σ:St}{H:Hp}{s:Shared}{E:Value->Shared->Prop}
theorem Inv.wish(I:Inv X pins σ H s)(E:Value->Shared->Prop):Inv (X.wish E) pins σ H s:=⟨I.ok.wish E,I.os,I.bare,I.base,I.loc,I.cell,I.free,I.freeC,I.pin,I.hok,I.len⟩
theorem Inv.unwish(I:Inv (X.wish E) pins σ H s):Inv X pins σ H s:=⟨I.ok.unwish,I.os,I.bare,I.base,I.loc,I.cell,I.free,I.freeC,I.pin,I.hok,I.len⟩
theorem SP.unwish{D:Ends}{f:Flow}{s':Shared}(h:SP (X.wish E) pins D f s'):SP X pins D f s':=by
 cases f with
 |next=>obtain⟨σ',H',I,q⟩:=h;exact⟨σ',H',I.unwish,q⟩
 |brk=>obtain⟨σ',H',I,q⟩:=h;exact⟨σ',H',I.unwish,q⟩
 |cont=>obtain⟨σ',H',I,q⟩:=h;exact⟨σ',H',I.unwish,q⟩
 |ret u=>obtain⟨v,σ',H',I,r,q⟩:=h;exact⟨v,σ',H',I.unwish,r,q⟩
end
section
variable {X:Cx}{st:Stmt}{rest:List Stmt}{t u:TS}{e:Expr}{te:TE}{pos:Pos}
noncomputable def UK:TS:=λD σ H=>D.nx σ H
noncomputable def z12 (t u:TS):TS:=λD σ H=>t {D with nx:=u D} σ H
theorem Zd:PSs X [] UK:=λ_ _ σ H _ I h=>wpAny_execs_nil ⟨σ,H,I,h⟩
theorem yt(h1:PS X st t)(h2:PSs X rest u):PSs X (st::rest) (z12 t u):=by
 intro pins s σ H D I h
 refine wpAny_execs_cons (thn (h1 pins s σ H {D with nx:=u D} I h) λf s1 q=>?_)
 cases f with
 |next=>
  obtain⟨σ',H',I',q⟩:=q
  exact h2 pins s1 σ' H' D I' q
 |ret v=>exact q
 |brk=>exact q
 |cont=>exact q
theorem JL(h1:PS X st t):PSs X [st] t:=by
 intro pins s σ H D I h
 refine wpAny_execs_cons (thn (h1 pins s σ H D I h) λf s1 q=>?_)
 cases f with
 |next=>exact wpAny_execs_nil q
 |ret v=>exact q
 |brk=>exact q
 |cont=>exact q
theorem Inv.quiet{pins:List (Addr×Obj)}{σ:St}{H:Hp}{s:Shared}(I:Inv X pins σ H s):interactive X.env=false:=by simp[interactive,I.ok.kind]
noncomputable def Ux(te:TE):TS:=λD σ H=>te σ H λ_ H1=>D.nx σ H1
theorem Zy(he:PE X e te)(hs:swapsWith e none pos.line X.env=pure false:=by rfl):PS X (.Expr e pos) (Ux te):=by
 intro pins s σ H D I h
 exact wpAny_Expr_any (thn (he pins s σ H _ I h) λv s1 ⟨x,H1,I1,r1,q1⟩=>⟨σ,H1,I1,q1⟩) I.quiet hs
noncomputable def z0Q (te:TE):TS:=λD σ H=>te σ H D.rt
theorem Yh(he:PE X e te):PS X (.Return (some e) pos) (z0Q te):=by
 intro pins s σ H D I h
 exact wpAny_Return_some (thn (he pins s σ H _ I h) λv s1 ⟨x,H1,I1,r1,q1⟩=>⟨x,σ,H1,I1,r1,q1⟩)
noncomputable def UT:TS:=λD _ H=>D.rt .non H
theorem J6:PS X (.Return none pos) UT:=λ_ _ σ H _ I h=>wpAny_Return_none ⟨.non,σ,H,I,rfl,h⟩
noncomputable def z1b (c:TT)(t u:TS):TS:=λD σ H=>c σ H λb H1=>if b=true then t D σ H1 else u D σ H1
theorem z0v{c:Expr}{a b:List Stmt}{tc:TT}(hc:PT X c tc)(ha:PSs X a t)(hb:PSs X b u):PS X (.If c a b pos) (z1b tc t u):=by
 intro pins s σ H D I h
 refine wpAny_If (thn (hc pins s σ H _ I h) λd s1 ⟨H1,I1,q1⟩=>?_)
 cases d with
 |true=>exact ha pins s1 σ H1 D I1 q1
 |false=>exact hb pins s1 σ H1 D I1 q1
end
noncomputable abbrev TG:=V->St->Hp->(St->Hp->Prop)->Prop
noncomputable abbrev TGs:=List V->St->Hp->(St->Hp->Prop)->Prop
noncomputable def PG (X:Cx)(target:Expr)(t:TG):Prop:=
 ∀(pins:List (Addr×Obj)) (s:Shared) (σ:St) (H:Hp) (v:V) (u:Value) (Q:St->Hp->Prop),Inv X pins σ H s->RelV v u->t v σ H Q->
  wpAny (model X.prog X.w) X.A (assign target X.env u) (λ_ s'=>∃σ' H',Inv X pins σ' H' s'/\Q σ' H') X.xe s
noncomputable def PGs (X:Cx)(ts:List Expr)(t:TGs):Prop:=
 ∀(pins:List (Addr×Obj)) (s:Shared) (σ:St) (H:Hp) (vs:List V) (us:List Value) (Q:St->Hp->Prop),Inv X pins σ H s->Vals vs us->t vs σ H Q->
  wpAny (model X.prog X.w) X.A (assignInOrder ((assignEach ts X.env).map (·.2)) us) (λ_ s'=>∃σ' H',Inv X pins σ' H' s'/\Q σ' H') X.xe s
noncomputable abbrev X7:=V->V->V->Hp->(Hp->Prop)->Prop
noncomputable def z03 (X:Cx)(t:X7):Prop:=
 ∀(pins:List (Addr×Obj)) (s:Shared) (σ:St) (H:Hp) (o i v:V) (ov iv u:Value) (Q:Hp->Prop),Inv X pins σ H s->RelV o ov->RelV i iv->RelV v u->t o i v H Q->
  wpAny (model X.prog X.w) X.A (setItem ov iv u) (λ_ s'=>∃H',Inv X pins σ H' s'/\Q H') X.xe s
section
variable {X:Cx}{pos:Pos}
noncomputable def ZF(i:Nat):TG:=λv σ H Q=>Q (σ.set i (some v)) H
theorem ZD{i:Nat}{x:Str}(hN:X.N.Nodup)(hi:X.N[i]?=some x)(hx:Loc X.env.scope x)(hf:X.fn x=true\/X.env.scope.names.lookup x=some .local:=by first|exact .inl rfl|exact .inr rfl|assumption):PG X (.Name x pos) (ZF i):=by
 intro pins s σ H v u Q I r h
 exact wpAny_assign_Name (js I hN hi hx r (λs' I'=>⟨_,H,I',h⟩) hf)
noncomputable def z0o:TGs:=λvs σ H Q=>vs=[]/\Q σ H
noncomputable def KY(t:TG)(u:TGs):TGs:=λvs σ H Q=>∃v r,vs=v::r/\t v σ H λσ' H'=>u r σ' H' Q
theorem JE:PGs X [] z0o:=by
 intro pins s σ H vs us Q I r h
 obtain⟨e,h⟩:=h
 subst e
 cases r
 exact assignInOrder_nil ⟨σ,H,I,h⟩
theorem Wb{e:Expr}{es:List Expr}{t:TG}{u:TGs}(h1:PG X e t)(h2:PGs X es u)
  (hs:(assignEach (e::es) X.env).map (·.2)=assign e X.env::(assignEach es X.env).map (·.2):=by rfl):PGs X (e::es) (KY t u):=by
 intro pins s σ H vs us Q I r h
 obtain⟨v,vr,e1,h⟩:=h
 subst e1
 cases r with
 |cons r rr=>
  rw[hs]
  refine assignInOrder_cons (thn (h1 pins s σ H _ _ _ I r h) λ_ s1 ⟨σ1,H1,I1,q1⟩=>?_)
  exact h2 pins s1 σ1 H1 _ _ Q I1 rr q1
noncomputable def z0Y (K:PySem.W.Frag)(n:Nat)(t:TGs):TG:=λv σ H Q=>∃a xs,v=.ref a/\SqT K H a xs/\xs.length=n/\t xs σ H Q
theorem Xa{es:List Expr}{k:Nat}{t:TGs}{n:Nat}(hc:X.calm=true)(h:PGs X es t)
  (hn:(assignEach es X.env).length=n:=by rfl) (hst:(assignEach es X.env).findIdx? (·.1)=none:=by rfl):PG X (.Tuple es k pos) (z0Y X.K n t):=by
 intro pins s σ H v u Q I r hw
 obtain⟨a,xs,e1,hq,hl,hw⟩:=hw
 subst e1
 cases r
 obtain⟨its,rv,ht,hz⟩:=I.tuple hq
 refine assign_Tuple_tuple (I.ok.hd hc) ht (by simp[hn,←hl,rv.length]) hst λh' hx=>?_
 have I1:Inv X pins σ H {s with heap:=h'}:=I.kept (t':=s.toks) λb o e=>hx b o (Nat.ne_of_lt (Heap.lt_size e)) e
 exact h pins _ σ H xs _ Q I1 (by simpa using rv) hw
noncomputable def z1a (to ti:TE)(t:X7):TG:=λv σ H Q=>to σ H λo H1=>ti σ H1 λi H2=>t o i v H2 λH3=>Q σ H3
theorem Yl{o i:Expr}{to ti:TE}{t:X7}(ho:PE X o to)(hi:PE X i ti)(hs:z03 X t)
  (ha:∀v,assign (.Subscript o i pos) X.env v=(do
   let ov ←holding [v] (eval o X.env)
   let iv ←holding [v,ov] (eval i X.env)
   standAt pos
   holding [v,ov,iv] (setItem ov iv v)
   release [v,ov,iv] []):=by intro _;rfl):PG X (.Subscript o i pos) (z1a to ti t):=by
 intro pins s σ H v u Q I r h
 rw[ha]
 refine wpAny_bind (wpAny_holding (thn (ho pins s σ H _ I h) λov s1 ⟨x,H1,I1,r1,q1⟩=>?_))
 refine wpAny_bind (wpAny_holding (thn (hi pins s1 σ H1 _ I1 q1) λiv s2 ⟨y,H2,I2,r2,q2⟩=>?_))
 refine wpAny_bind (wpAny_standAt (wpAny_bind (wpAny_holding (thn (hs pins s2 σ H2 x y v ov iv u _ I2 r1 r2 r q2) λ_ s3 ⟨H3,I3,q3⟩=>?_))))
 exact wpAny_release ⟨σ,H3,I3,q3⟩
noncomputable def z0d (te:TE)(g:TG):TS:=λD σ H=>te σ H λx H1=>g x σ H1 D.nx
theorem VM{tg e:Expr}{te:TE}{g:TG}(he:PE X e te)(hg:PG X tg g)(hs:swapsWithSole [tg] e pos.line X.env=pure false:=by rfl)(hw:swappedStores [tg] e X.env=pure none:=by rfl)
  (h1:(assignEach [tg] X.env).map (·.2)=[assign tg X.env]:=by rfl):PS X (.Assign [tg] e pos) (z0d te g):=by
 intro pins s σ H D I h
 refine wpAny_Assign_stores (thn (he pins s σ H _ I h) λv s1 ⟨x,H1,I1,r1,q1⟩=>?_) hs hw
 rw[h1]
 exact thn (hg pins s1 σ H1 x v _ I1 r1 q1) λ_ s2 q=>q
theorem Xy{i:Nat}{x:Str}{e:Expr}{te:TE}{pos':Pos}(hN:X.N.Nodup)(hi:X.N[i]?=some x)(hx:Loc X.env.scope x)(he:PE X e te)(hs:swapsWith e (some (.Name x pos')) pos.line X.env=pure false:=by rfl)(hf:X.fn x=true\/X.env.scope.names.lookup x=some .local:=by first|exact .inl rfl|exact .inr rfl|assumption) :
  PS X (.Assign [.Name x pos'] e pos) (z0d te (ZF i)):=by
 intro pins s σ H D I h
 refine wpAny_Assign_Name (thn (he pins s σ H _ I h) λv s1 ⟨y,H1,I1,r1,q1⟩=>?_) hs
 exact js I1 hN hi hx r1 (λs2 I2=>⟨_,H1,I2,q1⟩) hf
end
structure It where
 go:Nat->Hp->Prop
 yld:Nat->Hp->V->Hp->Prop
 stop:Nat->Hp->Prop
noncomputable def yu (X:Cx)(pins:List (Addr×Obj))(H:Hp)(b:Addr):Prop:=
 H b=none/\b≠X.env.locals/\b∉X.fs/\(b∈X.ex\/X.s₀.heap.objs.size<=b)/\(∀x c,X.env.cells.lookup x=some c->c≠b)/\∀p∈X.pn++pins,p.1≠b
theorem Inv.fpOk{X:Cx}{pins:List (Addr×Obj)}{σ:St}{H H':Hp}{s:Shared}{b:Addr}(I:Inv X pins σ H s)(hb:s.heap.objs.size<=b)(hn:H' b=none):yu X pins H' b:=by
 refine⟨hn,Nat.ne_of_gt (Nat.lt_of_lt_of_le I.lt hb),I.nofs hb,.inr (Nat.le_trans I.sz hb),λx c e z=>?_,λp hp z=>?_⟩
 ·obtain⟨v,q⟩:=I.cell x c e
  exact absurd (Nat.lt_of_lt_of_le q.lt (by rw[z];exact hb)) (Nat.lt_irrefl _)
 ·exact absurd (Nat.lt_of_lt_of_le (Heap.lt_size (I.pin p hp).1) (by rw[z];exact hb)) (Nat.lt_irrefl _)
structure Turn(P:Program)(w:World)(K:PySem.W.Frag)(tg:Expr)(J:It)(fp:List Addr)(it:Addr)(tn:Nat->Heap->Prop):Prop where
 mem:it∈fp
 obj:∀i h,tn i h->∀b∈fp,∃o,h.get? b=some o/\∀v,o.data≠.cell v
 keep:∀i h h',tn i h->(∀b∈fp,∀o,h.get? b=some o->h'.get? b=some o)->tn i h'
 item:∀(X:Cx),X.prog=P->X.w=w->X.K=K->X.calm=true->∀(i:Nat) (pins:List (Addr×Obj)) (s:Shared) (σ:St) (H:Hp) (E:Value->Shared->Prop),Inv X pins σ H s->(∀b∈fp,yu X pins H b)->tn i s.heap->J.go i H->
  wpAny (model P w) X.A (pyNext (.ref it)) (λr s1=>∃u,r=some u/\
   wpAny (model P w) X.A (letOwnedTupleGo tg (.ref it) u) (λ_ s2=>∃x H',Inv X pins σ H' s2/\RelV x u/\J.yld i H x H'/\tn (i+1) s2.heap/\∀b∈fp,H' b=none) E s1) E s
 done:∀(X:Cx),X.prog=P->X.w=w->X.K=K->X.calm=true->∀(i:Nat) (pins:List (Addr×Obj)) (s:Shared) (σ:St) (H:Hp) (E:Value->Shared->Prop),Inv X pins σ H s->(∀b∈fp,yu X pins H b)->tn i s.heap->J.stop i H->
  wpAny (model P w) X.A (pyNext (.ref it)) (λr s1=>r=none/\Inv X pins σ H s1) E s
 self:∀(A:Around) (i:Nat) (s:Shared) (Q:Value->Shared->Prop) (E:Value->Shared->Prop),tn i s.heap->Q (.ref it) s->wpAny (model P w) A (pyIter (.ref it)) Q E s
noncomputable abbrev TI:=St->Hp->(It->Hp->Prop)->Prop
noncomputable def PIE (X:Cx)(pins:List (Addr×Obj))(σ:St)(tg:Expr)(R:It->Hp->Prop)(itv:Value)(s2:Shared):Prop:=
 ∃(it:Addr) (fp:List Addr) (tn:Nat->Heap->Prop) (J:It) (H':Hp),itv=.ref it/\Inv X pins σ H' s2/\Turn X.prog X.w X.K tg J fp it tn/\tn 0 s2.heap/\(∀b∈fp,yu X pins H' b)/\R J H'
noncomputable def PI (X:Cx)(tg iter:Expr)(wi:TI):Prop:=
 ∀(pins:List (Addr×Obj)) (s:Shared) (σ:St) (H:Hp) (R:It->Hp->Prop),Inv X pins σ H s->wi σ H R->
  wpAny (model X.prog X.w) X.A (eval iter X.env) (λv s1=>wpAny (model X.prog X.w) X.A (pyIter v) (PIE X pins σ tg R) X.xe s1) X.xe s
theorem kX{M:Model}{A:Around}{E:Value->Shared->Prop}{s:Shared}{tg:Expr}{it:Addr}{u:Value}{o:Obj}{n:String}{vs:Array Value}{Q:Unit->Shared->Prop}(ho:s.heap.get? it=some o)(hc:o.cls=.type n)(hd:o.data=.fields vs)
    (hn:["enumerate", "zip", "dict_itemiterator", "dict_reverseitemiterator", "odict_iterator", "itertools.zip_longest", "itertools.pairwise"].contains n=false) (hQ:Q () s):wpAny M A (letOwnedTupleGo tg (.ref it) u) Q E s:=by
  unfold letOwnedTupleGo
  cases tg <;> first
    |exact wpAny_pure hQ
    | (cases u <;> first
        |exact wpAny_pure hQ
        | (refine wpAny_bind (wpAny_load ho ?_)
           rw[hc, hd]
           show wpAny M A (if (["enumerate", "zip", "dict_itemiterator", "dict_reverseitemiterator", "odict_iterator", "itertools.zip_longest", "itertools.pairwise"].contains n&&vs[0]? == some (rawInt _))=true then _ else _) Q E s
           rw[if_neg (by intro h;rw[hn, Bool.false_and] at h;cases h)]
           exact wpAny_pure hQ))
noncomputable def Itl (K:PySem.W.Frag)(a:Addr):It:=
 ⟨λi H=>∃xs x,SqL K H a xs/\xs[i]?=some x,λi H x H'=>H'=H/\∀xs,SqL K H a xs->xs[i]?=some x,λi H=>∃xs,SqL K H a xs/\xs.length<=i⟩
noncomputable def Itt (K:PySem.W.Frag)(a:Addr):It:=
 ⟨λi H=>∃xs x,SqT K H a xs/\xs[i]?=some x,λi H x H'=>H'=H/\∀xs,SqT K H a xs->xs[i]?=some x,λi H=>∃xs,SqT K H a xs/\xs.length<=i⟩
noncomputable def Itr(lo:Int)(n:Nat):It:=⟨λi _=>i<n,λi H x H'=>H'=H/\x=.int (lo+i),λi _=>n<=i⟩
theorem kY{P:Program}{w:World}{K:PySem.W.Frag}{tg:Expr}(a it:Addr):Turn P w K tg (Itl K a) [it] it (λi h=>h.IsListIter it a i) where
 mem:=by simp
 obj:=λi h st b hb=>by
  have e:b=it:=by simpa using hb
  subst e
  obtain⟨o,e,c,d⟩:=st
  exact⟨o,e,λv z=>by rw[d] at z;cases z⟩
 keep:=λi h h' st k=>st.at λo e=>k it (by simp) o e
 item:=by
  intro X hP hw hK hc i pins s σ H E I hf st hg
  subst hP hw hK
  obtain⟨xs,x,hq,hx⟩:=hg
  obtain⟨its,rv,p,hz⟩:=I.list hq
  obtain⟨u,hu,ru⟩:=rv.get hx
  obtain⟨f0,f1,f2,f3,f4,f5⟩:=hf it (by simp)
  refine wpAny_pyNext_list_item st p.isList (x:=u) (by simpa using hu) λh' st' sb=>?_
  have I1:Inv X pins σ H {s with heap:=h'}:=I.turned (t':=s.toks) (λb o hb e=>(sb.2 b hb).trans e) f0 f1 f3 f4 f5
  obtain⟨o,e,c,d⟩:=id st'
  exact⟨u,rfl,kX (s:={s with heap:=h'}) e c d (by decide) ⟨x,H,I1,ru,⟨rfl,λys hy=>by rw[I.list_inj hy hq];exact hx⟩,st',λb hb=>(hf b hb).1⟩⟩
 done:=by
  intro X hP hw hK hc i pins s σ H E I hf st hg
  subst hP hw hK
  obtain⟨xs,hq,hx⟩:=hg
  obtain⟨its,rv,p,hz⟩:=I.list hq
  obtain⟨f0,f1,f2,f3,f4,f5⟩:=hf it (by simp)
  have hl:=rv.length
  exact wpAny_pyNext_list_end (I.ok.hd hc) st p.isList (by simp;omega) λh' eb=>⟨rfl,I.turned (t':=s.toks) (λb o hb e=>eb b o hb e) f0 f1 f3 f4 f5⟩
 self:=λ_ _ _ _ _ st h=>wpAny_pyIter_listiter st h
theorem uW{P:Program}{w:World}{K:PySem.W.Frag}{tg:Expr}(a it:Addr):Turn P w K tg (Itt K a) [it] it (λi h=>h.IsTupleIter it a i) where
 mem:=by simp
 obj:=λi h st b hb=>by
  have e:b=it:=by simpa using hb
  subst e
  obtain⟨o,e,c,d⟩:=st
  exact⟨o,e,λv z=>by rw[d] at z;cases z⟩
 keep:=λi h h' st k=>st.at λo e=>k it (by simp) o e
 item:=by
  intro X hP hw hK hc i pins s σ H E I hf st hg
  subst hP hw hK
  obtain⟨xs,x,hq,hx⟩:=hg
  obtain⟨its,rv,p,hz⟩:=I.tuple hq
  obtain⟨u,hu,ru⟩:=rv.get hx
  obtain⟨f0,f1,f2,f3,f4,f5⟩:=hf it (by simp)
  refine wpAny_pyNext_tuple_item st (show s.heap.IsTuple a its.toArray from p) (x:=u) (by simpa using hu) λh' st' sb=>?_
  have I1:Inv X pins σ H {s with heap:=h'}:=I.turned (t':=s.toks) (λb o hb e=>(sb.2 b hb).trans e) f0 f1 f3 f4 f5
  obtain⟨o,e,c,d⟩:=id st'
  exact⟨u,rfl,kX (s:={s with heap:=h'}) e c d (by decide) ⟨x,H,I1,ru,⟨rfl,λys hy=>by rw[I.tuple_inj hy hq];exact hx⟩,st',λb hb=>(hf b hb).1⟩⟩
 done:=by
  intro X hP hw hK hc i pins s σ H E I hf st hg
  subst hP hw hK
  obtain⟨xs,hq,hx⟩:=hg
  obtain⟨its,rv,p,hz⟩:=I.tuple hq
  obtain⟨f0,f1,f2,f3,f4,f5⟩:=hf it (by simp)
  have hl:=rv.length
  exact wpAny_pyNext_tuple_end (I.ok.hd hc) st (show s.heap.IsTuple a its.toArray from p) (by simp;omega) λh' eb=>⟨rfl,I.turned (t':=s.toks) (λb o hb e=>eb b o hb e) f0 f1 f3 f4 f5⟩
 self:=λ_ _ _ _ _ st h=>wpAny_pyIter_tupleiter st h
end L2
namespace L2
open PySem PySem.Spec PyProof.Rows
section
variable {X:Cx}{tg:Expr}
noncomputable def WQ(ta:TA):TI:=λσ H R=>ta σ H λvs H1=>∃i j:Int,vs=[.int i,.int j]/\(-(2 ^ 62)<=i/\i<2 ^ 62 /\ -(2 ^ 62)<=j/\j<2 ^ 62)/\R (Itr i (j-i).toNat) H1
noncomputable def z0_ (wi:TI)(g:TG)(tb:TS):TS:=λD σ H=>wi σ H λJ H1=>∃W:Nat->Nat->St->Hp->Prop,(∃m,W 0 m σ H1)/\∀i m σ H,W i m σ H->
 (J.stop i H/\D.nx σ H)\/(J.go i H/\∃N:St->Hp->Prop,(∀σ' H',N σ' H'->∃m',m'<m/\W (i+1) m' σ' H')/\∀x H',J.yld i H x H'->g x σ H' λσ2 H2=>tb {D with nx:=N,ct:=N,bk:=D.nx} σ2 H2)
noncomputable def jl(fp:List Addr)(h:Heap):List (Addr×Obj):=fp.filterMap λb=>(h.get? b).map λo=>(b,o)
theorem qI{fp:List Addr}{h:Heap}{b:Addr}{o:Obj}(hb:b∈fp)(e:h.get? b=some o):(b,o)∈jl fp h:=List.mem_filterMap.mpr ⟨b,hb,by rw[e];rfl⟩
theorem Qh{fp:List Addr}{h:Heap}{p:Addr×Obj}(hp:p∈jl fp h):p.1∈fp/\h.get? p.1=some p.2:=by
 obtain⟨b,hb,e⟩:=List.mem_filterMap.mp hp
 cases q:h.get? b with
 |none=>rw[q] at e;cases e
 |some o=>
  rw[q] at e
  have e':(b,o)=p:=Option.some.inj e
  subst e'
  exact⟨hb,q⟩
theorem Inv.pinned{pins:List (Addr×Obj)}{σ:St}{H:Hp}{s:Shared}{fp:List Addr}(I:Inv X pins σ H s)(hf:∀b∈fp,yu X pins H b)(ho:∀b∈fp,∃o,s.heap.get? b=some o/\∀v,o.data≠.cell v):Inv X (pins++jl fp s.heap) σ H s:=
 I.pins_of λp hp=>(List.mem_append.mp hp).elim (λz=>I.pin p (List.mem_append_right _ z)) λz=>by
  obtain⟨hb,e⟩:=Qh z
  obtain⟨f0,f1,f2,_⟩:=hf p.1 hb
  obtain⟨o,e',d⟩:=ho p.1 hb
  rw[e] at e';cases e'
  exact⟨e,f0,f1,f2,d⟩
theorem Inv.unpinned{pins pl:List (Addr×Obj)}{σ:St}{H:Hp}{s:Shared}(I:Inv X (pins++pl) σ H s):Inv X pins σ H s:=I.pins_of λp hp=>I.pin p (List.mem_append_right _ (List.mem_append_left _ hp))
theorem Yq{iter:Expr}{body:List Stmt}{wi:TI}{g:TG}{tb:TS}{pos:Pos}(hp:PassesOwn (model X.prog X.w) X.A X.env X.xe)(hc:X.calm=true)(hi:PI X tg iter wi)(hg:PG X tg g)(hb:PSs X body tb)
  (hs:∀x,foldedSetIterable iter X.env x=pure x:=by intro _;rfl):PS X (.For tg iter body [] pos) (z0_ wi g tb):=by
 intro pins s σ H D I h
 refine wpAny_For (thn (hi pins s σ H _ I h) λv s1 h1=>thn h1 λitv s2 h2=>?_) hs
 obtain⟨it,fp,tn,J,H2,e,I2,T,st2,f2,W,⟨m0,w0⟩,turn⟩:=h2
 subst e
 have stat:∀{H':Hp},(∀b∈fp,H' b=none)->∀b∈fp,yu X pins H' b:=λhn b hb=>⟨hn b hb,(f2 b hb).2⟩
 refine codeAny_forLoop_any (λn s'=>∃i σ' H',Inv X pins σ' H' s'/\tn i s'.heap/\(∀b∈fp,H' b=none)/\W i n σ' H') ?_ m0 ⟨0,σ,H2,I2,st2,λb hb=>(f2 b hb).1,w0⟩
 rintro n s3 ⟨i,σ3,H3,I3,st3,fr3,w3⟩
 rcases turn i n σ3 H3 w3 with⟨stop,qn⟩|⟨go,N,hN,step⟩
 ·refine wpAny_passesOwn hp (thn (T.done X rfl rfl rfl hc i pins s3 σ3 H3 X.xe I3 (stat fr3) st3 stop) λr s4 ⟨hr,I4⟩=>?_)
  subst hr
  exact wpAny_execs_nil ⟨σ3,H3,I4,qn⟩
 ·refine wpAny_passesOwn hp (thn (T.item X rfl rfl rfl hc i pins s3 σ3 H3 X.xe I3 (stat fr3) st3 go) λr s4 ⟨u,hr,h4⟩=>?_)
  subst hr
  refine wpAny_passesOwn hp (thn h4 λ_ s5 ⟨x,H5,I5,r5,y5,st5,fr5⟩=>?_)
  have I5':=I5.pinned (stat fr5) (T.obj _ _ st5)
  refine wpAny_passesOwn hp (thn (hg _ s5 σ3 H5 x u _ I5' r5 (step x H5 y5)) λ_ s6 ⟨σ6,H6,I6,q6⟩=>?_)
  refine wpAny_passesOwn hp (thn (hb _ s6 σ6 H6 _ I6 q6) λf s7 q7=>?_)
  have again:∀{σ7:St} {H7:Hp},Inv X (pins++jl fp s5.heap) σ7 H7 s7->N σ7 H7->∃m,m<n/\∃i σ' H',Inv X pins σ' H' s7/\tn i s7.heap/\(∀b∈fp,H' b=none)/\W i m σ' H':=λ{σ7 H7} I7 n7=>by
   obtain⟨m',hm,w7⟩:=hN σ7 H7 n7
   refine⟨m',hm,i+1,σ7,H7,I7.unpinned,T.keep _ _ _ st5 λb hb o e=>(I7.pin (b,o) (List.mem_append_right _ (List.mem_append_right _ (qI hb e)))).1,λb hb=>?_,w7⟩
   obtain⟨o,e,d⟩:=T.obj _ _ st5 b hb
   exact (I7.pin (b,o) (List.mem_append_right _ (List.mem_append_right _ (qI hb e)))).2.1
  cases f with
  |next=>obtain⟨σ7,H7,I7,n7⟩:=q7;exact again I7 n7
  |cont=>obtain⟨σ7,H7,I7,n7⟩:=q7;exact again I7 n7
  |brk=>obtain⟨σ7,H7,I7,q7⟩:=q7;exact⟨σ7,H7,I7.unpinned,q7⟩
  |ret v=>obtain⟨x7,σ7,H7,I7,r7,q7⟩:=q7;exact⟨x7,σ7,H7,I7.unpinned,r7,q7⟩
end
end L2
namespace L2
open PySem PySem.Spec PyProof.Rows
noncomputable abbrev R2:=V->V->Hp->VK->Prop
noncomputable def OpR (X:Cx)(f:Value->Value->Sem Value)(r:R2):Prop:=
 ∀(pins:List (Addr×Obj)) (s:Shared) (σ:St) (H:Hp) (x y:V) (v u:Value) (Q:VK),Inv X pins σ H s->RelV x v->RelV y u->r x y H Q->
  wpAny (model X.prog X.w) X.A (f v u) (EP X pins σ Q) X.xe s
noncomputable def UnR (X:Cx)(f:Value->Sem Value)(r:V->Hp->VK->Prop):Prop:=
 ∀(pins:List (Addr×Obj)) (s:Shared) (σ:St) (H:Hp) (x:V) (v:Value) (Q:VK),Inv X pins σ H s->RelV x v->r x H Q->
  wpAny (model X.prog X.w) X.A (f v) (EP X pins σ Q) X.xe s
noncomputable def Zn(X:Cx)(f:Value)(r:List V->Hp->VK->Prop):Prop:=
 ∀(pins:List (Addr×Obj)) (s:Shared) (σ:St) (H:Hp) (xs:List V) (us:List Value) (Q:VK),Inv X pins σ H s->Vals xs us->r xs H Q->
  wpAny (model X.prog X.w) X.A (call f us) (EP X pins σ Q) X.xe s
noncomputable def rI (C:Int->Int->Prop)(g:Int->Int->V):R2:=λx y H Q=>∃i j,x=.int i/\y=.int j/\C i j/\Q (g i j) H
noncomputable def rI0 (g:Int->Int->V):R2:=λx y H Q=>∃i j,x=.int i/\y=.int j/\Q (g i j) H
noncomputable def rU (g:Int->V):V->Hp->VK->Prop:=λx H Q=>∃i,x=.int i/\Q (g i) H
section
variable {X:Cx}{a b c:Expr}{ta tb tc:TE}{pos:Pos}
theorem opI{f:Value->Value->Sem Value}{C:Int->Int->Prop}{g:Int->Int->Int}
  (rule:∀(i j:Int) (t u:Tok) (s:Shared) (Q:Value->Shared->Prop) (E:Value->Shared->Prop),C i j->Q (.int (g i j) s.toks) {s with toks:=s.toks+1}->wpAny (model X.prog X.w) X.A (f (.int i t) (.int j u)) Q E s) :
  OpR X f (rI C λi j=>.int (g i j)):=by
 intro pins s σ H x y v u Q I rx ry h
 obtain⟨i,j,rfl,rfl,hc,q⟩:=h
 obtain⟨t,rfl⟩:=rx
 obtain⟨t',rfl⟩:=ry
 exact rule i j t t' s _ _ hc ⟨.int (g i j),H,I.tok _,⟨_,rfl⟩,q⟩
theorem Y3{f:Value->Value->Sem Value}{g:Int->Int->Int}
  (rule:∀(i j:Int) (t u:Tok) (s:Shared) (Q:Value->Shared->Prop) (E:Value->Shared->Prop),Q (.int (g i j) s.toks) {s with toks:=s.toks+1}->wpAny (model X.prog X.w) X.A (f (.int i t) (.int j u)) Q E s) :
  OpR X f (rI0 λi j=>.int (g i j)):=by
 intro pins s σ H x y v u Q I rx ry h
 obtain⟨i,j,rfl,rfl,q⟩:=h
 obtain⟨t,rfl⟩:=rx
 obtain⟨t',rfl⟩:=ry
 exact rule i j t t' s _ _ ⟨.int (g i j),H,I.tok _,⟨_,rfl⟩,q⟩
theorem Ju{f:Value->Value->Sem Value}{g:Int->Int->Bool}
  (rule:∀(i j:Int) (t u:Tok) (s:Shared) (Q:Value->Shared->Prop) (E:Value->Shared->Prop),Q (.bool (g i j)) s->wpAny (model X.prog X.w) X.A (f (.int i t) (.int j u)) Q E s) :
  OpR X f (rI0 λi j=>.bl (g i j)):=by
 intro pins s σ H x y v u Q I rx ry h
 obtain⟨i,j,rfl,rfl,q⟩:=h
 obtain⟨t,rfl⟩:=rx
 obtain⟨t',rfl⟩:=ry
 exact rule i j t t' s _ _ ⟨.bl (g i j),H,I,rfl,q⟩
noncomputable def z14(i j:Int):Prop:=0<=j/\j<=1000000/\i.natAbs<2 ^ 64
noncomputable def CMul(i j:Int):Prop:=(-(2 ^ 64)<i/\i<2 ^ 64)\/(-(2 ^ 64)<j/\j<2 ^ 64)
theorem CMul.ok{i j:Int}(h:CMul i j):IntMulOk i j:=by
 rcases h with⟨h1,h2⟩|⟨h1,h2⟩
 ·exact .of_left (intBits_le_64 h1 h2)
 ·exact .of_right (intBits_le_64 h1 h2)
theorem ux(k:Nat):(0:Int)<=2 ^ k:=by
 rw[two_pow_cast]
 exact Int.natCast_nonneg _
theorem Yy:OpR X (binaryOp .Add) (rI0 λi j=>.int (i+j)):=Y3 λ_ _ _ _ _ _ _ q=>add_int q
theorem XI:OpR X (binaryOp .Sub) (rI0 λi j=>.int (i-j)):=Y3 λ_ _ _ _ _ _ _ q=>sub_int q
theorem Yz:OpR X (binaryOp .Mult) (rI CMul λi j=>.int (i * j)):=opI λ_ _ _ _ _ _ _ hc q=>mul_int q hc.ok
theorem X8:OpR X (binaryOp .Mod) (rI (λ_ j=>0<j) λi j=>.int (i % j)):=opI λi j _ _ _ _ _ hc q=>by
 have h1:(0:Int)<j:=hc
 exact mod_int' (by omega) (by rw[Int.fmod_eq_emod_of_nonneg i (by omega)];exact q)
theorem U2:OpR X (binaryOp .Pow) (rI z14 λi j=>.int (i ^ j.toNat)):=opI λ_ _ _ _ _ _ _ hc q=>pow_int_small hc.1 hc.2.1 hc.2.2 q
theorem YY:OpR X (binaryOp .RShift) (rI (λ_ j=>0<=j) λi j=>.int (i / 2 ^ j.toNat)):=opI λi j _ _ _ _ _ hc q=>
 rshift_int hc (by rw[Int.fdiv_eq_ediv_of_nonneg i (ux _)];exact q)
theorem Xo:OpR X (binaryOp .BitAnd) (rI0 λi j=>.int (Builtin.bitAnd i j)):=Y3 λ_ _ _ _ _ _ _ q=>and_int q
theorem unI{f:Value->Sem Value}{g:Int->Int}
  (rule:∀(i:Int) (t:Tok) (s:Shared) (Q:Value->Shared->Prop) (E:Value->Shared->Prop),Q (.int (g i) s.toks) {s with toks:=s.toks+1}->wpAny (model X.prog X.w) X.A (f (.int i t)) Q E s) :
  UnR X f (rU λi=>.int (g i)):=by
 intro pins s σ H x v Q I rx h
 obtain⟨i,rfl,q⟩:=h
 obtain⟨t,rfl⟩:=rx
 exact rule i t s _ _ ⟨.int (g i),H,I.tok _,⟨_,rfl⟩,q⟩
theorem Xk:UnR X (unaryOp .USub) (rU λi=>.int (-i)):=unI λ_ _ _ _ _ q=>neg_int q
end
noncomputable def J5:V->V->Bool
 |.non,.non=>true|.non,.int _=>true|.int _,.non=>true|.non,.bl _=>true|.bl _,.non=>true|.non,.str _=>true|.str _,.non=>true
 |.int _,.int _=>true|.bl _,.bl _=>true|.str _,.str _=>true|.byt _,.byt _=>true
 |.int _,.str _=>true|.str _,.int _=>true|.bl _,.str _=>true|.str _,.bl _=>true
 |_,_=>false
noncomputable def rEq:R2:=λx y H Q=>J5 x y=true/\Q (.bl (decide (x=y))) H
noncomputable def rNe:R2:=λx y H Q=>J5 x y=true/\Q (.bl (!decide (x=y))) H
theorem Zx{i j:Int}:decide (V.int i=V.int j)=(i == j):=by
 rw[Bool.eq_iff_iff]
 simp
theorem QT{i j:Bool}:decide (V.bl i=V.bl j)=(i == j):=by
 rw[Bool.eq_iff_iff]
 simp
theorem Zf{i j:Str}:decide (V.str i=V.str j)=(i == j):=by
 rw[Bool.eq_iff_iff]
 simp
theorem Zp{i j:Array UInt8}:decide (V.byt i=V.byt j)=(i.toList == j.toList):=by
 rw[Bool.eq_iff_iff]
 cases i
 cases j
 simp
section
variable {X:Cx}{a b c:Expr}{ta tb tc:TE}{pos:Pos}
theorem ze{pins:List (Addr×Obj)}{σ:St}{H:Hp}{s:Shared}{Q:VK}{k k':Bool}(I:Inv X pins σ H s)(q:Q (.bl k) H)(e:k=k'):EP X pins σ Q (.bool k') s:=by
 subst e
 exact⟨.bl k,H,I,rfl,q⟩
theorem z0s:OpR X (compareOp .Eq) rEq:=by
 intro pins s σ H x y v u Q I rx ry h
 obtain⟨hs,q⟩:=h
 cases x with
 |non=>
  cases rx
  cases y with
  |non=>cases ry;exact PySem.EqNone.eq_none_none (ze I q (by simp))
  |bl j=>cases ry;exact PySem.EqNone.eq_none_bool (ze I q (by simp))
  |int j=>obtain⟨t',rfl⟩:=ry;exact PySem.EqNone.eq_none_int (ze I q (by simp))
  |str j=>obtain⟨t',rfl⟩:=ry;exact PySem.EqNone.eq_none_str (ze I q (by simp))
  |_=>exact absurd (show false=true from hs) Bool.false_ne_true
 |bl i=>
  cases rx
  cases y with
  |non=>cases ry;exact PySem.EqNone.eq_bool_none (ze I q (by simp))
  |bl j=>cases ry;exact eq_bool (ze I q QT)
  |str j=>obtain⟨t',rfl⟩:=ry;exact PySem.EqMixed.eq_bool_str (ze I q (by simp))
  |_=>exact absurd (show false=true from hs) Bool.false_ne_true
 |int i=>
  obtain⟨t,rfl⟩:=rx
  cases y with
  |non=>cases ry;exact PySem.EqNone.eq_int_none (ze I q (by simp))
  |int j=>obtain⟨t',rfl⟩:=ry;exact eq_int (ze I q Zx)
  |str j=>obtain⟨t',rfl⟩:=ry;exact PySem.EqMixed.eq_int_str (ze I q (by simp))
  |_=>exact absurd (show false=true from hs) Bool.false_ne_true
 |str i=>
  obtain⟨t,rfl⟩:=rx
  cases y with
  |non=>cases ry;exact PySem.EqNone.eq_str_none (ze I q (by simp))
  |bl j=>cases ry;exact PySem.EqMixed.eq_str_bool (ze I q (by simp))
  |int j=>obtain⟨t',rfl⟩:=ry;exact PySem.EqMixed.eq_str_int (ze I q (by simp))
  |str j=>obtain⟨t',rfl⟩:=ry;exact eq_str (ze I q Zf)
  |_=>exact absurd (show false=true from hs) Bool.false_ne_true
 |byt i=>
  obtain⟨t,rfl⟩:=rx
  cases y with
  |byt j=>obtain⟨t',rfl⟩:=ry;exact PySem.W.eq_bytes (ze I q Zp)
  |_=>exact absurd (show false=true from hs) Bool.false_ne_true
 |_=>cases y<;>exact absurd (show false=true from hs) Bool.false_ne_true
theorem z05:OpR X (compareOp .NotEq) rNe:=by
 intro pins s σ H x y v u Q I rx ry h
 obtain⟨hs,q⟩:=h
 cases x with
 |non=>
  cases rx
  cases y with
  |non=>cases ry;exact PySem.EqNone.ne_none_none (ze I q (by simp))
  |bl j=>cases ry;exact PySem.EqNone.ne_none_bool (ze I q (by simp))
  |int j=>obtain⟨t',rfl⟩:=ry;exact PySem.EqNone.ne_none_int (ze I q (by simp))
  |str j=>obtain⟨t',rfl⟩:=ry;exact PySem.EqNone.ne_none_str (ze I q (by simp))
  |_=>exact absurd (show false=true from hs) Bool.false_ne_true
 |bl i=>
  cases rx
  cases y with
  |non=>cases ry;exact PySem.EqNone.ne_bool_none (ze I q (by simp))
  |bl j=>cases ry;exact ne_bool (ze I q (congrArg not QT))
  |str j=>obtain⟨t',rfl⟩:=ry;exact PySem.EqMixed.ne_bool_str (ze I q (by simp))
  |_=>exact absurd (show false=true from hs) Bool.false_ne_true
 |int i=>
  obtain⟨t,rfl⟩:=rx
  cases y with
  |non=>cases ry;exact PySem.EqNone.ne_int_none (ze I q (by simp))
  |int j=>obtain⟨t',rfl⟩:=ry;exact ne_int (ze I q (congrArg not Zx))
  |str j=>obtain⟨t',rfl⟩:=ry;exact PySem.EqMixed.ne_int_str (ze I q (by simp))
  |_=>exact absurd (show false=true from hs) Bool.false_ne_true
 |str i=>
  obtain⟨t,rfl⟩:=rx
  cases y with
  |non=>cases ry;exact PySem.EqNone.ne_str_none (ze I q (by simp))
  |bl j=>cases ry;exact PySem.EqMixed.ne_str_bool (ze I q (by simp))
  |int j=>obtain⟨t',rfl⟩:=ry;exact PySem.EqMixed.ne_str_int (ze I q (by simp))
  |str j=>obtain⟨t',rfl⟩:=ry;exact ne_str (ze I q (congrArg not Zf))
  |_=>exact absurd (show false=true from hs) Bool.false_ne_true
 |byt i=>
  obtain⟨t,rfl⟩:=rx
  cases y with
  |byt j=>obtain⟨t',rfl⟩:=ry;exact PySem.W.ne_bytes (ze I q (congrArg not Zp))
  |_=>exact absurd (show false=true from hs) Bool.false_ne_true
 |_=>cases y<;>exact absurd (show false=true from hs) Bool.false_ne_true
theorem UO:OpR X (compareOp .Lt) (rI0 λi j=>.bl (decide (i<j))):=Ju λ_ _ _ _ _ _ _ q=>lt_int q
theorem z0t:OpR X (compareOp .LtE) (rI0 λi j=>.bl (decide (i<=j))):=Ju λ_ _ _ _ _ _ _ q=>le_int q
theorem UN:OpR X (compareOp .Gt) (rI0 λi j=>.bl (decide (j<i))):=Ju λ_ _ _ _ _ _ _ q=>gt_int q
theorem UU:OpR X (compareOp .GtE) (rI0 λi j=>.bl (decide (j<=i))):=Ju λ_ _ _ _ _ _ _ q=>ge_int q
theorem ZL:OpR X (compareOp .In) (λx y H Q=>∃i j,x=.str i/\y=.str j/\Q (.bl (!(Builtin.Str.occurrences j i 0 j.length 1).isEmpty)) H):=by
 intro pins s σ H x y v u Q I rx ry h
 obtain⟨i,j,rfl,rfl,q⟩:=h
 obtain⟨t,rfl⟩:=rx
 obtain⟨t',rfl⟩:=ry
 exact in_str (ze I q rfl)
theorem XY:OpR X (compareOp .Is) (λx y H Q=>y=.non/\Q (.bl (decide (x=.non))) H):=by
 intro pins s σ H x y v u Q I rx ry h
 obtain⟨rfl,q⟩:=h
 cases ry
 refine is_none_gen (ze I q ?_)
 cases x<;>first
  |(cases rx;rfl)
  |(obtain⟨t,rfl⟩:=rx;rfl)
theorem VS:OpR X (compareOp .IsNot) (λx y H Q=>y=.non/\Q (.bl (!decide (x=.non))) H):=by
 intro pins s σ H x y v u Q I rx ry h
 obtain⟨rfl,q⟩:=h
 cases ry
 refine isnot_none_gen (ze I q ?_)
 cases x<;>first
  |(cases rx;rfl)
  |(obtain⟨t,rfl⟩:=rx;rfl)
theorem xD:OpR X (compareOp .NotIn) (λx y H Q=>∃i j,x=.str i/\y=.str j/\Q (.bl (!(!(Builtin.Str.occurrences j i 0 j.length 1).isEmpty))) H):=by
 intro pins s σ H x y v u Q I rx ry h
 obtain⟨i,j,rfl,rfl,q⟩:=h
 obtain⟨t,rfl⟩:=rx
 obtain⟨t',rfl⟩:=ry
 exact notIn_str (ze I q rfl)
theorem Wf(b:Expr){op:CmpOp}(h:op≠.In:=by decide)(h2:op≠.NotIn:=by decide):behindInMarks op b=false:=by
 have e1:(op == CmpOp.In)=false:=by cases op<;>first|rfl|exact absurd rfl h
 have e2:(op == CmpOp.NotIn)=false:=by cases op<;>first|rfl|exact absurd rfl h2
 cases b<;>simp[behindInMarks,e1,e2]
theorem jK:(sizeLine:Nat)<2 ^ 63:=by rw[sizeLine_eq];decide
theorem uL:OpR X (binaryOp .Add) (λx y H Q=>∃i j,x=.str i/\y=.str j/\i.length+j.length<=sizeLine/\Q (.str (i++j)) H):=by
 intro pins s σ H x y v u Q I rx ry h
 obtain⟨i,j,rfl,rfl,hz,q⟩:=h
 obtain⟨t,rfl⟩:=rx
 obtain⟨t',rfl⟩:=ry
 exact add_str (λt' tk=>⟨.str (i++j),H,I.tok _,⟨_,rfl⟩,q⟩) hz
theorem vals1{x:V}{us:List Value}(r:Vals [x] us):∃u,us=[u]/\RelV x u:=by
 cases r with
 |cons r1 r2=>cases r2;exact⟨_,rfl,r1⟩
theorem vals2{x y:V}{us:List Value}(r:Vals [x,y] us):∃u w',us=[u,w']/\RelV x u/\RelV y w':=by
 cases r with
 |cons r1 r2=>
  cases r2 with
  |cons r3 r4=>cases r4;exact⟨_,_,rfl,r1,r3⟩
theorem x2:Zn X (.type "int") (λxs H Q=>(∃i,xs=[.int i]/\Q (.int i) H)\/∃k,xs=[.bl k]/\Q (.int (if k then 1 else 0)) H):=by
 intro pins s σ H xs us Q I r h
 rcases h with⟨i,rfl,q⟩|⟨k,rfl,q⟩
 ·obtain⟨u,rfl,t,rfl⟩:=vals1 r
  exact call_int_int ⟨.int i,H,I,⟨_,rfl⟩,q⟩
 ·obtain⟨u,rfl,r1⟩:=vals1 r
  cases r1
  exact call_int_bool ⟨.int (if k then 1 else 0),H,I.tok _,⟨_,rfl⟩,q⟩
end
end L2
namespace L2
open PySem PySem.Spec PyProof.Rows
structure ObjM(h:Heap)(x dx C:Addr)(mA:Str->Option Value):Prop where
 obj:h.get? x=some (PySem.W.instObj C dx)
 ns:h.Ns1 dx mA
 ne:dx≠x
theorem kZ{h:Heap}{dx:Addr}{mA:Str->Option Value}(n:h.Ns1 dx mA):∃od,h.get? dx=some od/\∀name,PySem.W.lookIn name od=some (mA name):=by
 obtain⟨o,es,ep,ho,hd,hk,_,hm⟩:=n
 refine⟨o,ho,λname=>?_⟩
 have e:=hm name
 unfold nsFind findBy at e
 rw[←Array.find?_toList] at e
 unfold PySem.W.lookIn
 rw[hd]
 dsimp only
 split
 ·rename_i y q
  rw[q] at e
  exact congrArg some e
 ·rename_i q
  rw[q] at e
  have a:es.toList.any (·.refKey)=false:=by
   rw[List.any_eq_false]
   intro y hy
   obtain⟨z,t,hkey⟩:=hk y (Array.mem_toList_iff.mp hy)
   simp[DictEntry.refKey,hkey]
  have a':¬es.toList.any (·.refKey)=true:=by rw[a];exact Bool.false_ne_true
  rw[if_neg a']
  exact congrArg some e
theorem ObjM.look{h:Heap}{x dx C:Addr}{mA:Str->Option Value}(I:ObjM h x dx C mA):∃od,PySem.W.InstAt h x (PySem.W.instObj C dx) C (some od)/\∀name,PySem.W.lookIn name od=some (mA name):=
 let ⟨od,ho,hl⟩:=kZ I.ns
 ⟨od,⟨I.obj,rfl,rfl,ho⟩,hl⟩
section
variable {prog:Program}{w:World}{A:Around}{E:Value->Shared->Prop}{s:Shared}{K:PySem.W.Frag}{x dx C f:Addr}{mA:Str->Option Value}{name:Str}{v:Value}
theorem VT{ns:List Str}{Q:Unit->Shared->Prop}(X:K.In s.heap)(I:ObjM s.heap x dx C mA)
  (hs:PySem.W.findIn K (.ref C) "__setattr__"=some (some (.builtin "object.__setattr__"))) (hp:PySem.W.plainOver K C=true) (ht:PySem.W.takerIn K C name=some none) (hh:PySem.W.hasDictIn K C=true)
  (hw:PySem.Within mA ns) (hsz:ns.length<=sizeLine)
  (h:∀h',ObjM h' x dx C (λy=>if y=name then some v else mA y)->Heap.SameBut dx s.heap h'->Q () {s with heap:=h',toks:=s.toks+2}) :
  wpAny (model prog w) A (setAttr (.ref x) name v) Q E s:=by
 obtain⟨od,J,hl⟩:=I.look
 refine PySem.W.set_plain X J hs (PySem.W.osa_open (s:={s with toks:=s.toks+1}) (r:=none) X J hp ht λb=>?_)
 obtain⟨cd,hc,hd'⟩:=PySem.W.any_some hh
 have hx:s.heap.get? x=some ⟨.ref C,some dx,.plain,#[]⟩:=I.obj
 refine wpAny_bind (wpAny_pure (wpAny_bind (wpAny_bind (wpAny_loadPart hx (wpAny_bind (PySem.W.Looks.here (s:={s with toks:=s.toks+1}) (PySem.W.looks_clsIn X hc) ?_))))))
 rw[hd']
 refine wpAny_pure (a:=some dx) (wpAny_bind (wpAny_pure (wpAny_bind ?_)))
 refine wpAny_nsSet1 (s:={s with toks:=s.toks+1}) I.ns λh' hn2 hs2=>?_
 obtain⟨oD,esD,epD,hoD,hdD,hcD⟩:=hn2.count (PySem.Within.cons name v hw)
 refine wpAny_bind (wpAny_lookBehind hoD (by rw[hdD];exact pastItsLine_dict (Nat.le_trans hcD (by rw[List.length_cons];omega))) ?_)
 exact wpAny_pure (h _ ⟨(hs2.2 _ (Ne.symm I.ne)).trans I.obj,hn2,I.ne⟩ hs2)
theorem Wq{R:Result->Shared->Prop}{vs:List Value}{kw:List (Str×Value)}(X:K.In s.heap)(hm:PySem.W.makesIn K C=true)
  (hi:PySem.W.findIn K (.ref C) "__init__"=some (some (.ref f))) (hf:PySem.W.typeIn K (.ref f)=some (.type "function"))
  (h:codeAny (model prog w) (A.under (.builtin "type.__call__" ⟨.ref C::vs,kw⟩)) (.call (.ref f) ⟨.ref (s.heap.objs.size+1)::vs,kw⟩) (PySem.W.InitBack (s.heap.objs.size+1) R)
   {s with heap:=(s.heap.push PySem.W.emptyDict).push (PySem.W.instObj C s.heap.objs.size)}) :
  codeAny (model prog w) A (.call (.ref C) ⟨vs,kw⟩) R s:=by
 obtain⟨hh,g,d,t,os⟩:=s
 exact PySem.W.make_core (PySem.W.makes_of X hm) (PySem.W.looks_findIn X hi) (λself=>PySem.W.bind_fn X self hf) (.inl rfl) h
end
noncomputable def qG(f:Str)(v:V):List (Str×V)->List (Str×V)
 |[]=>[(f,v)]
 |(g,x)::r=>if g=f then (g,v)::r else (g,x)::qG f v r
theorem vZ(f g:Str)(v:V):∀fs:List (Str×V),(qG f v fs).lookup g=if g=f then some v else fs.lookup g
 |[]=>by
  show List.lookup g [(f,v)]=_
  by_cases h:g=f
  ·have hb:(g == f)=true:=beq_iff_eq.mpr h
   simp only[List.lookup,hb,if_pos h]
  ·have hb:(g == f)=false:=beq_eq_false_iff_ne.mpr h
   simp only[List.lookup,hb,if_neg h]
 |(k,x)::r=>by
  have ih:=vZ f g v r
  rw[show qG f v ((k,x)::r)=(if k=f then (k,v)::r else (k,x)::qG f v r) from rfl]
  by_cases hk:k=f
  ·rw[if_pos hk]
   by_cases h:g=k
   ·have hb:(g == k)=true:=beq_iff_eq.mpr h
    simp only[List.lookup,hb,if_pos (h.trans hk)]
   ·have hb:(g == k)=false:=beq_eq_false_iff_ne.mpr h
    simp only[List.lookup,hb,if_neg (λe:g=f=>h (e.trans hk.symm))]
  ·rw[if_neg hk]
   by_cases h:g=k
   ·have hb:(g == k)=true:=beq_iff_eq.mpr h
    simp only[List.lookup,hb,if_neg (λe:g=f=>hk (h.symm.trans e))]
   ·have hb:(g == k)=false:=beq_eq_false_iff_ne.mpr h
    simp only[List.lookup,hb]
    exact ih
theorem vB(f:Str)(v:V):∀fs:List (Str×V),f∈(qG f v fs).map (·.1)/\∀g,g∈fs.map (·.1)->g∈(qG f v fs).map (·.1)
 |[]=>⟨by simp[qG],λg h=>by simp at h⟩
 |(k,x)::r=>by
  obtain⟨i1,i2⟩:=vB f v r
  rw[show qG f v ((k,x)::r)=(if k=f then (k,v)::r else (k,x)::qG f v r) from rfl]
  by_cases hk:k=f
  ·rw[if_pos hk]
   subst hk
   exact⟨by simp,λg h=>by simpa using h⟩
  ·rw[if_neg hk]
   refine⟨?_,λg h=>?_⟩
   ·rw[List.map_cons]
    exact List.mem_cons_of_mem _ i1
   ·rw[List.map_cons] at h ⊢
    rcases List.mem_cons.mp h with e|e
    ·exact List.mem_cons.mpr (.inl e)
    ·exact List.mem_cons_of_mem _ (i2 g e)
theorem v_(f:Str)(v:V):∀fs:List (Str×V),(qG f v fs).length<=fs.length+1
 |[]=>by simp[qG]
 |(k,x)::r=>by
  have ih:=v_ f v r
  rw[show qG f v ((k,x)::r)=(if k=f then (k,v)::r else (k,x)::qG f v r) from rfl]
  by_cases hk:k=f
  ·rw[if_pos hk,List.length_cons,List.length_cons];omega
  ·rw[if_neg hk,List.length_cons,List.length_cons];omega
theorem RelO.some_of{v:V}{o:Option Value}(r:RelO (some v) o):∃u,o=some u/\RelV v u:=by
 cases o with
 |none=>exact (show False from r).elim
 |some u=>exact⟨u,rfl,r⟩
theorem Q7{v:V}{u:Value}(r:RelV v u):PySem.W.handedIn u=true:=by
 cases v with
 |non=>cases (show u=Value.none from r);rfl
 |bl b=>cases (show u=Value.bool b from r);rfl
 |int i=>obtain⟨t,e⟩:=(show ∃t,u=Value.int i t from r);cases e;rfl
 |str x=>obtain⟨t,e⟩:=(show ∃t,u=Value.str x t from r);cases e;rfl
 |byt b=>obtain⟨t,e⟩:=(show ∃t,u=Value.bytes b t from r);cases e;rfl
 |flt b=>obtain⟨t,e⟩:=(show ∃t,u=Value.float b t from r);cases e;rfl
 |ref a=>cases (show u=Value.ref a from r);rfl
 |ty n=>cases (show u=Value.type n from r);rfl
section
variable {P:Program}{w:World}{H H':Hp}{h h':Heap}{a C dx:Addr}{fs fs':List (Str×V)}
theorem Zc(hok:HOk P w H h)(e:H a=some (.ins C dx fs)):∃mA,ObjM h a dx C mA/\(∀f,RelO (fs.lookup f) (mA f))/\PySem.Within mA (fs.map (·.1))/\fs.length<=1000/\H dx=some (.own a):=by
 obtain⟨d,z,ne,ob,mA,n,r,q⟩:=(show ObjOk P w H h a (.ins C dx fs) from hok a _ e)
 exact⟨mA,⟨ob,n,ne⟩,r,q,z,d⟩
end
structure Cls(K:PySem.W.Frag)(C:Addr):Prop where
 pg:PySem.W.plainGet K C Str.empty=true
 hd:PySem.W.hasDictIn K C=true
 po:PySem.W.plainOver K C=true
 sa:PySem.W.findIn K (.ref C) "__setattr__"=some (some (.builtin "object.__setattr__"))
theorem Cls.get{K:PySem.W.Frag}{C:Addr}(c:Cls K C)(f:Str):PySem.W.plainGet K C f=true:=c.pg
noncomputable def NoAttr(K:PySem.W.Frag)(C:Addr)(f:Str):Prop:=PySem.W.findIn K (.ref C) f=some none
theorem NoAttr.taker{K:PySem.W.Frag}{C:Addr}{f:Str}(n:NoAttr K C f):PySem.W.takerIn K C f=some none:=by
 unfold PySem.W.takerIn
 rw[show PySem.W.findIn K (.ref C) f=some none from n]
 rfl
structure Meth(K:PySem.W.Frag)(C:Addr)(m:Str)(f:Addr):Prop where
 at_:PySem.W.findIn K (.ref C) m=some (some (.ref f))
 fn:PySem.W.isFn K (.ref f)=true
 kp:PySem.W.keepIn K (.ref f)=true
section
variable {X:Cx}{pins:List (Addr×Obj)}{σ:St}{H:Hp}{s:Shared}{a C dx:Addr}{fs:List (Str×V)}{f:Str}{v:V}{A:Around}{E:Value->Shared->Prop}
theorem yO{y:V}{u:Value}{Q:Unit->Shared->Prop}(I:Inv X pins σ H s)(e:H a=some (.ins C dx fs))(c:Cls X.K C)(n:NoAttr X.K C f)(hl:fs.length<1000)(ry:RelV y u)
  (h:∀s',Inv X pins σ (upd H a (.ins C dx (qG f y fs))) s'->Q () s'):wpAny (model X.prog X.w) A (setAttr (.ref a) f u) Q E s:=by
 obtain⟨mA,O,r,wi,_,ho⟩:=Zc I.hok e
 have hz:(fs.map (·.1)).length<=sizeLine:=by rw[List.length_map,sizeLine_eq];omega
 refine VT I.kIn O c.sa c.po n.taker c.hd wi hz λh' O' sb=>h _ ?_
 have hd:∃o,h'.get? dx=some o:=let ⟨o,_,_,e',_⟩:=O'.ns;⟨o,e'⟩
 refine I.write (x:=a) (e:=dx) (by rw[e];exact True.intro) (.inr ho) (λb q hb z=>(sb.2 b hb).trans z) hd ?_
 refine⟨by rw[z7 O.ne];exact ho,?_,O.ne,O'.obj,_,O'.ns,λg=>?_,λg hg=>?_⟩
 ·have:=v_ f y fs;omega
 ·show RelO ((qG f y fs).lookup g) (if g=f then some u else mA g)
  rw[vZ]
  by_cases q:g=f
  ·rw[if_pos q,if_pos q];exact ry
  ·rw[if_neg q,if_neg q];exact r g
 ·by_cases q:g=f
  ·rw[q];exact (vB f y fs).1
  ·refine (vB f y fs).2 g (wi g λz=>hg ?_)
   show (if g=f then some u else mA g)=none
   rw[if_neg q];exact z
theorem Inv.made(I:Inv X pins σ H s):Inv X pins σ (upd (upd H s.heap.objs.size (.own (s.heap.objs.size+1))) (s.heap.objs.size+1) (.ins C s.heap.objs.size []))
  {s with heap:=(s.heap.push PySem.W.emptyDict).push (PySem.W.instObj C s.heap.objs.size)}:=by
 have e1:(s.heap.push PySem.W.emptyDict).get? s.heap.objs.size=some PySem.W.emptyDict:=Heap.get?_push_size s.heap rfl
 have e2:((s.heap.push PySem.W.emptyDict).push (PySem.W.instObj C s.heap.objs.size)).get? (s.heap.objs.size+1)=some (PySem.W.instObj C s.heap.objs.size):=by
  have:=Heap.get?_push_size (s.heap.push PySem.W.emptyDict) (o:=PySem.W.instObj C s.heap.objs.size) rfl
  rwa[Heap.size_push] at this
 have e3:(s.heap.push PySem.W.emptyDict).Ns s.heap.objs.size (λ_=>none):=⟨PySem.W.emptyDict,#[],_,e1,rfl,(λe he=>absurd he (by simp)),λ_=>rfl⟩
 have I1:=I.laid (a:=s.heap.objs.size) (o:=.own (s.heap.objs.size+1)) (h':=s.heap.push PySem.W.emptyDict) (t':=s.toks) (λb u q=>Heap.get?_push_of_some _ q) (Nat.le_refl _) ⟨_,e1⟩
 refine I1.laid (a:=s.heap.objs.size+1) (o:=.ins C s.heap.objs.size []) (t':=s.toks) (λb u q=>Heap.get?_push_of_some _ q) (Nat.le_of_eq (Heap.size_push _ _)) ?_
 have ne:s.heap.objs.size≠s.heap.objs.size+1:=Nat.ne_of_lt (Nat.lt_succ_self _)
 refine⟨by rw[z7 ne,z8],Nat.zero_le _,ne,e2,λ_=>none,(Heap.Ns1.of_empty e3).at λo q=>Heap.get?_push_of_some _ q,λ_=>True.intro,λy hy=>absurd rfl hy⟩
theorem JF{prog:Program}{w:World}{env:Env}{e:Expr}{f:Str}{pos:Pos}{s:Shared}{Q:Value->Shared->Prop}(hb:attributeBase e f env (eval e env)=eval e env)
  (h:wpAny (model prog w) A (eval e env) (λo s₁=>wpAny (model prog w) A (getAttr o f true) Q E s₁) E s):wpAny (model prog w) A (eval (.Attribute e f pos) env) Q E s:=
 Attribute_any_ h (by rw[arm_eval_Attribute,hb])
end
noncomputable def V_ (K:PySem.W.Frag)(ta tv:TE)(f:Str):TS:=λD σ H=>tv σ H λy H1=>ta σ H1 λx H2=>∃a C dx fs,x=.ref a/\H2 a=some (.ins C dx fs)/\Cls K C/\NoAttr K C f/\fs.length<1000/\
 D.nx σ (upd H2 a (.ins C dx (qG f y fs)))
section
variable {X:Cx}{o e value:Expr}{f:Str}{pos pos' tpos:Pos}{ta tv:TE}
theorem XR(ha:PE X o ta)(hv:PE X value tv)(hs:swapsWith value (some (.Attribute o f pos')) pos.line X.env=pure false):PS X (.Assign [.Attribute o f pos'] value pos) (V_ X.K ta tv f):=by
 intro pins s σ H D I h
 refine plainObj_wpAny_Assign_Attribute (thn (hv pins s σ H _ I h) λu s1 ⟨y,H1,I1,ry,q⟩=>thn (ha pins s1 σ H1 _ I1 q) λov s2 ⟨x,H2,I2,rx,a,C,dx,fs,ex,ea,c,n,l,q2⟩=>?_) hs
 subst ex
 obtain rfl:ov=Value.ref a:=rx
 exact yO I2 ea c n l ry λs3 I3=>⟨σ,_,I3,q2⟩
noncomputable def Ub:V->V->Hp->VK->Prop:=λx y H Q=>∃i j,x=.int i/\y=.int j/\Q (.int (i-j)) H
end
end L2
namespace L2
open PySem PySem.Spec PyProof.Rows
structure Room(k:Nat)(A:Around):Prop where
 hd:A.handled=none
 dp:A.depth+3 * k+5<recursionLimit
 un:A.units+16 * k+200<cLine
theorem Room.mono{j k:Nat}{A:Around}(r:Room k A)(h:j<=k):Room j A:=⟨r.hd,by have:=r.dp;omega,by have:=r.un;omega⟩
theorem Room.deeper{k:Nat}{A:Around}(r:Room (k+1) A)(env:Env):Room k (A.deeper env):=
 ⟨r.hd,by have:=r.dp;show A.depth+1+3 * k+5<_;omega,by have:=r.un;show A.units+3+16 * k+200<_;omega⟩
theorem uN{A:Around}{C:Addr}{us:List Value}{kw:List (Str×Value)}:(A.under (.builtin "type.__call__" ⟨.ref C::us,kw⟩)).depth=A.depth+1:=by
 first|rfl|simp[Around.under,Code.weight,Code.isCreation,Code.isGuard,Code.isCaller,Code.frames,Code.isFrame,guardIds]
theorem uG{A:Around}{C:Addr}{us:List Value}{kw:List (Str×Value)}:(A.under (.builtin "type.__call__" ⟨.ref C::us,kw⟩)).units=A.units+1:=by
 first|rfl|simp[Around.under,Code.cUnits,Code.frames,Code.isFrame]
theorem Room.make{k:Nat}{A:Around}(r:Room (k+1) A)(C:Addr)(us:List Value)(kw:List (Str×Value)):Room k (A.under (.builtin "type.__call__" ⟨.ref C::us,kw⟩)):=
 ⟨r.hd,by have:=r.dp;rw[uN];omega,by have:=r.un;rw[uG];omega⟩
theorem Room.depth{k:Nat}{A:Around}(r:Room k A):A.depth<recursionLimit:=by have:=r.dp;omega
noncomputable def z0S:TA:=λ_ H Q=>Q [] H
noncomputable def Uw(ta:TE)(tr:TA):TA:=λσ H Q=>ta σ H λx H1=>tr σ H1 λxs H2=>Q (x::xs) H2
section
variable {X:Cx}{e:Expr}{es:List Expr}{te:TE}{t:TA}{pos:Pos}
theorem qe:PA X [] z0S:=λ_ _ _ _ H Q I h=>Calls.spliced_nil ⟨[],H,I,.nil,h⟩
theorem zt(ha:PE X e te)(hr:PA X es t)(hs:starEach (e::es) X.env=(false,eval e X.env)::starEach es X.env:=by rfl):PA X (e::es) (Uw te t):=by
 intro pos pins s σ H Q I h
 rw[hs]
 show wpAny _ _ (spliced ((false,eval e X.env)::backTo pos (starEach es X.env))) _ _ s
 refine Calls.spliced_cons (thn (ha pins s σ H _ I h) λu s1 ⟨x,H1,I1,r1,q1⟩=>?_)
 exact thn (hr pos pins s1 σ H1 _ I1 q1) λus s2 ⟨xs,H2,I2,r2,q2⟩=>⟨x::xs,H2,I2,.cons r1 r2,q2⟩
noncomputable def z16 (t:TA):TE:=λσ H Q=>t σ H λxs H1=>xs.length<=sizeLine/\∀p,H1 p=none->Q (.ref p) (upd H1 p (.tup xs))
noncomputable def z1c (t:TA):TE:=λσ H Q=>t σ H λxs H1=>xs.length<=sizeLine/\∀p,H1 p=none->Q (.ref p) (upd H1 p (.lst xs))
theorem VD{x1}(h:PA X es t):PE X (.Tuple es x1 pos) (z16 t):=by
 intro pins s σ H Q I hq
 refine wpAny_Tuple_spliced (thn (h pos pins s σ H _ I hq) λus s1 ⟨xs,H1,I1,r,z,q⟩=>⟨by rw[←r.length];exact z,?_⟩)
 have hf:H1 s1.heap.objs.size=none:=I1.hok.fresh (Nat.le_refl _)
 refine⟨.ref s1.heap.objs.size,upd H1 s1.heap.objs.size (.tup xs),I1.laid (t':=s1.toks) (λb u e=>Heap.get?_push_of_some _ e) (Nat.le_refl _) ?_,rfl,q _ hf⟩
 exact⟨z,us,r,⟨_,Heap.get?_push_size _ rfl,rfl,_,rfl⟩⟩
theorem W9(h:PA X es t):PE X (.List es pos) (z1c t):=by
 intro pins s σ H Q I hq
 refine wpAny_List_spliced (thn (h pos pins s σ H _ I hq) λus s1 ⟨xs,H1,I1,r,z,q⟩=>⟨by rw[←r.length];exact z,?_⟩)
 have hf:H1 s1.heap.objs.size=none:=I1.hok.fresh (Nat.le_refl _)
 refine⟨.ref s1.heap.objs.size,upd H1 s1.heap.objs.size (.lst xs),I1.laid (t':=s1.toks) (λb u e=>Heap.get?_push_of_some _ e) (Nat.le_refl _) ?_,rfl,q _ hf⟩
 exact⟨z,us,0,r,Heap.get?_push_size _ rfl⟩
end
noncomputable abbrev Sp:=List V->Hp->VK->XK->Prop
noncomputable abbrev CXT:=List Env->Hp->Shared->XK->Value->Shared->Prop
structure Env0(P:Program)(w:World)(K:PySem.W.Frag)(mg:Str->Option Value)(base:Heap)(A:Around)(outer:List Env)(s:Shared)(H:Hp):Prop where
 frames:A.frames=some outer
 mod:Mod K mg base
 bs:∀b o,base.get? b=some o->s.heap.get? b=some o/\H b=none
 bsz:base.objs.size<=s.heap.objs.size
 funs:s.heap.FunFrames base outer
 frf:∀b∈frs outer,H b=none
 hok:HOk P w H s.heap
 bare:AllBare s.gens
inductive CE(outer:List Env)(P:Program)(w:World)(H:Hp)(s:Shared)(Q:VK)(u:Value)(s':Shared):Prop where
 |mk (v:V) (H':Hp) (o:s'.os=s.os) (b:AllBare s'.gens) (n:Un (frs outer) [] H H' s.heap s'.heap) (k:HOk P w H' s'.heap) (r:RelV v u) (q:Q v H')
noncomputable def CR (CX:CXT)(outer:List Env)(P:Program)(w:World)(H:Hp)(s:Shared)(Q:VK)(E:XK)(r:Result)(s':Shared):Prop:=
 match r with
 |.ok (.ret u)=>CE outer P w H s Q u s'
 |.ok _=>False
 |.error e=>CX outer H s E e s'
structure FnOk(P:Program)(w:World)(K:PySem.W.Frag)(mg:Str->Option Value)(base:Heap)(CX:CXT)(k:Nat)(f:Addr)(fd:FuncData)(ps:List Str)(sp:Sp):Prop where
 len:∀vs H Q E,sp vs H Q E->vs.length=ps.length
 run:∀(A:Around) (outer:List Env) (s:Shared) (H:Hp) (args:Args) (us:List Value) (vs:List V) (Q:VK) (E:XK),Room k A->Env0 P w K mg base A outer s H->BindsTo s fd args (ps.zip us)->Vals vs us->sp vs H Q E->
  codeAny (model P w) A (.call (.ref f) args) (CR CX outer P w H s Q E) s
theorem FnOk.imp{P:Program}{w:World}{K:PySem.W.Frag}{mg:Str->Option Value}{base:Heap}{CX:CXT}{k:Nat}{f:Addr}{fd:FuncData}{ps:List Str}{sp sp':Sp}(F:FnOk P w K mg base CX k f fd ps sp)
  (h:∀vs H Q E,sp' vs H Q E->sp vs H Q E):FnOk P w K mg base CX k f fd ps sp':=
 ⟨λvs H Q E q=>F.len vs H Q E (h _ _ _ _ q),λA outer s H args us vs Q E hr he hb hv hs=>F.run A outer s H args us vs Q E hr he hb hv (h _ _ _ _ hs)⟩
theorem Env0.make{P:Program}{w:World}{K:PySem.W.Frag}{mg:Str->Option Value}{base:Heap}{A:Around}{outer:List Env}{s:Shared}{H:Hp}(e:Env0 P w K mg base A outer s H)(C:Addr)(us:List Value)(kw:List (Str×Value)) :
  Env0 P w K mg base (A.under (.builtin "type.__call__" ⟨.ref C::us,kw⟩)) outer s H:=⟨by first|exact e.frames|(simpa[Around.under,Code.envs,Code.isFrame,pushEnvs] using e.frames),e.mod,e.bs,e.bsz,e.funs,e.frf,e.hok,e.bare⟩
section
variable {X:Cx}{pins:List (Addr×Obj)}{σ:St}{H:Hp}{s s':Shared}
theorem Inv.env0(I:Inv X pins σ H s):Env0 X.prog X.w X.K X.mg X.base X.A X.stack s H:=
 ⟨I.ok.frames,I.ok.mod,I.bs,Nat.le_trans I.ok.bsz I.sz,I.stack,I.stkFree,I.hok,I.bare⟩
theorem Inv.after{Q:VK}{u:Value}(I:Inv X pins σ H s)(h:CE X.stack X.prog X.w H s Q u s'):EP X pins σ Q u s':=by
 obtain⟨v,H',os,bare,un,hok,r,q⟩:=h
 obtain⟨hh,g,d,t,os'⟩:=s'
 obtain rfl:os'=s.os:=os
 exact⟨v,H',I.call (h':=hh) (g':=g) (d':=d) (t':=t) (ch:=[]) un hok bare (λb z=>absurd z (by simp)),r,q⟩
end
noncomputable def Binds(K:PySem.W.Frag)(fd:FuncData)(ps:List Str)(ds:List Value):Prop:=
 ∀(s:Shared) (us:List Value),K.In s.heap->(us++ds).length=ps.length->BindsTo s fd ⟨us,[]⟩ (ps.zip (us++ds))
theorem Binds.all{K:PySem.W.Frag}{fd:FuncData}{ps:List Str}(h:∀us:List Value,us.length=ps.length->bindArgs fd ⟨us,[]⟩=pure (ps.zip us)):Binds K fd ps []:=λs us _ hl=>by
 rw[List.append_nil] at hl ⊢
 exact .of_eq (h us hl)
section
variable {X:Cx}{CX:CXT}{k:Nat}{f C:Addr}{fd:FuncData}{ps:List Str}{sp:Sp}{dvs:List V}{ds:List Value}{E:XK}{x m:Str}{p pos apos:Pos}{e o:Expr}{es:List Expr}{ta:TE}{t:TA}
structure Mk(K:PySem.W.Frag)(C f:Addr):Prop where
 makes:PySem.W.makesIn K C=true
 init:PySem.W.findIn K (.ref C) "__init__"=some (some (.ref f))
 fn:PySem.W.isFn K (.ref f)=true
 kp:PySem.W.keepIn K (.ref C)=true
end
structure FnScope(N P:List Str)(sc:Scope):Prop where
 kind:sc.kind=.function
 co:sc.isCoroutine=false
 gen:sc.isGenerator=false
 nd:N.Nodup
 pre:N.take P.length=P
 par:∀x∈P,sc.names.lookup x=some .local\/sc.names.lookup x=some .cell
 nofree:∀y∈sc.names,y.2≠.free
theorem kS{kindOf:Str->Option NameKind}{x:Str}:∀{binds:List (Str×Value)} {m:Str->Option Value},(∀v,(x,v)∉binds)->bindL kindOf binds m x=m x
 |[],_,_=>rfl
 |(n,v)::r,m,h=>by
  unfold bindL
  rw[kS λw hw=>h w (List.mem_cons_of_mem _ hw)]
  split
  ·have:x≠n:=by rintro rfl;exact h v List.mem_cons_self
   simp[this]
  ·rfl
theorem kG{kindOf:Str->Option NameKind}{x:Str}:∀{binds:List (Str×Value)} {m:Str->Option Value},(∀v,(x,v)∉binds)->bindC kindOf binds m x=m x
 |[],_,_=>rfl
 |(n,v)::r,m,h=>by
  unfold bindC
  rw[kG λw hw=>h w (List.mem_cons_of_mem _ hw)]
  split
  ·rfl
  ·have:x≠n:=by rintro rfl;exact h v List.mem_cons_self
   simp[this]
theorem kR{kindOf:Str->Option NameKind}{x:Str}{v:Value}:∀{P:List Str} {vs:List Value} {i:Nat} {m:Str->Option Value},P.Nodup->P[i]?=some x->vs[i]?=some v->kindOf x=some .local->
  bindL kindOf (P.zip vs) m x=some v
 |[],_,_,_,_,h,_,_=>by simp at h
 |_::_,[],_,_,_,_,h,_=>by simp at h
 |p::P,w::vs,0,m,nd,h1,h2,hk=>by
  simp at h1 h2;subst h1;subst h2
  show bindL kindOf ((p,w)::P.zip vs) m p=_
  unfold bindL
  rw[kS λv hv=>(List.nodup_cons.mp nd).1 (List.of_mem_zip hv).1,if_pos hk]
  simp
 |p::P,w::vs,i+1,m,nd,h1,h2,hk=>by
  show bindL kindOf ((p,w)::P.zip vs) m x=_
  unfold bindL
  exact kR (i:=i) (List.nodup_cons.mp nd).2 (by simpa using h1) (by simpa using h2) hk
theorem kU{kindOf:Str->Option NameKind}{x:Str}{v:Value}:∀{P:List Str} {vs:List Value} {i:Nat} {m:Str->Option Value},P.Nodup->P[i]?=some x->vs[i]?=some v->kindOf x≠some .local->
  bindC kindOf (P.zip vs) m x=some v
 |[],_,_,_,_,h,_,_=>by simp at h
 |_::_,[],_,_,_,_,h,_=>by simp at h
 |p::P,w::vs,0,m,nd,h1,h2,hk=>by
  simp at h1 h2;subst h1;subst h2
  show bindC kindOf ((p,w)::P.zip vs) m p=_
  unfold bindC
  rw[kG λv hv=>(List.nodup_cons.mp nd).1 (List.of_mem_zip hv).1,if_neg hk]
  simp
 |p::P,w::vs,i+1,m,nd,h1,h2,hk=>by
  show bindC kindOf ((p,w)::P.zip vs) m x=_
  unfold bindC
  exact kU (i:=i) (List.nodup_cons.mp nd).2 (by simpa using h1) (by simpa using h2) hk
noncomputable def start(N:List Str)(vs:List V):St:=vs.map some++List.replicate (N.length-vs.length) none
noncomputable def ZS (CX:CXT)(P:Program)(w:World)(K:PySem.W.Frag)(mg:Str->Option Value)(base:Heap)(N:List Str)(qual:Str)(scope:Scope)(f:Addr)(cd:Value)(A:Around)(outer:List Env)(s:Shared)(H:Hp)(E:XK)(fnb:Str->Bool:=λ_=>true):Cx where
 prog:=P
 w:=w
 K:=K
 mg:=mg
 base:=base
 A:=A.deeper (envOfC qual scope s.heap.objs.size f cd)
 N:=N
 s₀:=s
 H₀:=H
 env:=envOfC qual scope s.heap.objs.size f cd
 outer:=outer
 stack:=envOfC qual scope s.heap.objs.size f cd::outer
 ex:=[]
 calm:=true
 fn:=fnb
 pn:=[]
 xe:=λe s'=>wpAny (model P w) (A.deeper (envOfC qual scope s.heap.objs.size f cd)) (leaving (envOfC qual scope s.heap.objs.size f cd) e) (λ_ s''=>CX outer H s E e s'') (λe' s''=>CX outer H s E e' s'') s'
theorem yD{sc:Scope}{n:Nat}{x:Str}(h:sc.names.lookup x=some .cell):∃c,(cellsFrom n sc.names []).lookup x=some c:=by
 have q:=PySem.W.cellsFrom_some sc.names n [] (.inl h)
 exact Option.isSome_iff_exists.mp q
theorem Q1{CX:CXT}{P:Program}{w:World}{K:PySem.W.Frag}{mg:Str->Option Value}{base:Heap}{N ps:List Str}{qual:Str}{scope:Scope}{f:Addr}{cd:Value}{A:Around}{outer:List Env}{s s1:Shared}{H:Hp}{E:XK}{us:List Value}{vs:List V}{fnb:Str->Bool}
  (S:FnScope N ps scope) (hd:A.handled=none) (e0:Env0 P w K mg base A outer s H) (hl:vs.length=ps.length) (r:Vals vs us)
  (x:InCallC s s.heap.objs.size (bindL (envOfC qual scope s.heap.objs.size f cd).kindOf (ps.zip us) λ_=>none) (cellsFrom (s.heap.objs.size+1) scope.names []) (bindC (envOfC qual scope s.heap.objs.size f cd).kindOf (ps.zip us) λ_=>none) s1) :
  Inv (ZS CX P w K mg base N qual scope f cd A outer s H E fnb) [] (start N vs) H s1:=by
 have hpl:ps.length<=N.length:=by have:=congrArg List.length S.pre;rw[List.length_take] at this;omega
 obtain⟨h1,tk,rfl,hk⟩:=x.done
 have noA:∀b:Addr,b∉(ZS CX P w K mg base N qual scope f cd A outer s H E fnb).ex:=λb z=>absurd (show b∈([]:List Addr) from z) (by simp)
 refine⟨⟨e0.mod,S.kind,rfl,rfl,Nat.le_refl _,λy z c h1 h2=>?_,λy hy=>?_,λy c _ h=>?_,λ_=>hd,Around.frames_deeper e0.frames,.inr ⟨rfl,rfl⟩,λb z=>absurd z (noA b),e0.bs,e0.bsz,λb _ _=>noA b,λb z=>absurd z (noA b),e0.funs,e0.frf⟩,
  rfl,e0.bare,Un.kept hk,⟨_,x.toInCall.ns,λi y v h1 h2 h3=>?_⟩,λy c h=>⟨_,x.cell y c h⟩,e0.hok.fresh (Nat.le_refl _),λy c h=>?_,λp hp=>absurd (show p∈([]:List (Addr×Obj)) from hp) (by simp),e0.hok.kept hk,?_⟩
 ·exact name_of_addr x.apart (PySem.mem_of_lookup h1) (PySem.mem_of_lookup h2)
 ·have hy:scope.names.lookup y=some .cell\/scope.names.lookup y=some .free:=hy
  rcases hy with hy|hy
  ·exact yD hy
  ·exact absurd rfl (S.nofree _ (PySem.mem_of_lookup hy))
 ·exact Nat.le_of_lt (x.above y c (PySem.mem_of_lookup h))
 ·have hi:i<vs.length:=by
   unfold start at h2
   by_cases hi:i<vs.length
   ·exact hi
   ·rw[List.getElem?_append_right (by simpa using hi)] at h2
    rw[List.getElem?_replicate] at h2
    split at h2<;>cases h2
  have ha:vs[i]?=some v:=by
   unfold start at h2
   rw[List.getElem?_append_left (by simpa using hi),List.getElem?_map] at h2
   cases e:vs[i]? with
   |none=>rw[e] at h2;cases h2
   |some a=>rw[e] at h2;cases h2;rfl
  obtain⟨u,hu,rv⟩:=r.get ha
  have hp:ps[i]?=some y:=by
   rw[←S.pre,List.getElem?_take_of_lt (by omega)];exact h1
  have ndP:ps.Nodup:=by rw[←S.pre];exact S.nd.sublist (List.take_sublist _ _)
  refine⟨u,rv,?_⟩
  rcases S.par y (List.mem_of_getElem? hp) with k|k
  ·exact .inl ⟨k,kR ndP hp hu k⟩
  ·obtain⟨c,e⟩:=yD (n:=s.heap.objs.size+1) k
   refine .inr ⟨.inl k,c,e,?_⟩
   have q:=x.cell y c e
   rw[kU ndP hp hu (by show scope.names.lookup y≠_;rw[k];decide)] at q
   exact q
 ·exact .inl (e0.hok.fresh (Nat.le_of_lt (x.above y c (PySem.mem_of_lookup h))))
 ·unfold start
  show _=N.length
  rw[List.length_append,List.length_map,List.length_replicate]
  omega
theorem K_{CX:CXT}{P:Program}{w:World}{K:PySem.W.Frag}{mg:Str->Option Value}{base:Heap}{k:Nat}{f:Addr}{name qual:Str}{params:Arguments}{body:List Stmt}{scope:Scope}{dV kV doc pm cdv ct oc:Value}{an od:Option Addr}
  {osl:Array (Option Value)} {N ps:List Str} {sp:Sp} {fnb:Str->Bool} (lk:K.lookup f=some ⟨oc,od,.func (PySem.W.fnOf name qual params body scope dV kV doc pm an cdv ct),osl⟩) (hcd:PySem.W.codeIn K cdv qual=true) (S:FnScope N ps scope)
  (len:∀vs H Q E,sp vs H Q E->vs.length=ps.length)
  (hbody:∀(A:Around) (outer:List Env) (s:Shared) (H:Hp) (vs:List V) (Q:VK) (E:XK),Room k (A.deeper (envOfC qual scope s.heap.objs.size f cdv))->sp vs H Q E->(∀y c,(envOfC qual scope s.heap.objs.size f cdv).cells.lookup y=some c->s.heap.objs.size<=c/\H c=none)->
   ∃t,PSs (ZS CX P w K mg base N qual scope f cdv A outer s H E fnb) body t/\t {nx:=λ_ H'=>Q .non H',rt:=Q} (start N vs) H) :
  FnOk P w K mg base CX (k+1) f (PySem.W.fnOf name qual params body scope dV kV doc pm an cdv ct) ps sp:=by
 refine⟨len,λA outer s H args us vs Q E hr e0 hb r hsp=>?_⟩
 have hl:=len _ _ _ _ hsp
 have KX:K.In s.heap:=e0.mod.kin.keeps λb o e=>(e0.bs b o e).1
 have lim:s.heap.NoLimit:=e0.mod.nolimit.keeps λb o e=>(e0.bs b o e).1
 have hkind:∀y∈ps.zip us,scope.names.lookup y.1=some .local\/(scope.names.lookup y.1=some .cell/\((cellsFrom (s.heap.objs.size+1) scope.names []).lookup y.1).isSome=true):=λ⟨n,v⟩ hy=>by
  rcases S.par n (List.of_mem_zip hy).1 with q|q
  ·exact .inl q
  ·exact .inr ⟨q,PySem.W.cellsFrom_some _ _ _ (.inl q)⟩
 refine codeAny_call_function hr.depth (KX _ _ lk) rfl S.co S.gen rfl (PySem.W.codeRec_of KX hcd) (hb _ _ _ _ ?_)
 refine wpAny_newFunctionEnv_cells S.kind hkind λenv he s1 x=>?_
 subst he
 refine⟨lim.keeps x.toInCall.keep,codeAny_func ?_⟩
 obtain⟨t,ht,hq⟩:=hbody A outer s H vs Q E (hr.deeper _) hsp λy c h=>have l:=Nat.le_of_lt (x.above y c (PySem.mem_of_lookup h));⟨l,e0.hok.fresh l⟩
 have I:Inv (ZS CX P w K mg base N qual scope f cdv A outer s H E fnb) [] (start N vs) H s1:=Q1 S hr.hd e0 hl r x
 refine wpAny_mono (ht [] s1 (start N vs) H _ I hq) (λfl s' hs=>?_) λe s' hs=>hs
 have fin:∀{σ':St} {H':Hp} {v:V} {u:Value},Inv (ZS CX P w K mg base N qual scope f cdv A outer s H E fnb) [] σ' H' s'->RelV v u->Q v H'->CE outer P w H s Q u s':=
  λ{σ' H' v u} J rv q=>⟨v,H',J.os,J.bare,J.base,J.hok,rv,q⟩
 cases fl with
 |ret u=>
  obtain⟨v,σ',H',J,rv,q⟩:=hs
  exact fin J rv q
 |next=>
  obtain⟨σ',H',J,q⟩:=hs
  exact fin (v:=V.non) (u:=Value.none) J rfl q
 |brk=>
  obtain⟨_,_,_,q⟩:=hs
  exact False.elim q
 |cont=>
  obtain⟨_,_,_,q⟩:=hs
  exact False.elim q
end L2
namespace HT
open PySem PyProof.Rows
noncomputable def lexLt:List Int->List Int->Bool
 |[],[]=>false
 |[],_::_=>true
 |_::_,[]=>false
 |x::xs,y::ys=>if x=y then lexLt xs ys else decide (x<y)
theorem yP(x y:Int)(xs ys:List Int):lexLt (x::xs) (y::ys)=if x=y then lexLt xs ys else decide (x<y):=rfl
theorem kA:lexLt [] []=false:=rfl
theorem jL(y:Int)(ys:List Int):lexLt [] (y::ys)=true:=rfl
theorem k7(x:Int)(xs:List Int):lexLt (x::xs) []=false:=rfl
theorem jo(A:Around)(s:Shared)(a:Int)(t:Tok)(c:Int)(u:Tok):∃e,SeqAt.EqAt A s (.int a t) (.int c u) e/\(e=true↔a=c):=
 ⟨(a == c),SeqAt.EqAt.int_int a t c u,by simp⟩
theorem WV(A:Around)(s:Shared)(a:Int)(t:Tok)(c:Int)(u:Tok)(prog:Program)(w:World)(E:Value->Shared->Prop)(Q:Value->Shared->Prop)(h:Q (.bool (decide (a<c))) s) :
  wpAny (model prog w) A (richCompare .Lt (.int a t) (.int c u)) Q E s:=
 (PyProof.Rows.lt_int h:wpAny (model prog w) A (compareOp .Lt (.int a t) (.int c u)) Q E s)
section
open PySem.SeqAt
open PySem.AutoSeq1 (wpAny_loadPart')
open PySem.MeetsSeq PySem.MeetsSeq2 PySem.MeetsSeq3
theorem kC(l b:Addr)(items items2:Array Value)(n n2:Nat)(dd dd2:Option Addr)(sl sl2:Array (Option Value))(ns ms:List Int)(hi:IntsAre items.toList ns)(hj:IntsAre items2.toList ms) :
  Meets (Builtin.«tuple.__lt__» ⟨[.ref l,.ref b],[]⟩)
   (λ_ R s=>s.heap.get? l=some {cls:=.type "tuple",dict:=dd,data:=.seq items n,slots:=sl}/\s.heap.get? b=some {cls:=.type "tuple",dict:=dd2,data:=.seq items2 n2,slots:=sl2}/\
    R (.ok (.ret (.bool (lexLt ns ms)))) s):=
 .of_wp λprog w A R s h=>by
  obtain⟨hp,g,d,tk,os⟩:=s;obtain⟨hl,hb,h⟩:=h
  have f2:=AutoSeq1.sub_tuple_tuple
  have z1:items.size=ns.length:=by rw[←hi.length];simp
  have z2:items2.size=ms.length:=by rw[←hj.length];simp
  wp_walk using wpAny_loadPart' hl,wpAny_loadPart' hb,wpAny_forIn_list _ (λrest b s'=>b.1=none/\s'=⟨hp,g,d,tk,os⟩/\∃(vs ws:List Value) (ns' ms':List Int),rest=vs.zip ws/\
   IntsAre vs ns'/\IntsAre ws ms'/\ns'.length+items2.size=ms'.length+items.size/\R (.ok (.ret (.bool (lexLt ns' ms')))) ⟨hp,g,d,tk,os⟩) _
  case turn=>
   rintro⟨y,x⟩ rest b s' ⟨hb',rfl,vs,ws,ns',ms',hz,hvi,hwi,hlen,hR⟩
   cases hvi with
   |nil=>rw[List.zip_nil_left] at hz;cases hz
   |cons a t hvi'=>
    cases hwi with
    |nil=>rw[List.zip_nil_right] at hz;cases hz
    |cons c u hwi'=>
     rw[List.zip_cons_cons] at hz
     injection hz with hyx hrest
     injection hyx with hy hx
     subst hy hx
     rw[yP] at hR
     simp only[List.length_cons] at hlen
     obtain⟨e,he,hiff⟩:=jo A.in1 ⟨hp,g,d,tk,os⟩ a t c u
     refine wpAny_bind (he prog w _ _ ?_)
     cases e with
     |true=>
      rw[if_pos (hiff.mp rfl)] at hR
      wp_walk
      exact⟨rfl,rfl,_,_,_,_,hrest,hvi',hwi',by omega,hR⟩
     |false=>
      rw[if_neg (λq=>absurd (hiff.mpr q) Bool.false_ne_true)] at hR
      have hri:=WV A.in1 ⟨hp,g,d,tk,os⟩ a t c u prog w
      wp_walk using hri
      exact⟨_,rfl,by simpa using hR⟩
  case fin=>
   rintro⟨b1,b2⟩ s' ⟨hb',rfl,vs,ws,ns',ms',hz,hvi,hwi,hlen,hR⟩
   simp only at hb'
   subst hb'
   have hv:lexLt ns' ms'=decide (items.size<items2.size):=by
    cases hvi with
    |nil=>
     cases hwi with
     |nil=>
      simp only[List.length_nil] at hlen
      rw[kA]
      exact (decide_eq_false (by omega)).symm
     |cons c u hw=>
      simp only[List.length_nil,List.length_cons] at hlen
      rw[jL]
      exact (decide_eq_true (by omega)).symm
    |cons a t hv=>
     cases hwi with
     |nil=>
      simp only[List.length_nil,List.length_cons] at hlen
      rw[k7]
      exact (decide_eq_false (by omega)).symm
     |cons c u hw=>
      rw[List.zip_cons_cons] at hz
      cases hz
   rw[hv] at hR
   wp_walk
   exact⟨_,rfl,by simpa[Builtin.Tuple.tupleCompareSizes] using hR⟩
  case h=>
   exact⟨rfl,rfl,items.toList,items2.toList,ns,ms,rfl,hi,hj,by omega,h⟩
end
section
variable {prog:Program}{w:World}{A:Around}{E:Value->Shared->Prop}{s:Shared}
theorem lt_tupInts{l b:Addr}{items items2:Array Value}{ns ms:List Int}{Q:Value->Shared->Prop}(hl:IsTup s.heap l items)(hb:IsTup s.heap b items2)(hi:IntsAre items.toList ns)(hj:IntsAre items2.toList ms)
  (hu:A.units<cLine) (h:Q (.bool (lexLt ns ms)) s):wpAny (model prog w) A (compareOp .Lt (.ref l) (.ref b)) Q E s:=by
 obtain⟨⟨cls,dd,data,sl⟩,ho,hc,n,hd⟩:=id hl
 obtain⟨⟨cls2,dd2,data2,sl2⟩,ho2,hc2,n2,hd2⟩:=id hb
 simp only at hc hd hc2 hd2
 subst hc hd hc2 hd2
 exact richCompare_meets_room (op:=.Lt) ⟨_,ho,rfl⟩ ⟨_,ho2,rfl⟩ PySem.F.slot_tuple_lt PySem.F.entry_tuple_lt (PySem.F.args_tuple_lt_2 _ _) (kC l b items items2 n n2 dd dd2 sl sl2 ns ms hi hj)
  ⟨ho,ho2,show Value.bool (lexLt ns ms)≠Value.notImplemented/\Q (.bool (lexLt ns ms)) s from ⟨(λx=>nomatch x),h⟩⟩ hu
theorem cat_tup{t b:Addr}{vs ws:List Value}{Q:Value->Shared->Prop}(ht:IsTup s.heap t vs.toArray)(hb:IsTup s.heap b ws.toArray)(hv:vs≠[])
  (h1:ws=[]->Q (.ref t) s) (h2:ws≠[]->Q (.ref s.heap.objs.size) {s with heap:=s.heap.push {cls:=.type "tuple",data:=.seq (vs++ws).toArray}})
  (hsz:vs.length+ws.length<=sizeLine):wpAny (model prog w) A (binaryOp .Add (.ref t) (.ref b)) Q E s:=by
 obtain⟨⟨cls,dd,data,sl⟩,ho,hc,n,hd⟩:=id ht
 obtain⟨⟨cls2,dd2,data2,sl2⟩,ho2,hc2,n2,hd2⟩:=id hb
 simp only at hc hd hc2 hd2
 subst hc hd hc2 hd2
 have e:vs.toArray++ws.toArray=(vs++ws).toArray:=by simp
 by_cases hw:ws=[]
 ·exact concat_meets ⟨_,ho,rfl⟩ ⟨_,ho2,rfl⟩ noFill_tuple_add seq_tuple_add PySem.F.slot_tuple_add PySem.F.entry_tuple_add (PySem.F.args_tuple_add_2 _ _)
   (tuple_addW1 t b vs.toArray ws.toArray n n2 dd dd2 sl sl2 (by simpa using hv) (by simp[hw])) ⟨ho,ho2,h1 hw⟩
 ·refine concat_meets ⟨_,ho,rfl⟩ ⟨_,ho2,rfl⟩ noFill_tuple_add seq_tuple_add PySem.F.slot_tuple_add PySem.F.entry_tuple_add (PySem.F.args_tuple_add_2 _ _)
   (tuple_addW2 t b vs.toArray ws.toArray n n2 dd dd2 sl sl2 (by simpa using hv) (by simpa using hw) (by rw[List.size_toArray,List.size_toArray];exact hsz)) ⟨ho,ho2,?_⟩
  rw[e]
  exact h2 hw
noncomputable def sIx(n d:Nat):Option Int->Nat
 |none=>d
 |some v=>if v<0 then (v+(n:Int)).toNat else min v.toNat n
theorem Yv(n d:Nat)(hd:d<=n)(o:Option Int):sIx n d o<=n:=by
 cases o with
 |none=>exact hd
 |some v=>
  show (if v<0 then (v+(n:Int)).toNat else min v.toNat n)<=n
  by_cases hv:v<0
  ·rw[if_pos hv];omega
  ·rw[if_neg hv];exact Nat.min_le_right _ _
theorem Zt(v:Int)(n d:Nat):(if v<0 then max (v+(n:Int)) 0 else min v (n:Int))=((sIx n d (some v):Nat):Int):=by
 show (if v<0 then max (v+(n:Int)) 0 else min v (n:Int))=(((if v<0 then (v+(n:Int)).toNat else min v.toNat n):Nat):Int)
 by_cases hv:v<0
 ·simp only[if_pos hv];omega
 ·simp only[if_neg hv];omega
theorem uB(lo hi:Option Int)(n:Nat):Builtin.Slice.sliceAdjust lo hi 1 (n:Int)=(((sIx n 0 lo:Nat):Int),((sIx n n hi:Nat):Int)):=by
 have h1:¬((1:Int)<0):=by omega
 unfold Builtin.Slice.sliceAdjust
 simp only[h1,if_false]
 refine Prod.ext ?_ ?_
 ·cases lo with
  |none=>rfl
  |some v=>exact Zt v n 0
 ·cases hi with
  |none=>rfl
  |some v=>exact Zt v n n
theorem y_(i j:Nat):Builtin.Slice.slicePlaces (i:Int) (j:Int) 1=j-i:=by
 unfold Builtin.Slice.slicePlaces
 have h1:(1:Int) > 0:=by omega
 simp only[h1,if_true,Int.ediv_one]
 split<;>omega
theorem jq{v:Value}{o:Option Int}{Q:Option Int->Shared->Prop}(p:IsPart v o)(h:Q o s):wpAny (model prog w) A (Builtin.Slice.slicePartIndex v) Q E s:=by
 cases p with
 |none=>exact slicePart_none h
 |int i t=>exact slicePart_int h
theorem sliceApplied_gen{sl:Addr}{vl vu:Value}{lo hi:Option Int}{n:Nat}{Q:Int×Int×Nat->Shared->Prop}(hs:s.heap.IsSliceOf sl vl vu .none)(pl:IsPart vl lo)(pu:IsPart vu hi)
  (h:Q (((sIx n 0 lo:Nat):Int),1,sIx n n hi-sIx n 0 lo) s):wpAny (model prog w) A (Builtin.Slice.sliceApplied (.ref sl) (pure (n:Int))) Q E s:=by
 obtain⟨os,hos,hcs,hds⟩:=id hs
 unfold Builtin.Slice.sliceApplied Builtin.Slice.sliceFields
 refine wpAny_bind (wpAny_bind (wpAny_field hos hds (x:=vl) rfl (wpAny_bind (wpAny_field hos hds (x:=vu) rfl (wpAny_bind (wpAny_field hos hds (x:=.none) rfl (wpAny_pure ?_)))))))
 refine wpAny_bind (slicePart_none ?_)
 show wpAny _ _ (if ((1:Int) == 0)=true then _ else _) _ _ s
 rw[if_neg (by decide)]
 refine wpAny_bind (jq pl (wpAny_bind (jq pu (wpAny_bind (wpAny_pure ?_)))))
 show wpAny _ _ (match Builtin.Slice.sliceAdjust lo hi 1 (n:Int) with|(lo,hi)=>pure (lo,(1:Int),Builtin.Slice.slicePlaces lo hi 1)) _ _ s
 rw[uB lo hi n]
 show wpAny _ _ (pure (((sIx n 0 lo:Nat):Int),(1:Int),Builtin.Slice.slicePlaces ((sIx n 0 lo:Nat):Int) ((sIx n n hi:Nat):Int) 1)) _ _ s
 rw[y_]
 exact wpAny_pure h
theorem Vm(xs:Array Value)(i k:Nat):((List.range k).filterMap λ(m:Nat)=>xs[((i:Int)+(m:Int) * 1).toNat]?).toArray=((xs.toList.drop i).take k).toArray:=by
 have e:(λ(m:Nat)=>xs[((i:Int)+(m:Int) * 1).toNat]?)=λm=>xs[i+m]?:=by
  funext m
  have:((i:Int)+(m:Int) * 1).toNat=i+m:=by omega
  rw[this]
 rw[e]
 have:=pick_run xs i k
 rw[List.filterMap_map] at this
 have e2:((λx=>xs[x]?) ∘ λx=>i+x)=λm=>xs[i+m]?:=rfl
 rw[e2] at this
 rw[this]
theorem getItem_tuple_cut{t sl:Addr}{items:Array Value}{vl vu:Value}{lo hi:Option Int}{Q:Value->Shared->Prop}(ht:IsTup s.heap t items)(hs:s.heap.IsSliceOf sl vl vu .none)(pl:IsPart vl lo)(pu:IsPart vu hi)
  (hw:¬(sIx items.size 0 lo=0/\sIx items.size items.size hi=items.size))
  (h:Q (.ref s.heap.objs.size) {s with heap:=s.heap.push {cls:=.type "tuple",data:=.seq ((items.toList.drop (sIx items.size 0 lo)).take (sIx items.size items.size hi-sIx items.size 0 lo)).toArray}})
  (hsz:items.size<=sizeLine):wpAny (model prog w) A (getItem (.ref t) (.ref sl)) Q E s:=by
 have htake:sizeOk (.seq ((items.toList.drop (sIx items.size 0 lo)).take (sIx items.size items.size hi-sIx items.size 0 lo)).toArray):=by
  show ((items.toList.drop (sIx items.size 0 lo)).take (sIx items.size items.size hi-sIx items.size 0 lo)).toArray.size<=sizeLine
  rw[List.size_toArray,List.length_take,List.length_drop,Array.length_toList]
  omega
 have hj:sIx items.size items.size hi<=items.size:=Yv _ _ (Nat.le_refl _) hi
 obtain⟨os,hos,hcs,hds⟩:=id hs
 have hTs:s.TypeIs (.ref sl) "slice":=⟨os,hos,hcs⟩
 unfold getItem
 try with_reducible refine wpAny_holding ?_
 first|refine wpAny_bind (wpAny_pure ?_)|skip
 refine wpAny_bind (wpAny_sequenceKey ht.typeIs (by decide) ?_)
 refine wpAny_bind (wpAny_callSpecial?_slot (name:=Str.ofString "__getitem__") ht.typeIs PyProof.Rows.slot_tuple_getitem
  (wpAny_call_entry PyProof.Rows.slot_tuple_getitem ht.typeIs entry_tuple_getitem ?_ (args_tuple_getitem _ _)))
 show wpAny _ _ (Builtin.Tuple.tupleItemsOf (.ref t) >>= _) _ _ s
 refine wpAny_bind (tupleItemsOf_ ht ?_)
 refine wpAny_bind (wpAny_typeOf hTs ?_)
 rw[if_pos (by decide)]
 refine wpAny_bind (sliceApplied_gen hs pl pu ?_)
 have hno:¬((((sIx items.size 0 lo:Nat):Int) == 0&&(1:Int) == 1&&(sIx items.size items.size hi-sIx items.size 0 lo) == items.size)=true):=by
  intro q
  rw[Bool.and_eq_true,Bool.and_eq_true] at q
  have q1:((sIx items.size 0 lo:Nat):Int)=0:=eq_of_beq q.1.1
  have q2:sIx items.size items.size hi-sIx items.size 0 lo=items.size:=eq_of_beq q.2
  exact hw ⟨by omega,by omega⟩
 show wpAny _ _ (if (((sIx items.size 0 lo:Nat):Int) == 0&&(1:Int) == 1&&(sIx items.size items.size hi-sIx items.size 0 lo) == items.size)=true then _ else _) _ _ s
 rw[if_neg hno,Vm]
 first
  |exact wpAny_bind (m:=Builtin.Tuple.tupleExact _) (wpAny_newObj_type (wpAny_pure ⟨_,rfl,wpAny_pure h⟩) htake)
  |exact wpAny_bind (m:=Builtin.Tuple.tupleExact _) (wpAny_newObj_type (wpAny_bind (wpAny_pure (wpAny_pure ⟨_,rfl,wpAny_pure h⟩))) htake)
  |exact wpAny_bind (wpAny_bind (m:=Builtin.Tuple.tupleExact _) (wpAny_newObj_type (wpAny_pure (wpAny_pure ⟨_,rfl,wpAny_pure h⟩)) htake))
  |exact wpAny_bind (wpAny_bind (m:=Builtin.Tuple.tupleExact _) (wpAny_newObj_type (wpAny_pure ⟨_,rfl,wpAny_pure h⟩) htake))
end
end HT
namespace L2
open PySem PySem.Spec PyProof.Rows
noncomputable abbrev TO:=St->Hp->(Option Int->Hp->Prop)->Prop
noncomputable def PO (X:Cx)(e:Option Expr)(t:TO):Prop:=
 ∀(pins:List (Addr×Obj)) (s:Shared) (σ:St) (H:Hp) (Q:Option Int->Hp->Prop),Inv X pins σ H s->t σ H Q->
  wpAny (model X.prog X.w) X.A (evalPart e X.env) (λu s'=>∃o H',Inv X pins σ H' s'/\IsPart u o/\Q o H') X.xe s
noncomputable def K7:TO:=λ_ H Q=>Q none H
noncomputable def UW(t:TE):TO:=λσ H Q=>t σ H λx H1=>∃i,x=.int i/\Q (some i) H1
theorem intsAre_of{ns:List Int}:∀{us:List Value},Vals (ns.map V.int) us->IntsAre us ns:=by
 induction ns with
 |nil=>intro us r;rw[List.map_nil] at r;cases r;exact .nil
 |cons n ns ih=>
  intro us r
  rw[List.map_cons] at r
  cases r with
  |cons r1 r2=>
   obtain⟨t,e⟩:=r1
   subst e
   exact .cons n t (ih r2)
section
variable {X:Cx}{e:Expr}{te:TE}{lo hi:Option Expr}{tl th:TO}{pos p2:Pos}
theorem K6:PO X none K7:=by
 intro pins s σ H Q I h
 rw[evalPart_none]
 exact wpAny_pure ⟨none,H,I,.none,h⟩
theorem JT(h:PE X e te):PO X (some e) (UW te):=by
 intro pins s σ H Q I hw
 rw[evalPart_some]
 refine thn (h pins s σ H _ I hw) λu s1 ⟨x,H1,I1,r1,q1⟩=>?_
 obtain⟨i,rfl,q⟩:=q1
 obtain⟨t,rfl⟩:=r1
 exact⟨some i,H1,I1,.int i t,q⟩
noncomputable def SlR (X:Cx)(r:V->Option Int->Option Int->Hp->VK->Prop):Prop:=
 ∀(pins:List (Addr×Obj)) (s:Shared) (σ:St) (H:Hp) (x:V) (v vl vu:Value) (lo hi:Option Int) (sl:Addr) (Q:VK),Inv X pins σ H s->RelV x v->s.heap.IsSliceOf sl vl vu .none->IsPart vl lo->IsPart vu hi->r x lo hi H Q->
  ∃T id,typeLookup (.type T) "__getitem__"=pure (some (.builtin id))/\s.TypeIs v T/\wpAny (model X.prog X.w) X.A (getItem v (.ref sl)) (EP X pins σ Q) X.xe s
theorem SlR.or{r r':V->Option Int->Option Int->Hp->VK->Prop}(h:SlR X r)(h':SlR X r'):SlR X (λx lo hi H Q=>r x lo hi H Q\/r' x lo hi H Q):=by
 intro pins s σ H x v vl vu lo hi sl Q I rx hs pl pu q
 rcases q with q|q
 ·exact h pins s σ H x v vl vu lo hi sl Q I rx hs pl pu q
 ·exact h' pins s σ H x v vl vu lo hi sl Q I rx hs pl pu q
noncomputable def tSl (r:V->Option Int->Option Int->Hp->VK->Prop)(te:TE)(tl th:TO):TE:=λσ H Q=>te σ H λx H1=>tl σ H1 λl H2=>th σ H2 λu H3=>r x l u H3 Q
theorem W8{r:V->Option Int->Option Int->Hp->VK->Prop}(hr:SlR X r)(he:PE X e te)(hl:PO X lo tl)(hu:PO X hi th):PE X (.Subscript e (.Slice lo hi none p2) pos) (tSl r te tl th):=by
 intro pins s σ H Q I h
 refine Subscript_ (thn (he pins s σ H _ I h) λv s1 ⟨x,H1,I1,r1,q1⟩=>?_)
 refine wpAny_Slice (thn (hl pins s1 σ H1 _ I1 q1) λvl s2 ⟨l,H2,I2,pl,q2⟩=>thn (hu pins s2 σ H2 _ I2 q2) λvu s3 ⟨u,H3,I3,pu,q3⟩=>?_)
 rw[evalPart_none]
 refine wpAny_pure ?_
 have I4:Inv X pins σ H3 {s3 with heap:=s3.heap.push {cls:=.type "slice",data:=.fields #[vl,vu,.none]}}:=I3.kept (t':=s3.toks) λb ob q=>Heap.get?_push_of_some _ q
 obtain⟨T,id,hT,ht,hg⟩:=hr pins {s3 with heap:=s3.heap.push {cls:=.type "slice",data:=.fields #[vl,vu,.none]}} σ H3 x v vl vu l u s3.heap.objs.size Q I4 r1 (Heap.IsSliceOf.new ..) pl pu q3
 show wpAny (model X.prog X.w) X.A (subscriptTail e (.Slice lo hi none p2) v (.ref s3.heap.objs.size)) (EP X pins σ Q) X.xe {s3 with heap:=s3.heap.push {cls:=.type "slice",data:=.fields #[vl,vu,.none]}}
 exact tail_any (ops:=[.ref s3.heap.objs.size,v]) ht hT hg (by with_unfolding_all rfl)
noncomputable def kF (xs:List V)(lo hi:Option Int):List V:=(xs.drop (HT.sIx xs.length 0 lo)).take (HT.sIx xs.length xs.length hi-HT.sIx xs.length 0 lo)
theorem vY(xs:List V)(lo hi:Option Int):(kF xs lo hi).length<=xs.length:=by
 unfold kF
 rw[List.length_take,List.length_drop]
 omega
noncomputable def z0X (K:PySem.W.Frag):V->Option Int->Option Int->Hp->VK->Prop:=λx lo hi H Q=>∃a xs,x=.ref a/\SqT K H a xs/\
 ¬(HT.sIx xs.length 0 lo=0/\HT.sIx xs.length xs.length hi=xs.length)/\∀p,H p=none->Q (.ref p) (upd H p (.tup (kF xs lo hi)))
theorem Y2:SlR X (z0X X.K):=by
 intro pins s σ H x v vl vu lo hi sl Q I rx hs pl pu h
 obtain⟨a,xs,rfl,hx,hw,q⟩:=h
 cases rx
 obtain⟨its,r,ht,hz⟩:=I.tuple hx
 have hlen:its.toArray.size=xs.length:=by rw[List.size_toArray];exact r.length.symm
 refine⟨"tuple",_,PyProof.Rows.slot_tuple_getitem.lookup,ht.typeIs,?_⟩
 refine HT.getItem_tuple_cut ht hs pl pu (by rw[hlen];exact hw) ?_ (by rw[hlen];exact hz)
 rw[hlen]
 refine⟨.ref s.heap.objs.size,_,I.laid (t':=s.toks) (o:=.tup (kF xs lo hi)) (λb ob q=>Heap.get?_push_of_some _ q) (Nat.le_refl _) ?_,rfl,q _ (I.hok.fresh (Nat.le_refl _))⟩
 exact⟨Nat.le_trans (vY xs lo hi) hz,_,(r.drop (HT.sIx xs.length 0 lo)).take (HT.sIx xs.length xs.length hi-HT.sIx xs.length 0 lo),IsTup.new _ _⟩
noncomputable def z0G (K:PySem.W.Frag):R2:=λx y H Q=>∃a b ns ms,x=.ref a/\y=.ref b/\SqT K H a (ns.map V.int)/\SqT K H b (ms.map V.int)/\Q (.bl (HT.lexLt ns ms)) H
theorem Ye(hu:X.A.units<cLine):OpR X (compareOp .Lt) (z0G X.K):=by
 intro pins s σ H x y v u Q I rx ry h
 obtain⟨a,b,ns,ms,rfl,rfl,ha,hb,q⟩:=h
 cases rx
 cases ry
 obtain⟨its,r1,p1,_⟩:=I.tuple ha
 obtain⟨its2,r2,p2,_⟩:=I.tuple hb
 have i1:IntsAre its.toArray.toList ns:=intsAre_of r1
 have i2:IntsAre its2.toArray.toList ms:=intsAre_of r2
 exact HT.lt_tupInts p1 p2 i1 i2 hu ⟨.bl (HT.lexLt ns ms),H,I,rfl,q⟩
noncomputable def z0f(K:PySem.W.Frag):R2:=λx y H Q=>∃a b xs ys,x=.ref a/\y=.ref b/\SqT K H a xs/\SqT K H b ys/\xs≠[]/\xs.length+ys.length<=sizeLine/\
 (ys=[]->Q (.ref a) H)/\(ys≠[]->∀p,H p=none->Q (.ref p) (upd H p (.tup (xs++ys))))
theorem Vals.nil_iff{xs:List V}{us:List Value}(r:Vals xs us):us=[]↔xs=[]:=by
 cases r with
 |nil=>simp
 |cons _ _=>simp
theorem VW:OpR X (binaryOp .Add) (z0f X.K):=by
 intro pins s σ H x y v u Q I rx ry h
 obtain⟨a,b,xs,ys,rfl,rfl,ha,hb,hx,hz,q1,q2⟩:=h
 cases rx
 cases ry
 obtain⟨its,r1,p1,_⟩:=I.tuple ha
 obtain⟨its2,r2,p2,_⟩:=I.tuple hb
 refine HT.cat_tup p1 p2 (λz=>hx (r1.nil_iff.mp z)) (λz=>⟨.ref a,H,I,rfl,q1 (r2.nil_iff.mp z)⟩) (λz=>?_) (by rw[←r1.length,←r2.length];exact hz)
 refine⟨.ref s.heap.objs.size,_,I.laid (t':=s.toks) (o:=.tup (xs++ys)) (λb ob q=>Heap.get?_push_of_some _ q) (Nat.le_refl _) ?_,rfl,q2 (λw=>z (r2.nil_iff.mpr w)) _ (I.hok.fresh (Nat.le_refl _))⟩
 exact⟨by rw[List.length_append];exact hz,_,r1.append r2,IsTup.new _ _⟩
end
end L2
namespace L2
open PySem PySem.Spec PyProof.Rows
noncomputable def ixN(n:Nat)(i:Int):Option Nat:=if 0<=i then (if i<n then some i.toNat else none) else if -(n:Int)<=i then some (i+n).toNat else none
noncomputable def atI {α:Type}(xs:List α)(i:Int):Option α:=(ixN xs.length i).bind λj=>xs[j]?
theorem VV{n:Nat}{i:Int}{j:Nat}(h:ixN n i=some j):seqIndex? i n=some j/\j<n /\ -(n:Int)<=i/\i<n:=by
 unfold ixN at h
 by_cases h0:0<=i
 ·rw[if_pos h0] at h
  by_cases h1:i<n
  ·rw[if_pos h1] at h
   have e:i.toNat=j:=Option.some.inj h
   exact⟨by rw[seqIndex_of h0 h1,e],by omega,by omega,h1⟩
  ·rw[if_neg h1] at h;cases h
 ·rw[if_neg h0] at h
  by_cases h1:-(n:Int)<=i
  ·rw[if_pos h1] at h
   have e:(i+n).toNat=j:=Option.some.inj h
   exact⟨by rw[seqIndex_neg (by omega) h1,e],by omega,h1,by omega⟩
  ·rw[if_neg h1] at h;cases h
theorem xP{α:Type}{xs:List α}{i:Int}{v:α}(h:atI xs i=some v):∃j,seqIndex? i xs.length=some j/\xs[j]?=some v/\j<xs.length /\ -(xs.length:Int)<=i/\i<xs.length:=by
 unfold atI at h
 cases e:ixN xs.length i with
 |none=>rw[e] at h;cases h
 |some j=>
  rw[e] at h
  obtain⟨h1,h2,h3,h4⟩:=VV e
  exact⟨j,h1,h,h2,h3,h4⟩
noncomputable def JG(b:Expr):Prop:=∀o i,subscripted b false o i=operate [o,i] (getItem o i)
noncomputable def IxR (X:Cx)(r:R2):Prop:=
 ∀(value slice:Expr) (pins:List (Addr×Obj)) (s:Shared) (σ:St) (H:Hp) (x y:V) (v u:Value) (Q:VK),Inv X pins σ H s->RelV x v->RelV y u->r x y H Q->
  subscripted slice false v u=operate [v,u] (getItem v u)->wpAny (model X.prog X.w) X.A (subscriptTail value slice v u) (EP X pins σ Q) X.xe s
noncomputable def MtR (X:Cx)(id:String)(r:V->List V->Hp->VK->Prop):Prop:=
 ∀(pins:List (Addr×Obj)) (s:Shared) (σ:St) (H:Hp) (x:V) (xs:List V) (v:Value) (us:List Value) (Q:VK),Inv X pins σ H s->RelV x v->Vals xs us->r x xs H Q->
  wpAny (model X.prog X.w) X.A (call (.builtin id) (v::us)) (EP X pins σ Q) X.xe s
section
variable {X:Cx}{a b:Expr}{ta tb:TE}{pos:Pos}
noncomputable def z0T (K:PySem.W.Frag):R2:=λx y H Q=>∃p xs i v,x=.ref p/\y=.int i/\SqL K H p xs/\atI xs i=some v/\Q v H
noncomputable def z11 (K:PySem.W.Frag):R2:=λx y H Q=>∃p xs i v,x=.ref p/\y=.int i/\SqT K H p xs/\atI xs i=some v/\Q v H
noncomputable def z0L:R2:=λx y H Q=>∃z i c,x=.str z/\y=.int i/\z.length<=sizeLine/\atI z.cps.toList i=some c/\Q (.str ⟨#[c]⟩) H
theorem ZC:IxR X (z0T X.K):=by
 intro value slice pins s σ H x y v u Q I rx ry h hs
 obtain⟨p,xs,i,z,rfl,rfl,hq,he,q⟩:=h
 cases rx
 obtain⟨t,rfl⟩:=ry
 obtain⟨its,r,pl,hz⟩:=I.list hq
 obtain⟨j,h1,h2,h3,h4,h5⟩:=xP he
 obtain⟨w,ew,rw'⟩:=r.get h2
 have hl:=r.length
 have hn:=jK
 have fin:EP X pins σ Q w s:=⟨z,H,I,rw',q⟩
 by_cases h0:0<=i
 ·have hj:i.toNat=j:=by
   rw[seqIndex_of h0 h5] at h1
   exact Option.some.inj h1
  exact item_listR pl.isList h0 (by omega) (by rw[hj];simpa using ew) fin hs
 ·have hj:(i+(its.toArray.size:Int)).toNat=j:=by
   rw[seqIndex_neg (by omega) h4] at h1
   rw[List.size_toArray,←hl]
   exact Option.some.inj h1
  exact subscriptTail_builtinR (x:=w) pl.isList.typeIs slot_list_getitem.lookup
   (wpAny_getItem_list_neg (Q:=λr s'=>r=w/\EP X pins σ Q r s') pl.isList (by omega) (by rw[List.size_toArray]<;>omega) (by omega) (by rw[hj];simpa using ew) ⟨rfl,fin⟩) hs
theorem YJ:IxR X (z11 X.K):=by
 intro value slice pins s σ H x y v u Q I rx ry h hs
 obtain⟨p,xs,i,z,rfl,rfl,hq,he,q⟩:=h
 cases rx
 obtain⟨t,rfl⟩:=ry
 obtain⟨its,r,pl,hz⟩:=I.tuple hq
 obtain⟨j,h1,h2,h3,h4,h5⟩:=xP he
 obtain⟨w,ew,rw'⟩:=r.get h2
 have hl:=r.length
 have hn:=jK
 have fin:EP X pins σ Q w s:=⟨z,H,I,rw',q⟩
 exact subscriptTail_builtinR (x:=w) pl.typeIs slot_tuple_getitem.lookup
  (getItem_tuple (j:=j) (Q:=λr s'=>r=w/\EP X pins σ Q r s') pl (by omega) (by omega) (by rw[List.size_toArray,←hl];exact h1) (by simpa using ew) ⟨rfl,fin⟩) hs
theorem U3:IxR X z0L:=by
 intro value slice pins s σ H x y v u Q I rx ry h hs
 obtain⟨z,i,c,rfl,rfl,hz,he,q⟩:=h
 obtain⟨t,rfl⟩:=rx
 obtain⟨t',rfl⟩:=ry
 obtain⟨j,h1,h2,h3,h4,h5⟩:=xP he
 have hl:z.cps.toList.length=z.length:=by simp[Str.length]
 rw[hl] at h1 h4 h5
 have hn:=jK
 exact tail_any (typeIs_str s z t) slot_str_getitem.lookup (getItem_str (c:=c) (by
  have e1:decide (i < -(2 ^ 63:Int))=false:=decide_eq_false (by omega)
  have e2:decide (i ≥ 2 ^ 63)=false:=decide_eq_false (by omega)
  rw[e1,e2,Bool.or_false]) (by rw[h1];simpa using h2) ⟨.str ⟨#[c]⟩,H,I.tok _,⟨_,rfl⟩,q⟩) hs
theorem xN(lo hi:Option Int)(n:Nat):(sliceBounds lo hi none n).1=((HT.sIx n 0 lo:Nat):Int)/\(sliceBounds lo hi none n).2.1=((HT.sIx n n hi:Nat):Int)/\(sliceBounds lo hi none n).2.2=1:=by
 refine⟨?_,?_,rfl⟩
 ·cases lo with
  |none=>simp[sliceBounds,HT.sIx]
  |some i=>
   simp only[sliceBounds,HT.sIx,Option.getD_none,show (1:Int) > 0 by decide,if_true]
   by_cases h:i<0
   ·simp only[h,if_true]<;>omega
   ·simp only[h,if_false]<;>omega
 ·cases hi with
  |none=>simp[sliceBounds,HT.sIx]
  |some i=>
   simp only[sliceBounds,HT.sIx,Option.getD_none,show (1:Int) > 0 by decide,if_true]
   by_cases h:i<0
   ·simp only[h,if_true]<;>omega
   ·simp only[h,if_false]<;>omega
theorem ku(its:List Value)(lo hi:Option Int):slicePick its.toArray lo hi none=((its.drop (HT.sIx its.length 0 lo)).take (HT.sIx its.length its.length hi-HT.sIx its.length 0 lo)).toArray:=by
 obtain⟨h1,h2,h3⟩:=xN lo hi its.toArray.size
 unfold slicePick
 rw[h1,h2,h3]
 simp only[sliceRange_one,pick_run,List.size_toArray]<;>rfl
noncomputable def z0O (K:PySem.W.Frag):V->Option Int->Option Int->Hp->VK->Prop:=λx lo hi H Q=>∃a xs,x=.ref a/\SqL K H a xs/\∀p,H p=none->Q (.ref p) (upd H p (.lst (kF xs lo hi)))
theorem JV:SlR X (z0O X.K):=by
 intro pins s σ H x v vl vu lo hi sl Q I rx hs pl pu h
 obtain⟨a,xs,rfl,hx,q⟩:=h
 cases rx
 obtain⟨its,r,ht,hz⟩:=I.list hx
 have hlen:=r.length
 refine⟨"list",_,slot_list_getitem.lookup,ht.isList.typeIs,?_⟩
 refine wpAny_getItem_list_slice ht.isList hs pl pu .none (by simp) ?_ (by rw[List.size_toArray]<;>omega)
 rw[ku,←hlen]
 refine⟨.ref s.heap.objs.size,_,I.laid (t':=s.toks) (o:=.lst (kF xs lo hi)) (λb ob q=>Heap.get?_push_of_some _ q) (Nat.le_refl _) ?_,rfl,q _ (I.hok.fresh (Nat.le_refl _))⟩
 exact⟨Nat.le_trans (vY xs lo hi) hz,_,0,(r.drop (HT.sIx xs.length 0 lo)).take (HT.sIx xs.length xs.length hi-HT.sIx xs.length 0 lo),Heap.get?_push_size _ rfl⟩
theorem qQ:Zn X (.builtin "len") (λxs H Q=>∃p ys,xs=[.ref p]/\(SqL X.K H p ys\/SqT X.K H p ys)/\Q (.int ys.length) H):=by
 intro pins s σ H xs us Q I r h
 obtain⟨p,ys,rfl,hq,q⟩:=h
 obtain⟨u,rfl,rx⟩:=vals1 r
 cases rx
 have hn:=jK
 rcases hq with hq|hq
 ·obtain⟨its,r',pl,hz⟩:=I.list hq
  have hlen:=r'.length
  exact Calls.call_len_list pl.isList (by simp only[List.size_toArray]<;>omega) ⟨.int ys.length,H,I.tok _,⟨s.toks+1,by rw[List.size_toArray,hlen]⟩,q⟩
 ·obtain⟨its,r',pl,hz⟩:=I.tuple hq
  have hlen:=r'.length
  exact len_tuple pl (by simp only[List.size_toArray]<;>omega) ⟨.int ys.length,H,I.tok _,⟨s.toks+1,by rw[List.size_toArray,hlen]⟩,q⟩
theorem xK:Zn X (.builtin "len") (λxs H Q=>∃z,xs=[.str z]/\z.length<=sizeLine/\Q (.int z.length) H):=by
 intro pins s σ H xs us Q I r h
 obtain⟨z,rfl,hz,q⟩:=h
 obtain⟨u,rfl,t,rfl⟩:=vals1 r
 have hn:=jK
 exact len_str (by omega) ⟨.int z.length,H,I.tok _,⟨_,rfl⟩,q⟩
theorem wC:Zn X (.type "tuple") (λxs H Q=>∃p ys,xs=[.ref p]/\((SqL X.K H p ys/\∀l,H l=none->Q (.ref l) (upd H l (.tup ys)))\/(SqT X.K H p ys/\Q (.ref p) H))):=by
 intro pins s σ H xs us Q I r h
 obtain⟨p,ys,rfl,h⟩:=h
 obtain⟨u,rfl,rx⟩:=vals1 r
 cases rx
 rcases h with⟨hq,q⟩|⟨hq,q⟩
 ·obtain⟨its,r',pl,hz⟩:=I.list hq
  have hlen:=r'.length
  refine call_tuple_list pl.isList (λh' kp=>?_) (by simp only[List.size_toArray]<;>omega)
  have I1:Inv X pins σ H {s with heap:=h'}:=I.kept (t':=s.toks) kp
  have I2:Inv X pins σ (upd H h'.objs.size (.tup ys)) {s with heap:=h'.push {cls:=.type "tuple",data:=.seq its.toArray}}:=
   I1.laid (t':=s.toks) (λb o e=>Heap.get?_push_of_some _ e) (Nat.le_refl _) (show ObjOk X.prog X.w _ _ _ (.tup ys) from ⟨hz,its,r',IsTup.new _ _⟩)
  exact⟨.ref h'.objs.size,_,I2,rfl,q _ (I1.hok.fresh (Nat.le_refl _))⟩
 ·obtain⟨its,r',pl,hz⟩:=I.tuple hq
  exact call_tuple_same pl ⟨.ref p,H,I,rfl,q⟩
noncomputable def tyV (K:PySem.W.Frag)(T:String)(x:V)(H:Hp):Prop:=match x with
 |.str _=>T="str"
 |.int _=>T="int"
 |.ref p=>(T="list"/\∃xs,SqL K H p xs)\/(T="tuple"/\∃o,K.lookup p=some o/\o.cls=.type "tuple"/\o.dict=none)\/
   (T="dict"/\((∃kvs,H p=some (.dK kvs))\/∃kvs,H p=some (.dT kvs)))\/(T="set"/\∃S n,H p=some (.set S n))
 |_=>False
theorem QQ{pins:List (Addr×Obj)}{σ:St}{H:Hp}{s:Shared}{T:String}{x:V}{v:Value}(I:Inv X pins σ H s)(r:RelV x v)(ty:tyV X.K T x H) :
  s.TypeIs v T/\∀a,v=.ref a->∃ob,s.heap.get? a=some ob/\ob.dict=none:=by
 cases x with
 |str z=>
  obtain⟨t,rfl⟩:=r
  cases (show T="str" from ty)
  exact⟨typeIs_str s z t,λ_ e=>nomatch e⟩
 |int i=>
  obtain⟨t,rfl⟩:=r
  cases (show T="int" from ty)
  exact⟨typeIs_int s i t,λ_ e=>nomatch e⟩
 |ref p=>
  cases r
  rcases ty with⟨rfl,xs,hq⟩|⟨rfl,o,hk,hc,hd⟩|⟨rfl,hk⟩|⟨rfl,S,n,hk⟩
  ·obtain⟨its,_,pl,_⟩:=I.list hq
   refine⟨pl.isList.typeIs,λa e=>?_⟩
   cases e
   obtain⟨o,n,e,c,hd,_⟩:=pl
   exact⟨o,e,hd⟩
  ·refine⟨⟨o,I.kIn p o hk,hc⟩,λa e=>?_⟩
   cases e
   exact⟨o,I.kIn _ o hk,hd⟩
  ·have z:∃o,s.heap.get? p=some o/\o.ExactDict:=by
    rcases hk with⟨kvs,hk⟩|⟨kvs,hk⟩
    ·obtain⟨_,_,_,_,o,_,_,e,ex,_⟩:=I.hok p _ hk
     exact⟨o,e,ex⟩
    ·obtain⟨_,_,_,_,o,_,_,e,ex,_⟩:=I.hok p _ hk
     exact⟨o,e,ex⟩
   obtain⟨o,e,ex⟩:=z
   refine⟨⟨o,e,ex.1⟩,λa e2=>?_⟩
   cases e2
   exact⟨o,e,ex.2.1⟩
  ·obtain⟨o,_,_,_,e,ex,_⟩:=I.hok p _ hk
   refine⟨⟨o,e,ex.1⟩,λa e2=>?_⟩
   cases e2
   exact⟨o,e,ex.2.1⟩
 |_=>exact False.elim ty
noncomputable def z13 (K:PySem.W.Frag)(T:String)(r:V->List V->Hp->VK->Prop)(to:TE):TE:=λσ H Q=>to σ H λx H1=>tyV K T x H1/\r x [] H1 Q
noncomputable def tBM (K:PySem.W.Frag)(T:String)(r:V->List V->Hp->VK->Prop)(to:TE)(t:TA):TE:=λσ H Q=>to σ H λx H1=>tyV K T x H1/\t σ H1 λxs H2=>r x xs H2 Q
variable {o e:Expr}{es:List Expr}{to:TE}{t:TA}{name:Str}{apos cpos:Pos}{T id:String}{r:V->List V->Hp->VK->Prop}
theorem XO (pa:PlainAttrs T) (slot:Slot T name id) (hty:typeOf (.builtin id)=pure (.type "method_descriptor")) (hm:MtR X id r) (ho:PE X o to)
  (hbase:attributeBase o name X.env (eval o X.env)=eval o X.env:=by rfl) (hline:(apos.endLine == cpos.line)=true:=by rfl):PE X (.Call (.Attribute o name apos) [] [] cpos) (z13 X.K T r to):=by
 intro pins s σ H Q I h
 refine wpAny_Call_method0_late hbase hline (thn (ho pins s σ H _ I h) λv s1 ⟨x,H1,I1,r1,ty,q1⟩=>?_)
 obtain⟨h1,h2⟩:=QQ I1 r1 ty
 exact⟨T,id,pa,slot,hty,h1,h2,Calls.callWith_builtin rfl (PySem.evalArgs_none (hm pins s1 σ H1 x [] v [] Q I1 r1 .nil q1))⟩
theorem Kr (pa:PlainAttrs T) (slot:Slot T name id) (hty:typeOf (.builtin id)=pure (.type "method_descriptor")) (hm:MtR X id r) (ho:PE X o to) (ha:PA X (e::es) t)
  (hbase:attributeBase o name X.env (eval o X.env)=eval o X.env:=by rfl)
  (hfew:((backTo cpos (starEach (e::es) X.env)).all (λx=>!x.1)&&(backToKw cpos (keywordEach [] X.env)).all (λx=>x.1.isSome)
   &&decide ((e::es).length+([]:List Keyword).length+(if ([]:List Keyword).isEmpty then 0 else 1)<30))=true:=by rfl)
  (hline:(apos.endLine == cpos.line)=true:=by rfl) (hs:starEach (e::es) X.env=(false,eval e X.env)::starEach es X.env:=by rfl) (hplain:(backTo cpos (starEach es X.env)).any (·.1)=false:=by rfl) :
  PE X (.Call (.Attribute o name apos) (e::es) [] cpos) (tBM X.K T r to t):=by
 intro pins s σ H Q I h
 refine wpAny_Call_method_late hbase hfew hline rfl (thn (ho pins s σ H _ I h) λv s1 ⟨x,H1,I1,r1,ty,q1⟩=>?_)
 obtain⟨h1,h2⟩:=QQ I1 r1 ty
 refine⟨T,id,pa,slot,hty,h1,h2,?_⟩
 have hA:=ha cpos pins s1 σ H1 _ I1 q1
 rw[hs] at hA ⊢
 refine Calls.callWith_builtin (by show (false || (backTo cpos (starEach es X.env)).any (·.1))=false;rw[hplain]<;>rfl) (Calls.evalArgs_plain ?_)
 exact thn hA λus s2 ⟨vs,H2,I2,r2,q2⟩=>hm pins s2 σ H2 x vs v us Q I2 r1 r2 q2
end
end L2
namespace L2
open PySem PySem.Spec PyProof.Rows
noncomputable def MtM (X:Cx)(id:String)(r:V->List V->Hp->VK->Prop):Prop:=
 ∀(pins:List (Addr×Obj)) (s:Shared) (σ:St) (H:Hp) (x:V) (xs:List V) (v:Value) (us:List Value) (Q:VK),Inv X pins σ H s->RelV x v->Vals xs us->r x xs H Q->
  wpAny (model X.prog X.w) X.A (call (.builtin id) (v::us)) (EP X pins σ Q) X.xe s
theorem Vals.one:∀{x:V} {us:List Value},Vals [x] us->∃u,us=[u]/\RelV x u
 |_,_,.cons r .nil=>⟨_,rfl,r⟩
section
variable {X:Cx}{pins:List (Addr×Obj)}{σ:St}{H:Hp}{s:Shared}{l b:Addr}{xs ys zs:List V}
theorem Inv.lset{its its':List Value}{n:Nat}{f:Array Value->Array Value}{t':Nat}(I:Inv X pins σ H s)(hH:H l=some (.lst xs))
  (e:s.heap.get? l=some {cls:=.type "list",data:=.seq its.toArray n}) (hf:f its.toArray=its'.toArray) (hv:Vals ys its') (hz:ys.length<=sizeLine) :
  Inv X pins σ (upd H l (.lst ys)) {s with heap:=s.heap.update l (Obj.mapSeq f),toks:=t'}:=by
 have q:=PySem.IsL.update e f
 rw[hf] at q
 refine I.write (x:=l) (e:=l) (by rw[hH];exact trivial) (.inl rfl) (λb' u hb hu=>(Heap.get?_update_other s.heap (Obj.mapSeq f) (Ne.symm hb)).trans hu) ⟨_,q⟩ ?_
 exact⟨hz,its',_,hv,q⟩
theorem Inv.lnew{its:List Value}{t':Nat}(I:Inv X pins σ H s)(hv:Vals ys its)(hz:ys.length<=sizeLine) :
  Inv X pins σ (upd H s.heap.objs.size (.lst ys)) {s with heap:=s.heap.push {cls:=.type "list",data:=.seq its.toArray},toks:=t'}:=
 I.laid (λ_ _ q=>Heap.get?_push_of_some _ q) (Nat.le_refl _) ⟨hz,its,0,hv,Heap.get?_push_size _ rfl⟩
theorem Inv.fresh(I:Inv X pins σ H s):H s.heap.objs.size=none:=I.hok.fresh (Nat.le_refl _)
theorem Inv.lstM(I:Inv X pins σ H s)(hH:H l=some (.lst xs)):xs.length<=sizeLine/\∃(its:List Value) (n:Nat),Vals xs its/\xs.length=its.length/\s.heap.get? l=some {cls:=.type "list",data:=.seq its.toArray n}:=by
 obtain⟨z,its,n,r,e⟩:=I.hok l _ hH
 exact⟨z,its,n,r,r.length,e⟩
end
section
variable {X:Cx}
noncomputable def JM:V->List V->Hp->VK->Prop:=λx vs H Q=>∃l xs y,x=.ref l/\vs=[y]/\H l=some (.lst xs)/\xs.length<sizeLine/\Q .non (upd H l (.lst (xs++[y])))
theorem ZQ:MtM X "list.append" JM:=by
 intro pins s σ H x vs v us Q I rx rv h
 obtain⟨l,xs,y,rfl,rfl,hH,hz,q⟩:=h
 cases rx
 obtain⟨u,rfl,ru⟩:=rv.one
 obtain⟨z,its,n,r,hl,e⟩:=I.lstM hH
 refine call_meets F.slot_list_append ⟨_,e,rfl⟩ F.entry_list_append (F.args_list_append_2 _ _) (PySem.list_append l its.toArray n u (by rw[List.size_toArray];omega)) ⟨e,?_⟩
 refine⟨.non,_,I.lset (its':=its++[u]) hH e (by simp) (r.append (.cons ru .nil)) ?_,rfl,q⟩
 rw[List.length_append,List.length_singleton]
 omega
end
end L2
namespace Att
open PySem PySem.W PySem.Calls PyProof.Rows
theorem j9{P:Params}{h:Heap}:∀(ns:List Int) (vs:List Value),WellAll P h vs (ns.map WData.int)->IntsAre vs ns:=by
 intro ns
 induction ns with
 |nil=>
  intro vs w
  rw[List.map_nil] at w
  cases w
  exact .nil
 |cons n ns ih=>
  intro vs w
  rw[List.map_cons] at w
  cases w with
  |cons a b=>
   cases a
   exact .cons _ _ (ih _ b)
theorem Qr{l:OpenLaw}{n:Nat}(hn:l.most=some n){P:Params}{h:Heap}{args:List WData}{vals:List Value}
  (hpre:l.row.toRowW.claim.pre args=true) (hwl:WellAll P h vals args) :
  ∃a vs ns,vals=[Value.ref a]/\args=[WData.list (ns.map WData.int)]/\h.get? a=some {cls:=.type "list",data:=.seq vs.toArray}/\IntsAre vs ns/\ns.length<=n:=by
 have hsh:WShape.hasAll [] args [.list .int]=true:=(pre_splitW hpre).1
 have hc:l.pre.holds [] {args:=args}=true:=(pre_splitW hpre).2
 obtain⟨d,r,rfl,h1,h2⟩:=hasAllW_cons hsh
 obtain rfl:=hasAllW_nil h2
 obtain⟨xs,rfl,h3⟩:=hasW_list h1
 obtain⟨ns,rfl⟩:=items_int h3
 have hlen:ns.length<=n:=by
  unfold OpenLaw.pre at hc
  have h4:(WTm.not (.lt (.lit (.int (n:Int))) (.len (.arg 0)))).holds [] {args:=[.list (ns.map .int)]}=true:=by
   have h4:=(holds_andW hc).1
   rw[hn] at h4
   exact h4
  have h5:=condW_of h4 (w_not (w_lt w_lit (w_len_list (w_arg rfl))))
  rw[List.length_map] at h5
  refine Nat.le_of_not_lt λq=>?_
  have q':(n:Int)<((ns.length:Nat):Int):=by omega
  first
   |(rw[decide_eq_true q'] at h5;exact absurd h5 (by decide))
   |(simp at h5;omega)
 cases hwl with
 |cons w1 w2=>
  cases w2
  cases w1 with
  |list ho hall=>exact⟨_,_,ns,rfl,rfl,ho,j9 ns _ hall,hlen⟩
theorem Qo(l:OpenLaw)(args:List WData):l.row.toRowW.claim.post args (.bool true) args=true:=
 postW_of (r:=l.row.toRowW) (X:=(true == true))
  (show WShape.has [] (.bool true) .bool=true by first|rfl|decide|simp[WShape.has,WShape.arms,WShape.armsAll])
  (show (WTm.eq .res (.lit (.bool true))).value [] {args:=args,res:=some (.bool true),after:=args}=some (.bool (true == true)) from w_eq_bool (w_res rfl) w_lit) rfl
theorem attach_call{l:OpenLaw}{n:Nat}{q:Program}{loose:List Str}{XP:(Str->Option Value)->Heap->Prop}{YP:World->Heap->Prop}{d:DefRec}
  (hn:l.most=some n) (hdf:d.params.defaults=[])
  (call:∀(w:World) (s₀ s₁:Shared) (mg mb:Str->Option Value) (fa:Addr) (o:Obj) (pm cd doc:Value) (a:Addr) (vs:List Value) (ns:List Int),
   Ground q loose [] XP w s₀ mg mb s₁.heap->YP w s₁.heap->
   s₁.heap.get? fa=some o->o.data=.func (docDef d.name d.params d.body d.scope pm cd doc)->s₁.heap.CodeRec cd d.name->mg d.name=some (.ref fa)->
   s₁.heap.get? a=some {cls:=.type "list",data:=.seq vs.toArray}->IntsAre vs ns->ns.length<=n->s₁.gens=#[]->
   codeAny (model l.prog w) callerA (.call (.ref fa) ⟨[.ref a],[]⟩) (λr s'=>r=.ok (.ret (.bool true))/\OldK s₁.heap s'.heap/\s'.os=s₁.os/\AllBare s'.gens) s₁) :
  WalkO q loose XP YP l.row.toRowW d [] (λf vs=>PySem.call f vs):=by
 intro w s₀ s₁ mg mb G Y fa o pm cd doc dV kV ho hd hcd hD hmg hg args vals as hpre hlay hrd hwl hlo
 obtain rfl:dV=.none:=Dflts.none hD hdf
 obtain rfl:kV=.none:=Dflts.noKw hD
 obtain⟨a,vs,ns,rfl,rfl,hobj,hints,hlen⟩:=Qr hn hpre hwl
 refine enter_call (codeAny_mono (call w s₀ s₁ mg mb fa o pm cd doc a vs ns G Y ho (fd_plain hd) hcd hmg hobj hints hlen hg) λr s' hq=>?_)
 obtain⟨rfl,h2,h3,h4⟩:=hq
 exact⟨.inl ⟨.bool true,.bool true,[],rfl,λ_=>rfl,.bool true,Qo l _,λ_=>⟨List.Pairwise.nil,λ_ hm=>(nomatch hm)⟩⟩,h2,h3,h4⟩
section
variable {prog:Program}{w:World}{A:Around}{E:Value->Shared->Prop}{s:Shared}{K:Frag}
noncomputable def ledger(h:Heap)(L d:Addr):List (Addr×Obj):=(List.range h.objs.size).filterMap λa=>if a=L\/a=d then none else (h.get? a).map λo=>(a,o)
end
end Att
namespace L2
open PySem PySem.Spec PyProof.Rows
theorem kJ:∀{vs:List Value} {ns:List Int},IntsAre vs ns->Vals (ns.map V.int) vs
 |_,_,.nil=>.nil
 |_,_,.cons n t h=>.cons ⟨t,rfl⟩ (kJ h)
noncomputable def U0 (H:Hp):Prop:=∀b,H b=none\/∃o xs,H b=some (.frz o (.lst xs))
theorem VJ{P:Program}{w:World}{K:PySem.W.Frag}{mg mb:Str->Option Value}{CX:CXT}{k:Nat}{fa a:Addr}{fd:FuncData}{x:Str}{sp:Sp}{s₁:Shared}{vs:List Value}{ns:List Int}
  (KX:K.In s₁.heap) (hns:s₁.heap.Ns mainGlobals mg) (hb:s₁.heap.Ns builtinsNs mb) (hbb:∀x:Str,x≠"__name__"->mb x=bootBuiltins x) (hlim:s₁.heap.NoLimit) (hg:s₁.gens=#[])
  (ha:s₁.heap.get? a=some {cls:=.type "list",data:=.seq vs.toArray}) (hi:IntsAre vs ns) (hl:ns.length<=sizeLine) (hr:Room k callerA)
  (F:∀base:Heap,K.In base->base.Ns mainGlobals mg->FnOk P w K mg base CX k fa fd [x] sp) (hbind:∀(s:Shared) (u:Value),BindsTo s fd ⟨[u],[]⟩ [(x,u)])
  (hsp:∀H:Hp,U0 H->SqL K H a (ns.map V.int)->sp [.ref a] H (λv _=>v=.bl true) λ_ _ _=>False)
  (hCX:∀H e s',CX [] H s₁ (λ_ _ _=>False) e s'->False) :
  codeAny (model P w) callerA (.call (.ref fa) ⟨[.ref a],[]⟩) (λr s'=>r=.ok (.ret (.bool true))/\OldK s₁.heap s'.heap/\s'.os=s₁.os/\AllBare s'.gens) s₁:=by
 have rv:=kJ hi
 have lenV:=hi.length
 have core:∀H:Hp,U0 H->SqL K H a (ns.map V.int)->HOk P w H s₁.heap->(∀b,H b≠none->b=a)->(H a≠none->K.lookup a=none)->
   codeAny (model P w) callerA (.call (.ref fa) ⟨[.ref a],[]⟩) (λr s'=>r=.ok (.ret (.bool true))/\OldK s₁.heap s'.heap/\s'.os=s₁.os/\AllBare s'.gens) s₁:=by
  intro H hO hS hok hA hK
  have qA:∀{b:Addr} {o:Obj},s₁.heap.get? b=some o->H b=none->(xE s₁.heap H).get? b=some o:=λe n=>WZ e n
  have noA:∀{b:Addr} {o:Obj} {es:Array DictEntry} {ep:Nat},s₁.heap.get? b=some o->o.data=.dict es ep->H b=none:=λ{b o es ep} e d=>by
   cases q:H b with
   |none=>rfl
   |some u=>
    have e':b=a:=hA b (by rw[q];simp)
    subst e'
    rw[ha] at e;cases e
    have d':Data.seq vs.toArray _=Data.dict es ep:=d
    cases d'
  have nsK:∀{b:Addr} {m:Str->Option Value},s₁.heap.Ns b m->(xE s₁.heap H).Ns b m:=λ{b m} ⟨o,es,ep,e,d,r⟩=>⟨o,es,ep,qA e (noA e d),d,r⟩
  have hKb:K.In (xE s₁.heap H):=λb o e=>qA (KX b o e) (by
   cases q:H b with
   |none=>rfl
   |some u=>
    have e':b=a:=hA b (by rw[q];simp)
    subst e'
    rw[hK (by rw[q];simp)] at e;cases e)
  have hM:Mod K mg (xE s₁.heap H):=⟨hKb,nsK hns,⟨mb,nsK hb,hbb⟩,let ⟨mc,h1,h2⟩:=hlim;⟨mc,nsK h1,h2⟩⟩
  have e0:Env0 P w K mg (xE s₁.heap H) callerA [] s₁ H:=⟨rfl,hM,λb o e=>JR e,Nat.le_of_eq (ZW _ _),trivial,λb hb=>absurd (show b∈([]:List Addr) from hb) (by simp),hok,.of_eq hg⟩
  refine codeAny_mono ((F _ hKb (nsK hns)).run callerA [] s₁ H ⟨[.ref a],[]⟩ [.ref a] [.ref a] _ _ hr e0 (hbind s₁ (.ref a)) (.cons rfl .nil) (hsp H hO hS)) λr s' h=>?_
  cases r with
  |error e=>exact (hCX H e s' h).elim
  |ok fl=>
   cases fl with
   |next=>exact False.elim h
   |brk=>exact False.elim h
   |cont=>exact False.elim h
   |ret u=>
    obtain⟨v,H',os,bare,un,hok',r',q⟩:=h
    have q':v=.bl true:=q
    subst q'
    obtain rfl:u=Value.bool true:=r'
    refine⟨rfl,OldK.of_keep λb o e=>?_,os,bare⟩
    cases q:H b with
    |none=>exact un.keep b o e q (by intro z;exact absurd (show b∈([]:List Addr) from z) (by simp)) (by simp)
    |some u=>
     rcases hO b with z|⟨ob,xs,z⟩
     ·rw[q] at z;cases z
     ·have z2:=un.frzs b ob _ z
      obtain⟨e1,_⟩:=hok b _ z
      obtain⟨e2,_⟩:=hok' b _ z2
      rw[e] at e1;cases e1
      exact e2
 cases hk:K.lookup a with
 |some o=>
  have e:=KX a o hk
  rw[ha] at e
  cases e
  refine core (λ_=>none) (λ_=>.inl rfl) (.inr ⟨_,vs.toArray,_,hk,rfl,rfl,rfl,by rw[List.size_toArray,lenV];exact hl,by simpa using rv⟩) (λb u z=>by have z':(none:Option HO)=some u:=z;cases z') (λb z=>absurd rfl z) λz=>absurd rfl z
 |none=>
  refine core (λb=>if b=a then some (.frz {cls:=.type "list",data:=.seq vs.toArray} (.lst (ns.map V.int))) else none) (λb=>?_) (.inl (.inr ⟨{cls:=.type "list",data:=.seq vs.toArray},if_pos rfl⟩)) (λb u z=>?_) (λb z=>?_) λ_=>hk
  ·by_cases hb:b=a
   ·exact .inr ⟨_,_,if_pos hb⟩
   ·exact .inl (if_neg hb)
  ·by_cases hb:b=a
   ·have z':=(if_pos hb).symm.trans z
    cases z'
    subst hb
    exact⟨ha,by rw[List.length_map];exact hl,vs,_,rv,ha⟩
   ·have z':=(if_neg hb).symm.trans z
    cases z'
  ·by_cases hb:b=a
   ·exact hb
   ·exact absurd (if_neg hb) z
end L2
namespace L2
open PySem PySem.Spec PyProof.Rows
noncomputable abbrev KOf{K:PySem.W.Frag}{h:Heap}(_:K.In h):PySem.W.Frag:=K
theorem walk_of{l:PySem.W.OpenLaw}{n k:Nat}{q:Program}{loose:List Str}{XP:(Str->Option Value)->Heap->Prop}{YP:World->Heap->Prop}{d:DefRec}{K:Params->PySem.W.Frag}{CX:World->CXT}{sp:World->Sp}{x:Str}
  (hn:l.most=some n) (hn2:n<=sizeLine) (hdf:d.params.defaults=[]) (hr:Room k callerA)
  (hY:∀(w:World) (h:Heap),YP w h->(K w.params).In h)
  (F:∀(w:World) (mg:Str->Option Value) (fa:Addr) (h:Heap),(K w.params).In h->h.Ns mainGlobals mg->mg d.name=some (.ref fa)->
   ∃fd:FuncData,(∀(s:Shared) (u:Value),BindsTo s fd ⟨[u],[]⟩ [(x,u)])/\
    ∀base:Heap,(K w.params).In base->base.Ns mainGlobals mg->FnOk l.prog w (K w.params) mg base (CX w) k fa fd [x] (sp w))
  (hsp:∀(w:World) (H:Hp) (a:Addr) (ns:List Int),ns.length<=n->U0 H->SqL (K w.params) H a (ns.map V.int)->sp w [.ref a] H (λv _=>v=.bl true) λ_ _ _=>False)
  (hCX:∀(w:World) (H:Hp) (s:Shared) (e:Value) (s':Shared),CX w [] H s (λ_ _ _=>False) e s'->False) :
  PySem.W.WalkO q loose XP YP l.row.toRowW d [] (λf vs=>PySem.call f vs):=by
 refine Att.attach_call hn hdf λw s₀ s₁ mg mb fa o pm cd doc a vs ns G Y ho hd hcd hmg hobj hints hlen hg=>?_
 have KX:=hY w _ Y
 obtain⟨fd,hb,hF⟩:=F w mg fa _ KX G.T.g hmg
 exact VJ KX G.T.g G.T.b G.T.builtins G.T.nolimit hg hobj hints (Nat.le_trans hlen hn2) hr hF hb (λH hO hS=>hsp w H a ns hlen hO hS) λH e s'=>hCX w H s₁ e s'
end L2
namespace L2
open PySem PySem.Spec PyProof.Rows
noncomputable def inClass(s:Stmt)(j:Nat):Stmt:=match s with
 |.ClassDef _ _ _ body _ _ _ _ _ _ _=>body.getD j (.Pass ⟨0,0,0,0⟩)
 |_=>.Pass ⟨0,0,0,0⟩
noncomputable def qg(s:Stmt):Arguments:=match s with
 |.FunctionDef _ a _ _ _ _ _ _ _ _=>a
 |_=>{posonlyargs:=[],args:=[],vararg:=none,kwonlyargs:=[],kw_defaults:=[],kwarg:=none,defaults:=[]}
noncomputable def zd(s:Stmt):List Stmt:=match s with
 |.FunctionDef _ _ b _ _ _ _ _ _ _=>b
 |_=>[]
noncomputable def zI(s:Stmt):Scope:=match s with
 |.FunctionDef _ _ _ _ _ _ sc _ _ _=>sc
 |_=>{kind:=.function,names:=[],isGenerator:=false,isCoroutine:=false}
structure Fun(K:PySem.W.Frag)(x qual:Str)(st:Stmt)(f:Addr)(fd:FuncData):Prop where
 ex:∃(oc:Value) (od:Option Addr) (kV doc pm:Value) (an:Option Addr) (cdv ct:Value) (osl:Array (Option Value)),
  fd=PySem.W.fnOf x qual (qg st) (zd st) (zI st) .none kV doc pm an cdv ct/\K.lookup f=some ⟨oc,od,.func fd,osl⟩/\PySem.W.codeIn K cdv qual=true
 kp:PySem.W.keepIn K (.ref f)=true
section
variable {P:Program}{w:World}{K:PySem.W.Frag}{mg:Str->Option Value}{base:Heap}
theorem Fun.binds{x qual:Str}{st:Stmt}{f:Addr}{fd:FuncData}{ps:List Str}(F:Fun K x qual st f fd)
  (h:∀(kV doc pm:Value) (an:Option Addr) (cdv ct:Value) (us:List Value),us.length=ps.length->bindArgs (PySem.W.fnOf x qual (qg st) (zd st) (zI st) .none kV doc pm an cdv ct) ⟨us,[]⟩=pure (ps.zip us)):Binds K fd ps []:=by
 obtain⟨oc,od,kV,doc,pm,an,cdv,ct,osl,rfl,lk,hcd⟩:=F.ex
 exact .all (h kV doc pm an cdv ct)
theorem yW{x qual:Str}{st:Stmt}{f:Addr}{oc:Value}{od an:Option Addr}{osl:Array (Option Value)}{kV doc pm cdv ct:Value}(l:K.lookup f=some ⟨oc,od,.func (PySem.W.fnOf x qual (qg st) (zd st) (zI st) .none kV doc pm an cdv ct),osl⟩)
  (c:PySem.W.codeIn K cdv qual=true) (k:PySem.W.keepIn K (.ref f)=true):Fun K x qual st f (PySem.W.fnOf x qual (qg st) (zd st) (zI st) .none kV doc pm an cdv ct):=⟨⟨oc,od,kV,doc,pm,an,cdv,ct,osl,rfl,l,c⟩,k⟩
end
noncomputable def wA (H H':Hp):Prop:=∀b o,H b=some o->H' b=some o
end L2
end
namespace NH
open PySem
noncomputable def z1d (h:Heap)(x:Addr)(cls:Value)(d:Option Addr):Prop:=∃oe vs a0,h.get? x=some oe/\(oe.cls=cls/\oe.dict=d)/\oe.data=.fields vs/\vs[0]?=some a0/\vs[1]?=some .none
inductive XTr(h:Heap)(x T:Addr)(cls:Value)(d:Option Addr)(fl:Value):Prop where
 |mk (oe:Obj) (vs:Array Value) (a0:Value) (oT:Obj) (ts:Array Value) (h1:h.get? x=some oe) (h2:oe.cls=cls/\oe.dict=d) (h3:oe.data=.fields vs) (h4:vs[0]?=some a0) (h5:vs[1]?=some (.ref T)) (h6:T≠x) (h7:h.get? T=some oT) (h8:oT.data=.fields ts) (h9:ts[3]?=some fl)
noncomputable def z0a (h:Heap)(x:Addr)(cls:Value)(d:Option Addr):Option Addr->Value->Prop
 |none,fl=>z1d h x cls d/\fl=.none
 |some T,fl=>XTr h x T cls d fl
structure XMove(fs:List Addr)(x:Addr)(T T':Option Addr)(h h':Heap):Prop where
 keep:∀b o,h.get? b=some o->b∉fs->b≠x->b∉T.toList->h'.get? b=some o
 slot:∀b o,h.get? b=some o->b∈fs->b≠x->b∉T.toList->∃sl,h'.get? b=some {o with slots:=sl}
 newT:∀t∈T'.toList,t∈T.toList\/h.objs.size<=t
theorem XMove.refl(fs:List Addr)(x:Addr)(T:Option Addr)(h:Heap):XMove fs x T T h h:=⟨λ_ _ e _ _ _=>e,λ_ o e _ _ _=>⟨o.slots,e⟩,λ_ ht=>.inl ht⟩
theorem kc(o:Obj)(f:Array Value->Array Value):(Obj.mapFields f o).dict=o.dict:=by
 obtain⟨c,d,dt,sl⟩:=o
 cases dt<;>rfl
section
variable {M:Model}{A:Around}{E:Value->Shared->Prop}{s:Shared}
theorem WK{base:Heap}{env e0:Env}{outer:List Env}{L:Addr}{Q:Value->Shared->Prop}(hfr:A.frames=some (e0::outer))(hl:s.heap.FunFrames base (e0::outer))
  (hf:env.frame=some L) (h0:e0.frame=some L) (h:∀h',Heap.SlotsOnly ((e0::outer).filterMap (·.frame)) s.heap h'->Q (.ref L) {s with heap:=h'}):wpAny M A (frameOf env) Q E s:=by
 unfold frameOf
 refine wpAny_bind (wpAny_frameEnvs hfr ?_)
 have hw:((e0::outer).dropWhile λy=>y.frame != env.frame)=e0::outer:=by simp[List.dropWhile,hf,h0]
 rw[hw]
 unfold frameObject
 refine wpAny_bind (wpAny_bind (wpAny_readyFrames_fun hl λh1 q1=>wpAny_pure ?_))
 rw[h0]
 exact wpAny_pure (h h1 q1)
theorem jP{base:Heap}{env e0:Env}{outer:List Env}{L x:Addr}{cls head:Value}{d T:Option Addr}{had:Bool}{oe:Obj}{vs:Array Value}{a0:Value}{Q:Unit->Shared->Prop}
  (hfr:A.frames=some (e0::outer)) (hl:s.heap.FunFrames base (e0::outer)) (hf:env.frame=some L) (h0:e0.frame=some L)
  (ho:s.heap.get? x=some oe) (hc:oe.cls=cls/\oe.dict=d) (hd:oe.data=.fields vs) (hv0:vs[0]?=some a0) (hsz:1<vs.size)
  (h:∀h' t,XTr h' x t cls d (rawInt L)->XMove ((e0::outer).filterMap (·.frame)) x T (some t) s.heap h'->s.heap.objs.size<=t->Q () {s with heap:=h'}) :
  wpAny M A (do let a ←frameOf env;let pl ←entryPlaceOf L had;let b ←EntryCells.newEntry head a .none (rawInt L) .none pl;setField (.ref x) 1 b) Q E s:=by
 have nin:x∉(e0::outer).filterMap (·.frame):=λhm=>by
  obtain⟨_,o,ho',nf⟩:=hl.mem hm
  rw[ho] at ho';cases ho';exact nf vs hd
 refine wpAny_bind (WK hfr hl hf h0 λh1 q1=>?_)
 refine wpAny_bind (wpAny_entryPlaceOf λpl hpl=>?_)
 unfold EntryCells.newEntry newFields
 refine wpAny_bind (wpAny_newObj_type ?_ (hpl.sizeOk5 _ _ _ _ _))
 have e1:h1.get? x=some oe:=(q1.2.1 x nin).trans ho
 generalize hob:({cls:=.type "traceback",dict:=none,data:=.fields ([head,.ref L,.none,rawInt L,.none]++(if pl.isEmpty then List.replicate 6 Value.none else pl)).toArray}:Obj)=ob
 have e2:=Heap.get?_push_of_some (h:=h1) ob e1
 have hdata:ob.data=.fields ([head,.ref L,.none,rawInt L,.none]++(if pl.isEmpty then List.replicate 6 Value.none else pl)).toArray:=by rw[←hob]
 have hfree:ob.isFreed=false:=by rw[←hob];rfl
 refine wpAny_setField e2 hd hsz ?_
 have tx:h1.objs.size≠x:=Nat.ne_of_gt (Heap.lt_size e1)
 have d3:=Obj.data_mapFields hd (·.setIfInBounds 1 (Value.ref h1.objs.size))
 have e3:=Heap.get?_update_self (Obj.mapFields (·.setIfInBounds 1 (Value.ref h1.objs.size))) e2 (Obj.isFreed_of_fields d3)
 have other:∀b o,b≠x->h1.get? b=some o->((h1.push ob).update x (Obj.mapFields (·.setIfInBounds 1 (Value.ref h1.objs.size)))).get? b=some o:=λb o hb e=>by
  rw[Heap.get?_update_other _ _ (Ne.symm hb)];exact Heap.get?_push_of_some _ e
 refine h _ h1.objs.size ⟨_,_,a0,ob,_,e3,⟨(Obj.cls_mapFields _ _).trans hc.1,(kc _ _).trans hc.2⟩,d3,by rw[Array.getElem?_setIfInBounds_ne (by decide)];exact hv0,by simp[hsz],tx,?_,hdata,?_⟩ ⟨λb o e nb nx _=>?_,λb o e _ nx _=>?_,λt ht=>.inr ?_⟩ (Nat.le_of_eq q1.1.symm)
 ·rw[Heap.get?_update_other _ _ (Ne.symm tx)];exact Heap.get?_push_size _ hfree
 ·first|(simp;done)|(rcases hpl with rfl|⟨_,_,_,_,_,_,_,rfl⟩<;>simp)
 ·exact other b o nx ((q1.2.1 b nb).trans e)
 ·obtain⟨sl,e'⟩:=q1.2.2 b o e
  exact⟨sl,other b _ nx e'⟩
 ·have:t=h1.objs.size:=by simpa using ht
  rw[this];exact Nat.le_of_eq q1.1.symm
theorem Wh{base:Heap}{env e0:Env}{outer:List Env}{L x:Addr}{cls:Value}{d T:Option Addr}{fl:Value}{Q:Unit->Shared->Prop}
  (hfr:A.frames=some (e0::outer)) (hl:s.heap.FunFrames base (e0::outer)) (hf:env.frame=some L) (h0:e0.frame=some L) (hx:z0a s.heap x cls d T fl) (hfl:fl=.none\/fl=rawInt L)
  (h:∀h' t,XTr h' x t cls d (rawInt L)->XMove ((e0::outer).filterMap (·.frame)) x T (some t) s.heap h'->Q () {s with heap:=h'}):wpAny M A (noteFrame (.ref x) env) Q E s:=by
 unfold noteFrame
 simp only[hf]
 cases T with
 |none=>
  obtain⟨⟨oe,vs,a0,ho,hc,hd,hv0,hv1⟩,_⟩:=hx
  refine wpAny_bind (wpAny_field ho hd hv1 ?_)
  rw[if_neg (by decide)]
  exact jP (T:=none) hfr hl hf h0 ho hc hd hv0 (Array.getElem?_eq_some_iff.mp hv1).1 λh' t a b _=>h h' t a b
 |some T=>
  obtain⟨oe,vs,a0,oT,ts,ho,hc,hd,hv0,hv1,hT,hoT,hdT,h3⟩:=hx
  refine wpAny_bind (wpAny_field ho hd hv1 ?_)
  rw[if_pos (show (Value.ref T != Value.none)=true from by simp)]
  refine wpAny_bind (wpAny_field hoT hdT h3 ?_)
  by_cases hq:fl=rawInt L
  ·subst hq
   rw[if_pos (show (rawInt L == rawInt L)=true from by simp)]
   exact wpAny_pure (h s.heap T ⟨oe,vs,a0,oT,ts,ho,hc,hd,hv0,hv1,hT,hoT,hdT,h3⟩ (XMove.refl _ _ _ _))
  ·obtain rfl:fl=.none:=hfl.resolve_right hq
   rw[if_neg (show ¬((Value.none == rawInt L)=true) from by simp[rawInt])]
   refine wpAny_bind (wpAny_setField hoT hdT (Array.getElem?_eq_some_iff.mp h3).1 ?_)
   have oth:∀b,b≠T->(s.heap.update T (Obj.mapFields (·.setIfInBounds 3 Value.none))).get? b=s.heap.get? b:=λb hb=>Heap.get?_update_other _ _ (Ne.symm hb)
   have fr:∀b∈(e0::outer).filterMap (·.frame),b≠T:=λb hb z=>by
    obtain⟨_,o,ho',nf⟩:=hl.mem hb
    rw[z,hoT] at ho';cases ho';exact nf ts hdT
   refine jP (T:=some T) (s:={s with heap:=s.heap.update T (Obj.mapFields (·.setIfInBounds 3 Value.none))}) (base:=base) hfr (hl.of_keeps λb o e nf=>⟨o,(oth b λz=>?_).trans e,rfl⟩) hf h0 ((oth x (Ne.symm hT)).trans ho) hc hd hv0 (Array.getElem?_eq_some_iff.mp hv1).1 λh' t a b c=>h h' t a ⟨?_,?_,?_⟩
   ·rw[z,hoT] at e;cases e;exact nf ts hdT
   ·exact λd o e n1 n2 n3=>b.keep d o ((oth d λz=>n3 (by simp[z])).trans e) n1 n2 n3
   ·exact λd o e n1 n2 n3=>b.slot d o ((oth d λz=>n3 (by simp[z])).trans e) n1 n2 n3
   ·intro t' ht'
    rcases b.newT t' ht' with z|z
    ·exact .inl z
    ·refine .inr (Nat.le_trans (Nat.le_of_eq ?_) z)
     exact (Heap.size_after_update ..).symm
theorem ug{x T:Addr}{cls fl:Value}{d fr:Option Addr}{fs:List Addr}{Q:Unit->Shared->Prop}(hx:XTr s.heap x T cls d fl)
  (h:∀h',XTr h' x T cls d (fr.elim .none λf=>rawInt f)->XMove fs x (some T) (some T) s.heap h'->Q () {s with heap:=h'}):wpAny M A (setFlight (.ref x) fr) Q E s:=by
 obtain⟨oe,vs,a0,oT,ts,ho,hc,hd,hv0,hv1,hT,hoT,hdT,h3⟩:=hx
 have sz:3<ts.size:=(Array.getElem?_eq_some_iff.mp h3).1
 unfold setFlight
 refine wpAny_bind (wpAny_field ho hd hv1 ?_)
 rw[if_pos (show (Value.ref T != Value.none)=true from by simp)]
 refine wpAny_setField hoT hdT sz ?_
 have oth:∀b,b≠T->(s.heap.update T (Obj.mapFields (·.setIfInBounds 3 (fr.elim .none λf=>rawInt f)))).get? b=s.heap.get? b:=λb hb=>Heap.get?_update_other _ _ (Ne.symm hb)
 have dT:=Obj.data_mapFields hdT (·.setIfInBounds 3 (fr.elim Value.none λf=>rawInt f))
 exact h _ ⟨oe,vs,a0,_,_,(oth x (Ne.symm hT)).trans ho,hc,hd,hv0,hv1,hT,Heap.get?_update_self _ hoT (Obj.isFreed_of_fields dT),dT,by simp[sz]⟩
  ⟨λb o e _ _ n=>(oth b λz=>n (by simp[z])).trans e,λb o e _ _ n=>⟨o.slots,(oth b λz=>n (by simp[z])).trans e⟩,λt ht=>.inl ht⟩
end
end NH
namespace NH
open PySem PySem.Spec PyProof.Rows L2
noncomputable abbrev St:=L2.St
theorem x4{P:Program}{w:World}{H:Hp}{h:Heap}{a:Addr}{o:HO}(x:ObjOk P w H h a o):∃ob,h.get? a=some ob:=by
 cases o with
 |lst xs=>obtain⟨_,_,_,_,e⟩:=x;exact⟨_,e⟩
 |tup xs=>obtain⟨_,_,_,ob,e,_⟩:=x;exact⟨ob,e⟩
 |dK kvs=>obtain⟨_,_,_,_,o,_,_,e,_⟩:=x;exact⟨o,e⟩
 |dT kvs=>obtain⟨_,_,_,_,o,_,_,e,_⟩:=x;exact⟨o,e⟩
 |set S n=>obtain⟨o,_,_,_,e,_⟩:=x;exact⟨o,e⟩
 |ins C dx fs=>obtain⟨_,_,_,e,_⟩:=x;exact⟨_,e⟩
 |own y=>obtain⟨o,e⟩:=x;exact⟨o,e⟩
 |xd fs=>obtain⟨_,⟨o,_,_,e,_⟩,_⟩:=x;exact⟨o,e⟩
 |rng lo hi=>obtain⟨_,_,_,e⟩:=x;exact⟨_,e⟩
 |frz ob u=>obtain⟨e,_⟩:=x;exact⟨_,e⟩
 |tbl ps=>exact⟨_,(show h.get? a=some _ from x)⟩
 |met f y=>exact⟨_,(show h.get? a=some _ from x)⟩
 |ext φ=>obtain⟨_,⟨o,e⟩,_⟩:=x;exact⟨o,e⟩
structure XOk(X:Cx)(H:Hp)(b:Addr):Prop where
 free:H b=none
 loc:b≠X.env.locals
 nfs:b∉X.fs
 new:b∈X.ex\/X.s₀.heap.get? b=none
 cel:∀x c,X.env.cells.lookup x=some c->c≠b
 pin:∀p∈X.pn,p.1≠b
section
variable {X:Cx}{pins:List (Addr×Obj)}{σ:St}{H H':Hp}{s:Shared}{h':Heap}
theorem y3(I:Inv X pins σ H s){b:Addr}(e:s.heap.get? b=none):H b=none:=by
 cases q:H b with
 |none=>rfl
 |some o=>
  obtain⟨ob,z⟩:=x4 (I.hok b o q)
  rw[e] at z;cases z
theorem wg(I:Inv X pins σ H s){b:Addr}(e:s.heap.get? b=none):XOk X H b:=by
 refine⟨y3 I e,λz=>?_,λz=>?_,?_,λx c q z=>?_,λp hp z=>?_⟩
 ·obtain⟨m,⟨o,_,_,ho,_⟩,_⟩:=I.loc
  rw[←z,e] at ho;cases ho
 ·obtain⟨_,o,ho,_⟩:=I.funs.mem z
  rw[e] at ho;cases ho
 ·by_cases hx:b∈X.ex
  ·exact .inl hx
  ·refine .inr ?_
   cases q:X.s₀.heap.get? b with
   |none=>rfl
   |some o=>
    obtain⟨o',z⟩:=I.base.there b o q hx
    rw[e] at z;cases z
 ·obtain⟨v,o,ho,_⟩:=I.cell x c q
  rw[z,e] at ho;cases ho
 ·have:=(I.pin p (List.mem_append_left _ hp)).1
  rw[z,e] at this;cases this
theorem yj{ch:List Addr}(I:Inv X pins σ H s)(hch:∀b∈ch,XOk X H b/\∀p∈pins,p.1≠b)
  (keep:∀b o,b∉frs X.stack->b∉ch->s.heap.get? b=some o->h'.get? b=some o)
  (slot:∀b o,b∈frs X.stack->b∉ch->s.heap.get? b=some o->∃sl,h'.get? b=some {o with slots:=sl}) :
  Inv X pins σ H {s with heap:=h'}:=by
 have tr:∀b u,H b=some u->b∉ch:=λb u e z=>by rw[(hch b z).1.free] at e;cases e
 have trf:∀b u,H b=some u->b∉frs X.stack:=λb u e z=>by rw[I.stkFree b z] at e;cases e
 have any:∀b o,b∉ch->s.heap.get? b=some o->∃sl,h'.get? b=some {o with slots:=sl}:=λb o hb e=>by
  by_cases hf:b∈frs X.stack
  ·exact slot b o hf hb e
  ·exact⟨o.slots,keep b o hf hb e⟩
 have inf:∀b,b≠X.env.locals->b∉X.fs->b∉frs X.stack:=λb h1 h2 z=>(List.mem_cons.mp (I.stkSub b z)).elim h1 h2
 have nec:∀b o,X.s₀.heap.get? b=some o->b∉X.ex->b∉ch:=λb o e hx z=>by
  rcases (hch b z).1.new with q|q
  ·exact hx q
  ·rw[e] at q;cases q
 have neL:∀b o,X.s₀.heap.get? b=some o->b≠X.env.locals:=λb o e=>Nat.ne_of_lt (Nat.lt_of_lt_of_le (Heap.lt_size e) I.ok.above)
 have cellK:∀x c,X.env.cells.lookup x=some c->∀v,s.heap.IsCell c v->h'.IsCell c v:=λx c e v ⟨o,ho,hd⟩=>by
  obtain⟨sl,q⟩:=any c o (λz=>(hch c z).1.cel x c e rfl) ho
  exact⟨_,q,hd⟩
 refine⟨I.ok,I.os,I.bare,⟨λb o e n hb hx=>?_,λb o e n hb hx=>?_,λb o e n hx=>I.base.free b o e n hx,λb o e hx=>?_,λb xs e=>I.base.tups b xs e,λb o xs e=>I.base.frzs b o xs e,λb ps e=>I.base.tbls b ps e⟩,?_,λx c e=>?_,I.free,λx c e=>I.freeC x c e,λp hp=>?_,λb u e=>?_,I.len⟩
 ·exact keep b o (inf b (neL b o e) hb) (nec b o e hx) (I.base.keep b o e n hb hx)
 ·obtain⟨sl,e1⟩:=I.base.slot b o e n hb hx
  obtain⟨sl',e2⟩:=any b _ (nec b o e hx) e1
  exact⟨sl',e2⟩
 ·obtain⟨o',e1⟩:=I.base.there b o e hx
  obtain⟨sl,e2⟩:=any b o' (nec b o e hx) e1
  exact⟨_,e2⟩
 ·obtain⟨m,⟨o,es,ep,ho,r⟩,hl⟩:=I.loc
  obtain⟨sl,hL⟩:=any X.env.locals o (λz=>(hch _ z).1.loc rfl) ho
  refine⟨m,⟨_,es,ep,hL,r⟩,λi x v e1 e2 e3=>?_⟩
  obtain⟨u,ru,l⟩:=hl i x v e1 e2 e3
  refine⟨u,ru,?_⟩
  rcases l with l|⟨k,c,e,z⟩
  ·exact .inl l
  ·exact .inr ⟨k,c,e,cellK x c e _ z⟩
 ·obtain⟨v,z⟩:=I.cell x c e
  exact⟨v,cellK x c e v z⟩
 ·obtain⟨e,n,ne,nf,d⟩:=I.pin p hp
  have nch:p.1∉ch:=λz=>by
   rcases List.mem_append.mp hp with q|q
   ·exact (hch p.1 z).1.pin p q rfl
   ·exact (hch p.1 z).2 p q rfl
  exact⟨keep p.1 p.2 (inf p.1 ne nf) nch e,n,ne,nf,d⟩
 ·refine (I.hok b u e).stay (λc v hc q=>?_) (λ_ q=>q) λ_ _ q=>q
  rcases hc with z|z
  ·subst z;exact keep c v (trf c u e) (tr c u e) q
  ·exact keep c v (trf c _ z) (tr c _ z) q
structure Frm(X:Cx)(e0:Env)(out:List Env)(L:Addr):Prop where
 stk:X.stack=e0::out
 f0:e0.frame=some L
 fe:X.env.frame=some L
noncomputable abbrev XW:=Value->Option Addr->St->Hp->Prop
inductive XP(X:Cx)(W:XW)(e:Value)(s:Shared):Prop where
 |mk (x:Addr) (cls:Value) (d:Option Addr) (σ:St) (H:Hp) (T:Option Addr) (fl:Value) (ee:e=.ref x) (i:Inv X [] σ H s) (ox:XOk X H x) (ot:∀t∈T.toList,XOk X H t) (r:z0a s.heap x cls d T fl) (hf:fl=.none\/∃L,X.env.frame=some L/\fl=rawInt L) (w:W cls d σ H)
theorem ZE{x:Addr}{T:Option Addr}{t:Addr}(I:Inv X [] σ H s)(ox:XOk X H x)(ot:∀t∈T.toList,XOk X H t)(mv:XMove (frs X.stack) x T (some t) s.heap h') :
  Inv X [] σ H {s with heap:=h'}/\XOk X H t:=by
 refine⟨yj (ch:=x::T.toList) I (λb hb=>⟨?_,λp hp=>absurd hp (by simp)⟩) (λb o hf hc e=>?_) (λb o hf hc e=>?_),?_⟩
 ·rcases List.mem_cons.mp hb with z|z
  ·rw[z];exact ox
  ·exact ot b z
 ·exact mv.keep b o e hf (λz=>hc (by simp[z])) (λz=>hc (List.mem_cons_of_mem _ z))
 ·exact mv.slot b o e hf (λz=>hc (by simp[z])) (λz=>hc (List.mem_cons_of_mem _ z))
 ·rcases mv.newT t (by simp) with z|z
  ·exact ot t z
  ·exact wg I (Heap.get?_none_of_le z)
theorem ji{M:Model}{A:Around}{E:Value->Shared->Prop}{W:XW}{e:Value}{e0:Env}{out:List Env}{L:Addr}{Q:Unit->Shared->Prop}(F:Frm X e0 out L)(hfr:A.frames=some X.stack)(p:XP X W e s)
  (h:∀x cls d σ H T h',e=.ref x->Inv X [] σ H {s with heap:=h'}->XOk X H x->XOk X H T->XTr h' x T cls d (rawInt L)->W cls d σ H->Q () {s with heap:=h'}):wpAny M A (noteFrame e X.env) Q E s:=by
 obtain⟨x,cls,d,σ,H,T,fl,rfl,I,ox,ot,hr,hfl,w⟩:=p
 have hst:=I.stack
 rw[F.stk] at hfr hst
 refine Wh hfr hst F.fe F.f0 hr (hfl.imp_right λ⟨L',e1,e2⟩=>by rw[F.fe] at e1;cases e1;exact e2) λh' t tr mv=>?_
 have mv':XMove (frs X.stack) x T (some t) s.heap h':=by rw[F.stk];exact mv
 obtain⟨I',o'⟩:=ZE I ox ot mv'
 exact h x cls d σ H t h' rfl I' ox o' tr w
theorem zY{M:Model}{A:Around}{E:Value->Shared->Prop}{x T:Addr}{cls fl:Value}{d fr:Option Addr}{Q:Unit->Shared->Prop}(I:Inv X [] σ H s)(ox:XOk X H x)(oT:XOk X H T)(tr:XTr s.heap x T cls d fl)
  (h:∀h',Inv X [] σ H {s with heap:=h'}->XTr h' x T cls d (fr.elim .none λf=>rawInt f)->Q () {s with heap:=h'}):wpAny M A (setFlight (.ref x) fr) Q E s:=by
 refine ug (fs:=frs X.stack) tr λh' tr' mv=>h h' (ZE (T:=some T) I ox (λt ht=>?_) mv).1 tr'
 have:t=T:=by simpa using ht
 rw[this];exact oT
theorem xt{W:XW}{M:Model}{e0:Env}{out:List Env}{L:Addr}(F:Frm X e0 out L)(hfr:X.A.frames=some X.stack):PassesOwn M X.A X.env (XP X W):=by
 intro e s p
 unfold notedBy
 refine ji F hfr p λx cls d σ H T h' ee I ox oT tr w=>?_
 subst ee
 unfold cameBackBy
 obtain⟨oe,vs,a0,oT',ts,ho,hc,hd,hv0,hv1,hT,hoT,hdT,h3⟩:=id tr
 refine wpAny_bind (wpAny_field ho hd hv1 ?_)
 rw[if_neg (show ¬((Value.ref T == Value.none)=true) from by simp)]
 rw[F.fe]
 have go:wpAny M X.A (setFlight (.ref x) (some L)) (λ_ s''=>XP X W (.ref x) s'') (XP X W) {s with heap:=h'}:=
  zY (s:={s with heap:=h'}) I ox oT tr λh2 I2 tr2=>⟨x,cls,d,σ,H,some T,rawInt L,rfl,I2,ox,λt ht=>by
   have:t=T:=by simpa using ht
   rw[this];exact oT,tr2,.inr ⟨L,F.fe,rfl⟩,w⟩
 first|exact go|exact wpAny_bind (wpAny_pure go)
inductive CXP(P:Program)(w:World)(outer:List Env)(H:Hp)(s:Shared)(E:XK)(e:Value)(s':Shared):Prop where
 |mk (x T:Addr) (cls:Value) (d:Option Addr) (H':Hp) (ee:e=.ref x) (o:s'.os=s.os) (b:AllBare s'.gens) (n:Un (frs outer) [] H H' s.heap s'.heap) (k:HOk P w H' s'.heap) (h1:s.heap.get? x=none) (h2:s.heap.get? T=none) (h3:H' x=none) (h4:H' T=none) (t:XTr s'.heap x T cls d .none) (q:E cls d H')
noncomputable def CX1 (P:Program)(w:World):CXT:=CXP P w
noncomputable def wOf (E:XK):XW:=λc d _ H=>E c d H
theorem VA{M:Model}{E:XK}{e:Value}{e0:Env}{out:List Env}{L:Addr}{F2:Value->Shared->Prop}(F:Frm X e0 out L)(hfr:X.A.frames=some X.stack)(hex:X.ex=[])(p:XP X (wOf E) e s) :
  wpAny M X.A (leaving X.env e) (λ_ s''=>CX1 X.prog X.w X.outer X.H₀ X.s₀ E e s'') F2 s:=by
 unfold leaving
 refine wpAny_bind (ji F hfr p λx cls d σ H T h' ee I ox oT tr w=>?_)
 subst ee
 refine zY (s:={s with heap:=h'}) I ox oT tr λh2 I2 tr2=>?_
 have nw:∀b,XOk X H b->X.s₀.heap.get? b=none:=λb o=>o.new.resolve_left (by rw[hex];simp)
 refine⟨x,T,cls,d,H,rfl,I2.os,I2.bare,?_,I2.hok,nw x ox,nw T oT,ox.free,oT.free,tr2,w⟩
 have:=I2.base
 rw[hex] at this
 exact this
theorem Z8{E:XK}{W:XW}{e:Value}{s':Shared}(I:Inv X pins σ H s)(c:CX1 X.prog X.w X.stack H s E e s')(h:∀cls d H',E cls d H'->W cls d σ H'):XP X W e s':=by
 obtain⟨x,T,cls,d,H',rfl,os,bare,un,hok,nx,nT,fx,fT,tr,w⟩:=c
 have J:Inv X pins σ H' s':=I.call' (ch:=[]) os un hok bare λb z=>absurd z (by simp)
 have k:∀b,s.heap.get? b=none->H' b=none->XOk X H' b:=λb e f=>by
  have o:=wg I e
  exact⟨f,o.loc,o.nfs,o.new,o.cel,o.pin⟩
 refine⟨x,cls,d,σ,H',some T,.none,rfl,J.pins_of (λp hp=>absurd hp (by simp)),k x nx fx,λt ht=>?_,tr,.inl rfl,h cls d H' w⟩
 have:t=T:=by simpa using ht
 rw[this];exact k T nT fT
noncomputable abbrev Cx.pin'(X:Cx)(pins:List (Addr×Obj)):Cx:={X with pn:=X.pn++pins}
noncomputable abbrev Cx.han(X:Cx)(x:Addr):Cx:={X with A:=X.A.mark (some (.ref x)),calm:=false,xe:=λ_ _=>False}
theorem Vk(ok:X.Ok):(Cx.pin' X pins).Ok:=⟨ok.mod,ok.kind,ok.glob,ok.blt,ok.above,ok.inj,ok.has,ok.cab,ok.hd,ok.frames,ok.stk,ok.exf,ok.bs,ok.bsz,ok.noex,ok.exfs,ok.funs,ok.frf⟩
theorem yG(ok:(Cx.pin' X pins).Ok):X.Ok:=⟨ok.mod,ok.kind,ok.glob,ok.blt,ok.above,ok.inj,ok.has,ok.cab,ok.hd,ok.frames,ok.stk,ok.exf,ok.bs,ok.bsz,ok.noex,ok.exfs,ok.funs,ok.frf⟩
theorem Y5{x:Addr}(ok:X.Ok):(Cx.han X x).Ok:=⟨ok.mod,ok.kind,ok.glob,ok.blt,ok.above,ok.inj,ok.has,ok.cab,(λh=>by cases h),ok.frames,ok.stk,ok.exf,ok.bs,ok.bsz,ok.noex,ok.exfs,ok.funs,ok.frf⟩
theorem y2(I:Inv X pins σ H s):Inv (Cx.pin' X pins) [] σ H s:=⟨Vk I.ok,I.os,I.bare,I.base,I.loc,I.cell,I.free,I.freeC,λp hp=>I.pin p (by simpa using hp),I.hok,I.len⟩
theorem zz(I:Inv (Cx.pin' X pins) [] σ H s):Inv X pins σ H s:=⟨yG I.ok,I.os,I.bare,I.base,I.loc,I.cell,I.free,I.freeC,λp hp=>I.pin p (by simpa using hp),I.hok,I.len⟩
theorem xS{x:Addr}(I:Inv X pins σ H s):Inv (Cx.han X x) pins σ H s:=⟨Y5 I.ok,I.os,I.bare,I.base,I.loc,I.cell,I.free,I.freeC,I.pin,I.hok,I.len⟩
theorem vM{x:Addr}(ok:X.Ok)(I:Inv (Cx.han X x) pins σ H s):Inv X pins σ H s:=⟨ok,I.os,I.bare,I.base,I.loc,I.cell,I.free,I.freeC,I.pin,I.hok,I.len⟩
theorem vJ{E:Value->Shared->Prop}{W:XW}{e:Value}(p:XP (X.wish E) W e s):XP X W e s:=by
 obtain⟨x,cls,d,σ,H,T,fl,a,I,b,c,r,r2,r3⟩:=p
 exact⟨x,cls,d,σ,H,T,fl,a,I.unwish,⟨b.free,b.loc,b.nfs,b.new,b.cel,b.pin⟩,λt ht=>let b:=c t ht;⟨b.free,b.loc,b.nfs,b.new,b.cel,b.pin⟩,r,r2,r3⟩
end
end NH
namespace NH
open PySem
inductive T where
 |non|bl (b:Bool)|int (i:Int)|str (x:Str)
 |tup (ts:List T)|lst (ts:List T)|obj (c:Nat) (fs:List (Nat×T))
 |mut (i:Nat)
 |exc (c:Nat) (fs:List (Nat×T))
 |dic (kvs:List (L2.Key×T))
 |clo (j:Nat) (cs:List T)
inductive MO where
 |lst (ts:List T)|obj (c:Nat) (fs:List (Nat×T))|dic (kvs:List (L2.Key×T))
 |tab (j:Nat)|dct (ks:List (Int×Int))
noncomputable abbrev Kz:MO->Bool
 |.tab _=>true
 |_=>false
noncomputable abbrev Mem:=List MO
noncomputable abbrev Sl:=List (Option T)
mutual
def wc:T->Bool
 |.mut _=>false
 |.tup ts=>jT ts
 |.lst ts=>jT ts
 |.obj _ fs=>j0 fs
 |.exc _ fs=>j0 fs
 |.dic kvs=>ZI kvs
 |.clo _ cs=>jT cs
 |_=>true
def jT:List T->Bool
 |[]=>true
 |t::r=>wc t&&jT r
def j0:List (Nat×T)->Bool
 |[]=>true
 |p::r=>wc p.2&&j0 r
def ZI:List (L2.Key×T)->Bool
 |[]=>true
 |p::r=>wc p.2&&ZI r
end
noncomputable abbrev Xp:=Nat->List (Nat×T)->Mem->Prop
noncomputable abbrev RE(β:Type):=(β->Mem->Prop)->Xp->Prop
noncomputable abbrev RE.ok{β:Type}(a:β)(μ:Mem):RE β:=λK _=>K a μ
noncomputable abbrev RE.st{β:Type}:RE β:=λ_ _=>False
noncomputable abbrev RE.bind{β γ:Type}(r:RE γ)(k:γ->Mem->RE β):RE β:=λK Z=>r (λa μ=>k a μ K Z) Z
noncomputable abbrev RE.grd{β:Type}(p:Prop)(r:RE β):RE β:=λK Z=>p/\r K Z
noncomputable abbrev RE.som{β γ:Type}(o:Option γ)(k:γ->RE β):RE β:=λK Z=>∃a,o=some a/\k a K Z
@[reducible] noncomputable def brW(b:Bool)(A B:Prop):Prop:=match b with
 |true=>A
 |false=>B
noncomputable abbrev RE.br{β:Type}(b:Bool)(r s:RE β):RE β:=λK Z=>brW b (r K Z) (s K Z)
structure En where
 nx:Sl->Mem->Prop
 rt:T->Mem->Prop
 bk:Sl->Mem->Prop
 ct:Sl->Mem->Prop
 ex:Nat->List (Nat×T)->Sl->Mem->Prop
noncomputable abbrev Out:=En->Prop
noncomputable abbrev En.nxt(E:En)(f:Sl->Mem->Prop):En:=⟨f,E.rt,E.bk,E.ct,E.ex⟩
noncomputable abbrev En.turn(E:En)(N:Sl->Mem->Prop):En:=⟨N,E.rt,E.nx,N,E.ex⟩
noncomputable abbrev En.tri(E:En)(X:Nat->List (Nat×T)->Sl->Mem->Prop):En:=⟨E.nx,E.rt,E.bk,E.ct,X⟩
noncomputable abbrev En.fn(K:T->Mem->Prop)(Z:Xp):En:=⟨λ_ μ1=>K .non μ1,K,λ_ _=>False,λ_ _=>False,λc fs _ μ1=>Z c fs μ1⟩
noncomputable abbrev Out.nx(τ:Sl)(μ:Mem):Out:=λE=>E.nx τ μ
noncomputable abbrev Out.rt(t:T)(μ:Mem):Out:=λE=>E.rt t μ
noncomputable abbrev Out.ex(c:Nat)(fs:List (Nat×T))(τ:Sl)(μ:Mem):Out:=λE=>E.ex c fs τ μ
noncomputable abbrev Out.st:Out:=λ_=>False
noncomputable abbrev Out.grd(p:Prop)(o:Out):Out:=λE=>p/\o E
noncomputable abbrev Out.som{γ:Type}(o:Option γ)(k:γ->Out):Out:=λE=>∃a,o=some a/\k a E
noncomputable abbrev Out.br(b:Bool)(r s:Out):Out:=λE=>brW b (r E) (s E)
noncomputable abbrev Out.seq(o:Out)(f:Sl->Mem->Out):Out:=λE=>o (E.nxt λτ μ=>f τ μ E)
noncomputable abbrev RE.out{β:Type}(r:RE β)(τ:Sl)(f:β->Mem->Out):Out:=λE=>r (λa μ=>f a μ E) (λc fs μ=>E.ex c fs τ μ)
noncomputable abbrev Fn:=List T->Mem->RE T
noncomputable abbrev De:=Sl->Mem->RE T
noncomputable abbrev Dt:=Sl->Mem->RE Bool
noncomputable abbrev Da:=Sl->Mem->RE (List T)
noncomputable abbrev Ds:=Sl->Mem->Out
noncomputable abbrev RI:=(List T->(Mem->Prop)->Mem->Prop)->Xp->Prop
noncomputable abbrev RI.ok(xs:List T)(o:Mem->Prop)(μ:Mem):RI:=λK _=>K xs o μ
noncomputable abbrev RI.st:RI:=λ_ _=>False
noncomputable abbrev RI.grd(p:Prop)(r:RI):RI:=λK Z=>p/\r K Z
noncomputable abbrev RI.go{β:Type}(r:RI)(k:List T->(Mem->Prop)->Mem->RE β):RE β:=λK Z=>r (λxs o μ=>k xs o μ K Z) Z
noncomputable abbrev RI.out(r:RI)(τ:Sl)(f:List T->(Mem->Prop)->Mem->Out):Out:=λE=>r (λxs o μ=>f xs o μ E) (λc fs μ=>E.ex c fs τ μ)
noncomputable abbrev RI.re(r:RI):RE (List T×(Mem->Prop)):=λK Z=>r (λxs o μ=>K (xs,o) μ) Z
noncomputable abbrev RE.it{β:Type}(r:RE β)(k:β->Mem->RI):RI:=λK Z=>r (λa μ=>k a μ K Z) Z
noncomputable abbrev Di:=Sl->Mem->RI
abbrev lvT:Mem->Prop:=λ_=>True
abbrev lvM(i:Nat)(xs:List T):Mem->Prop:=λμ=>μ[i]?=some (.lst xs)
structure LamD where
 jt:Nat
 qn:Str
 y:Str
 body:Expr
 sc:Scope
 fr:List Str
 g:De
noncomputable abbrev z0K(j jt:Nat)(ts:List T):T:=.clo (300+j) (.clo (100+jt) []::ts.map λt=>.clo 200 [t])
inductive GM where
 |fn (f:Fn)
 |fnh (nm:Str) (f:Fn)
 |met (c:Nat) (nm:Str) (f:Fn)
 |mk (c:Nat) (frozen:Bool) (f:Fn)
 |cst (t:T)
 |xcl (c:Nat)
 |xcf (c:Nat) (f:Nat)
 |xin (c f:Nat) (nm fl:Str)
 |mkd (c:Nat) (nm:Str) (n:Nat) (f:Fn)
 |metd (c:Nat) (nm:Str) (n:Nat) (d:T) (f:Fn)
 |kpr
 |kap (ls:List LamD)
 |tbl (kvs:List (Str×Int))
 |none
 |bad
noncomputable abbrev ZR(τ:Sl):Nat->Option T:=List.rec (motive:=λ_=>Nat->Option T) (λ_=>none) (λo _ ih i=>Nat.rec (motive:=λ_=>Option T) o (λn _=>ih n) i) τ
noncomputable abbrev wU(τ:Sl):Nat->Option T->Sl:=List.rec (motive:=λ_=>Nat->Option T->Sl) (λ_ _=>[]) (λo r ih i t=>Nat.rec (motive:=λ_=>Sl) (t::r) (λn _=>o::ih n t) i) τ
theorem Zb:∀{τ:Sl} {i:Nat} {t:T},ZR τ i=some t↔τ[i]?=some (some t)
 |[],_,_=>by simp
 |o::r,0,t=>by show o=some t↔_;simp
 |o::r,n+1,t=>by
  show ZR r n=some t↔_
  rw[Zb (τ:=r) (i:=n)];simp
theorem jf:∀{τ:Sl} {i:Nat} {t:Option T},wU τ i t=τ.set i t
 |[],_,_=>by simp
 |o::r,0,t=>rfl
 |o::r,n+1,t=>by
  show o::wU r n t=_
  rw[jf (τ:=r) (i:=n)];simp
noncomputable abbrev yq(fs:List (Nat×T)):Nat->Option T:=List.rec (motive:=λ_=>Nat->Option T) (λ_=>none) (λp _ ih i=>Bool.rec (motive:=λ_=>Option T) (ih i) (some p.2) (Nat.beq p.1 i)) fs
noncomputable abbrev Vf(f:Nat)(v:T)(fs:List (Nat×T)):List (Nat×T):=List.rec (motive:=λ_=>List (Nat×T)) [(f,v)] (λp r ih=>Bool.rec (motive:=λ_=>List (Nat×T)) (p::ih) ((p.1,v)::r) (Nat.beq p.1 f)) fs
theorem Q5{p:Nat×T}{r:List (Nat×T)}{i:Nat}:yq (p::r) i=match Nat.beq p.1 i with
  |true=>some p.2
  |false=>yq r i:=by
 show (Bool.rec (yq r i) (some p.2) (Nat.beq p.1 i):Option T)=_
 cases Nat.beq p.1 i<;>rfl
theorem ZX{f:Nat}{v:T}{p:Nat×T}{r:List (Nat×T)}:Vf f v (p::r)=match Nat.beq p.1 f with
  |true=>(p.1,v)::r
  |false=>p::Vf f v r:=by
 show (Bool.rec (p::Vf f v r) ((p.1,v)::r) (Nat.beq p.1 f):List (Nat×T))=_
 cases Nat.beq p.1 f<;>rfl
noncomputable def idx:List Str->Str->Option Nat
 |[],_=>none
 |y::r,x=>if y=x then some 0 else (idx r x).map (·+1)
noncomputable abbrev tyN:T->Mem->Option Nat
 |.non,_=>some 0
 |.bl _,_=>some 1
 |.int _,_=>some 2
 |.str _,_=>some 3
 |.tup _,_=>some 4
 |.lst _,_=>some 5
 |.dic _,_=>some 6
 |.exc c _,_=>some c
 |.obj c _,_=>some c
 |_,_=>none
noncomputable abbrev tyO:MO->Nat
 |.lst _=>5
 |.obj c _=>c
 |.dic _=>6
 |.tab _=>99
 |.dct _=>6
noncomputable abbrev Jv(a b:Bool):Bool:=match a with
 |true=>b
 |false=>false
noncomputable abbrev bOr(a b:Bool):Bool:=match a with
 |true=>true
 |false=>b
noncomputable abbrev qX(a c:Nat):Bool:=bOr (Nat.beq a c) (bOr (Jv (Nat.beq a 1) (Nat.beq c 2)) (Jv (Nat.ble 10 a) (Jv (Nat.ble a 39) (bOr (Nat.beq c 11) (Jv (Nat.beq c 10) (Nat.ble 12 a))))))
noncomputable abbrev isAny(t:Nat)(cs:List Nat):Bool:=List.rec (motive:=λ_=>Bool) false (λc _ ih=>bOr (qX t c) ih) cs
theorem ke{t c:Nat}{r:List Nat}:isAny t (c::r)=bOr (qX t c) (isAny t r):=rfl
noncomputable def big:Int:=18446744073709551616
noncomputable def room:Nat:=1000000
noncomputable abbrev Yu:T->T->Mem->RE T
 |.int i,.int j,μ=>.ok (.int (i+j)) μ
 |.str x,.str y,μ=>.grd (x.length+y.length<=room) (.ok (.str (x++y)) μ)
 |.lst xs,.lst ys,μ=>.grd (xs.length+ys.length<=room) (.ok (.lst (xs++ys)) μ)
 |.tup xs,.tup ys,μ=>.grd (xs.length+ys.length<=room) (.ok (.tup (xs++ys)) μ)
 |.mut i,.lst ys,μ=>λK _=>∃xs,μ[i]?=some (.lst xs)/\xs.length+ys.length<=room/\K (.lst (xs++ys)) μ
 |.lst xs,.mut j,μ=>λK _=>∃ys,μ[j]?=some (.lst ys)/\xs.length+ys.length<=room/\K (.lst (xs++ys)) μ
 |.mut i,.mut j,μ=>λK _=>∃p:List T×List T,(μ[i]?=some (.lst p.1)/\μ[j]?=some (.lst p.2))/\p.1.length+p.2.length<=room/\K (.lst (p.1++p.2)) μ
 |_,_,_=>.st
noncomputable abbrev xW(f:Int->Int->Mem->RE T):T->T->Mem->RE T
 |.int i,.int j,μ=>f i j μ
 |_,_,_=>.st
noncomputable abbrev z0k:Operator->T->T->Mem->RE T
 |.Add=>Yu
 |.Sub=>xW λi j μ=>.ok (.int (i-j)) μ
 |.Mult=>xW λi j μ=>.grd ((-big<i/\i<big)\/(-big<j/\j<big)) (.ok (.int (i * j)) μ)
 |.FloorDiv=>xW λi j μ=>.grd (0<j/\j<1606938044258990275541962092341162602522202993782792835301376) (.ok (.int (i / j)) μ)
 |.Mod=>xW λi j μ=>.grd (0<j) (.ok (.int (i % j)) μ)
 |.Pow=>xW λi j μ=>.grd (0<=j/\j<=1000000/\i.natAbs<18446744073709551616) (.ok (.int (i ^ j.toNat)) μ)
 |.RShift=>xW λi j μ=>.grd (0<=j) (.ok (.int (i / 2 ^ j.toNat)) μ)
 |.BitAnd=>xW λi j μ=>.ok (.int (Builtin.bitAnd i j)) μ
 |_=>λ_ _ _=>.st
mutual
def eqT:T->T->Option Bool
 |.int i,b=>match b with
  |.int j=>some (i == j)
  |.bl k=>some (i == (if k then 1 else 0))
  |.str _=>some false
  |.non=>some false
  |.tup _=>some false
  |.lst _=>some false
  |_=>none
 |.bl k,b=>match b with
  |.int j=>some ((if k then 1 else 0) == j)
  |.bl j=>some (k == j)
  |.str _=>some false
  |.non=>some false
  |.tup _=>some false
  |.lst _=>some false
  |_=>none
 |.str x,b=>match b with
  |.str y=>some (x == y)
  |.int _=>some false
  |.bl _=>some false
  |.non=>some false
  |.tup _=>some false
  |.lst _=>some false
  |_=>none
 |.non,b=>match b with
  |.non=>some true
  |.int _=>some false
  |.bl _=>some false
  |.str _=>some false
  |.tup _=>some false
  |.lst _=>some false
  |_=>none
 |.tup xs,b=>match b with
  |.tup ys=>eqL xs ys
  |.non=>some false
  |.int _=>some false
  |.bl _=>some false
  |.str _=>some false
  |.lst _=>some false
  |_=>none
 |.lst xs,b=>match b with
  |.lst ys=>eqL xs ys
  |.non=>some false
  |.int _=>some false
  |.bl _=>some false
  |.str _=>some false
  |.tup _=>some false
  |_=>none
 |_,_=>none
def eqL:List T->List T->Option Bool
 |[],[]=>some true
 |[],_::_=>some false
 |_::_,[]=>some false
 |x::xs,y::ys=>match eqT x y,eqL xs ys with
  |some a,some b=>some (a&&b)
  |_,_=>none
end
mutual
def qR:T->Nat
 |.tup ts=>zL ts+1
 |.lst ts=>zL ts+1
 |_=>0
def zL:List T->Nat
 |[]=>0
 |t::r=>max (qR t) (zL r)
end
noncomputable abbrev scT:T->T->Option Bool
 |.non,.non=>some true
 |.non,.int _=>some false|.int _,.non=>some false|.non,.bl _=>some false|.bl _,.non=>some false|.non,.str _=>some false|.str _,.non=>some false
 |.int i,.int j=>some (decide (i=j))|.bl i,.bl j=>some (decide (i=j))|.str i,.str j=>some (decide (i=j))
 |.int _,.str _=>some false|.str _,.int _=>some false|.bl _,.str _=>some false|.str _,.bl _=>some false
 |_,_=>none
noncomputable abbrev eqW(x y:T)(μ:Mem)(k:Bool->RE T):RE T:=match x,y with
 |.tup xs,.tup ys=>.grd (zL xs<=40) (.som (eqL xs ys) k)
 |.lst xs,.lst ys=>.grd (zL xs<=40) (.som (eqL xs ys) k)
 |.mut i,.lst ys=>λK Z=>∃xs,μ[i]?=some (.lst xs)/\RE.grd (zL xs<=40) (.som (eqL xs ys) k) K Z
 |.lst xs,.mut j=>λK Z=>∃ys,μ[j]?=some (.lst ys)/\RE.grd (zL xs<=40) (.som (eqL xs ys) k) K Z
 |.mut i,.mut j=>λK Z=>∃p:List T×List T,(μ[i]?=some (.lst p.1)/\μ[j]?=some (.lst p.2))/\RE.grd (zL p.1<=40) (.som (eqL p.1 p.2) k) K Z
 |x,y=>match scT x y with
  |some b=>k b
  |none=>.st
noncomputable def intsOf:List T->Option (List Int)
 |[]=>some []
 |.int i::r=>(intsOf r).map (i::·)
 |_::_=>none
noncomputable abbrev ltW(x y:T)(k:Bool->RE T):RE T:=match x,y with
 |.int i,.int j=>k (decide (i<j))
 |.tup xs,.tup ys=>.som (intsOf xs) λns=>.som (intsOf ys) λms=>k (HT.lexLt ns ms)
 |.str a,.str b=>k (decide (a.cps.toList<b.cps.toList))
 |_,_=>.st
noncomputable abbrev kB(op:CmpOp)(x y:T)(μ:Mem):RE T:=
 match op with
 |.Eq=>eqW x y μ λb=>.ok (.bl b) μ
 |.NotEq=>eqW x y μ λb=>.ok (.bl (!b)) μ
 |.Lt=>ltW x y λb=>.ok (.bl b) μ
 |.LtE=>match x,y with|.int i,.int j=>.ok (.bl (decide (i<=j))) μ|_,_=>.st
 |.Gt=>match x,y with|.int i,.int j=>.ok (.bl (decide (j<i))) μ|_,_=>.st
 |.GtE=>match x,y with|.int i,.int j=>.ok (.bl (decide (j<=i))) μ|_,_=>.st
 |.Is=>(match y with
  |.non=>.ok (.bl (match x with|.non=>true|_=>false)) μ
  |.bl b=>(match x with|.bl a=>.ok (.bl (decide (a=b))) μ|_=>.st)
  |_=>.st)
 |.IsNot=>(match y with
  |.non=>.ok (.bl (match x with|.non=>false|_=>true)) μ
  |.bl b=>(match x with|.bl a=>.ok (.bl (!decide (a=b))) μ|_=>.st)
  |_=>.st)
 |.In=>(match x,y with|.str i,.str j=>.ok (.bl (!(Builtin.Str.occurrences j i 0 j.length 1).isEmpty)) μ|_,_=>.st)
 |.NotIn=>(match x,y with|.str i,.str j=>.ok (.bl (!(!(Builtin.Str.occurrences j i 0 j.length 1).isEmpty))) μ|_,_=>.st)
noncomputable abbrev j7:T->Mem->RE Bool
 |.bl b,μ=>.ok b μ
 |_,_=>.st
noncomputable abbrev eC(t:T):De:=λ_ μ=>.ok t μ
noncomputable abbrev eV(i:Nat):De:=λτ μ=>match ZR τ i with
 |some t=>.ok t μ
 |none=>.st
noncomputable abbrev zi(op:Operator)(f g:De):De:=λτ μ=>(f τ μ).bind λx μ1=>(g τ μ1).bind λy μ2=>z0k op x y μ2
noncomputable abbrev QU(f:De):De:=λτ μ=>(f τ μ).bind λx μ1=>match x with|.int i=>.ok (.int (-i)) μ1|_=>.st
noncomputable abbrev UR(f:De):De:=λτ μ=>(f τ μ).bind λx μ1=>match x with|.bl b=>.ok (.bl (!b)) μ1|_=>.st
noncomputable abbrev XC(f g:De):De:=λτ μ=>(f τ μ).bind λx μ1=>match x with|.bl b=>.br b (g τ μ1) (.ok (.bl false) μ1)|_=>.st
noncomputable abbrev eOr(f g:De):De:=λτ μ=>(f τ μ).bind λx μ1=>match x with|.bl b=>.br b (.ok (.bl true) μ1) (g τ μ1)|_=>.st
noncomputable abbrev zp(op:CmpOp)(f g:De):De:=λτ μ=>(f τ μ).bind λx μ1=>(g τ μ1).bind λy μ2=>kB op x y μ2
noncomputable abbrev chS(op:CmpOp)(last:Bool)(ih:T->Sl->Mem->RE T)(x y:T)(τ:Sl)(μ1:Mem):RE T:=match last with
 |true=>kB op x y μ1
 |false=>(kB op x y μ1).bind λk μ2=>match k with
  |.bl b=>.br b (ih y τ μ2) (.ok (.bl false) μ2)
  |_=>.st
noncomputable abbrev WO(ps:List (CmpOp×De)):T->Sl->Mem->RE T:=List.rec (motive:=λ_=>T->Sl->Mem->RE T) (λ_ _ _=>.st) (λp r ih x τ μ=>(p.2 τ μ).bind λy μ1=>chS p.1 r.isEmpty ih x y τ μ1) ps
noncomputable abbrev eCh(f:De)(ps:List (CmpOp×De)):De:=λτ μ=>(f τ μ).bind λx μ1=>WO ps x τ μ1
noncomputable abbrev tE(f:De):Dt:=λτ μ=>(f τ μ).bind j7
noncomputable abbrev yy(f g:Dt):Dt:=λτ μ=>(f τ μ).bind λb μ1=>.br b (g τ μ1) (.ok false μ1)
noncomputable abbrev tOr(f g:Dt):Dt:=λτ μ=>(f τ μ).bind λb μ1=>.br b (.ok true μ1) (g τ μ1)
noncomputable abbrev wz(f:Dt):Dt:=λτ μ=>(f τ μ).bind λb μ1=>.ok (!b) μ1
noncomputable abbrev eIf(c:Dt)(f g:De):De:=λτ μ=>(c τ μ).bind λb μ1=>.br b (f τ μ1) (g τ μ1)
noncomputable abbrev Wg(t:T)(f:Nat)(μ:Mem):RE T:=match t with
 |.obj _ fs=>(match yq fs f with|some v=>.ok v μ|none=>.st)
 |.mut i=>λK _=>∃c fs v,μ[i]?=some (.obj c fs)/\yq fs f=some v/\K v μ
 |_=>.st
noncomputable abbrev z0Z(f:De)(n:Nat):De:=λτ μ=>(f τ μ).bind λt μ1=>Wg t n μ1
noncomputable def JZ(n:Nat)(i:Int):Option Nat:=if 0<=i then (if i<n then some i.toNat else none) else if -(n:Int)<=i then some (i+n).toNat else none
noncomputable def wy {α:Type}(xs:List α)(i:Int):Option α:=(JZ xs.length i).bind λj=>xs[j]?
noncomputable abbrev KJ(t i:T)(μ:Mem):RE T:=match i with
 |.int k=>(match t with
  |.lst ts=>.som (wy ts k) λv=>.ok v μ
  |.tup ts=>.som (wy ts k) λv=>.ok v μ
  |.mut j=>λK _=>∃ts v,μ[j]?=some (.lst ts)/\wy ts k=some v/\K v μ
  |.str z=>.grd (z.length<=room) (.som (wy z.cps.toList k) λc=>.ok (.str ⟨#[c]⟩) μ)
  |_=>.st)
 |_=>.st
noncomputable abbrev eIx(f g:De):De:=λτ μ=>(f τ μ).bind λx μ1=>(g τ μ1).bind λy μ2=>KJ x y μ2
noncomputable def ZU(n d:Nat):Option Int->Nat
 |none=>d
 |some v=>if v<0 then (v+(n:Int)).toNat else min v.toNat n
noncomputable def zU {α:Type}(xs:List α)(lo hi:Option Int):List α:=(xs.drop (ZU xs.length 0 lo)).take (ZU xs.length xs.length hi-ZU xs.length 0 lo)
noncomputable abbrev Dp:=Sl->Mem->RE (Option Int)
noncomputable abbrev pN:Dp:=λ_ μ=>.ok none μ
noncomputable abbrev pS(f:De):Dp:=λτ μ=>(f τ μ).bind λt μ1=>match t with|.int i=>.ok (some i) μ1|_=>.st
noncomputable abbrev UL(x:T)(l h:Option Int)(μ:Mem):RE T:=match x with
 |.lst xs=>.ok (.lst (zU xs l h)) μ
 |.tup xs=>.ok (.tup (zU xs l h)) μ
 |.str z=>.grd (z.length<=room) (.ok (.str (Txt.slice z l h)) μ)
 |.mut i=>λK _=>∃ts,μ[i]?=some (.lst ts)/\K (.lst (zU ts l h)) μ
 |_=>.st
noncomputable abbrev eSl(f:De)(lo hi:Dp):De:=λτ μ=>(f τ μ).bind λx μ1=>(lo τ μ1).bind λl μ2=>(hi τ μ2).bind λh μ3=>UL x l h μ3
noncomputable abbrev evs(fs:List De):Da:=List.rec (motive:=λ_=>Da) (λ_ μ=>.ok [] μ) (λf _ ih τ μ=>(f τ μ).bind λt μ1=>(ih τ μ1).bind λts μ2=>.ok (t::ts) μ2) fs
noncomputable abbrev qm(fs:List De):De:=λτ μ=>(evs fs τ μ).bind λts μ1=>.ok (.lst ts) μ1
noncomputable abbrev vC(fs:List De):De:=λτ μ=>(evs fs τ μ).bind λts μ1=>.ok (.tup ts) μ1
noncomputable abbrev Xj(fs:List De):De:=λτ μ=>(evs fs τ μ).bind λts μ1=>.ok (.mut μ1.length) (μ1++[.lst ts])
noncomputable abbrev za(g:Fn)(fs:List De):De:=λτ μ=>(evs fs τ μ).bind g
noncomputable abbrev yc(c:Nat)(g:Fn)(ts:List T)(μ:Mem):RE T:=λK Z=>
 jT ts=true/\g (.mut 0::ts) [.obj c []] (λr μ1=>r=.non/\∃fs,μ1[0]?=some (.obj c fs)/\j0 fs=true/\K (.obj c fs) μ) (λk fs _=>j0 fs=true/\Z k fs μ)
noncomputable abbrev eMk(c:Nat)(g:Fn)(fs:List De):De:=λτ μ=>(evs fs τ μ).bind (yc c g)
noncomputable abbrev QB(cs:List Nat)(x:T)(μ:Mem):RE T:=match x with
 |.mut i=>.som μ[i]? λo=>.br (Kz o) .st (.ok (.bl (isAny (tyO o) cs)) μ)
 |x=>match tyN x μ with
  |some t=>.ok (.bl (isAny t cs)) μ
  |none=>.st
noncomputable abbrev x_(cs:List Nat)(f:De):De:=λτ μ=>(f τ μ).bind (QB cs)
noncomputable abbrev eB1(op:T->Mem->RE T)(f:De):De:=λτ μ=>(f τ μ).bind op
noncomputable abbrev j3(t:T)(μ:Mem):RE T:=match t with
 |.lst xs=>.ok (.int xs.length) μ
 |.tup xs=>.ok (.int xs.length) μ
 |.str s=>.grd (s.length<=room) (.ok (.int s.length) μ)
 |.mut i=>λK _=>∃xs,μ[i]?=some (.lst xs)/\K (.int xs.length) μ
 |_=>.st
noncomputable abbrev jr(t:T)(μ:Mem):RE T:=match t with
 |.lst xs=>.ok (.tup xs) μ
 |.mut i=>λK _=>∃xs,μ[i]?=some (.lst xs)/\K (.tup xs) μ
 |_=>.st
noncomputable def bools:List T->Option (List Bool)
 |[]=>some []
 |.bl b::r=>(bools r).map (b::·)
 |_::_=>none
noncomputable abbrev VF(t:T)(μ:Mem):RE T:=match t with
 |.lst xs=>.som (bools xs) λbs=>.ok (.bl (bs.all id)) μ
 |_=>.st
noncomputable def strsOf:List T->Option (List Str)
 |[]=>some []
 |.str x::r=>(strsOf r).map (x::·)
 |_::_=>none
noncomputable abbrev q_(z:Str):List T:=z.cps.toList.map λc=>T.str ⟨#[c]⟩
noncomputable abbrev Yn(t:T)(μ:Mem):RI:=match t with
 |.lst xs=>.ok xs lvT μ
 |.tup xs=>.ok xs lvT μ
 |.str z=>.ok (q_ z) lvT μ
 |.mut i=>λK _=>∃xs,μ[i]?=some (.lst xs)/\K xs (lvM i xs) μ
 |_=>.st
noncomputable abbrev iE(f:De):Di:=λτ μ=>(f τ μ).it Yn
noncomputable def rangeT(n:Int):List T:=(List.range n.toNat).map λ(i:Nat)=>T.int i
noncomputable def xV(a b c:Int):List T:=(List.range (if a<b then (b-a-1) / c+1 else 0:Int).toNat).map λ(i:Nat)=>T.int (a+i * c)
noncomputable abbrev inL(a:Int):Prop := -1606938044258990275541962092341162602522202993782792835301376<=a/\a<1606938044258990275541962092341162602522202993782792835301376
noncomputable abbrev XQ(f:De):Di:=λτ μ=>(f τ μ).it λt μ1=>match t with
 |.int n=>.grd (inL n) (.ok (rangeT n) lvT μ1)
 |_=>.st
noncomputable abbrev Vh(x y z:T)(μ:Mem):RI:=match x,y,z with
 |.int a,.int b,.int c=>.grd (inL a/\inL b/\0<c/\c<1073741824) (.ok (xV a b c) lvT μ)
 |_,_,_=>.st
noncomputable abbrev Kw(f g h:De):Di:=λτ μ=>(f τ μ).it λx μ1=>(g τ μ1).it λy μ2=>(h τ μ2).it λz μ3=>Vh x y z μ3
noncomputable abbrev WQ(f g:De):Di:=λτ μ=>(f τ μ).it λx μ1=>(g τ μ1).it λy μ2=>match x,y with
 |.int a,.int b=>.grd (inL a/\inL b) (.ok (xV a b 1) lvT μ2)
 |_,_=>.st
inductive Tg where
 |one (i:Nat)|tup (is:List Nat)
noncomputable abbrev yg(is:List Nat):List T->Sl->Option Sl:=List.rec (motive:=λ_=>List T->Sl->Option Sl) (λts τ=>List.rec (motive:=λ_=>Option Sl) (some τ) (λ_ _ _=>none) ts) (λi _ ih ts τ=>List.rec (motive:=λ_=>Option Sl) none (λt ts' _=>ih ts' (wU τ i (some t))) ts) is
noncomputable abbrev asg:Tg->T->Sl->Option Sl
 |.one i,t,τ=>some (wU τ i (some t))
 |.tup is,.tup ts,τ=>yg is ts τ
 |_,_,_=>none
noncomputable def zx(tg:Tg)(g:Sl->Mem->RE (Option T))(lv:Mem->Prop)(τ:Sl):List T->Mem->RE (List T)
 |[],μ=>.ok [] μ
 |x::r,μ=>.som (asg tg x τ) λτ'=>(g τ' μ).bind λo μ1=>.grd (lv μ1) (match o with
  |some y=>(zx tg g lv τ r μ1).bind λys μ2=>.ok (y::ys) μ2
  |none=>zx tg g lv τ r μ1)
noncomputable abbrev j5(cs:List Dt)(f:De):Sl->Mem->RE (Option T):=List.rec (motive:=λ_=>Sl->Mem->RE (Option T)) (λτ μ=>(f τ μ).bind λy μ1=>.ok (some y) μ1) (λc _ ih τ μ=>(c τ μ).bind λb μ1=>.br b (ih τ μ1) (.ok none μ1)) cs
noncomputable abbrev ua(is:List Nat)(τ:Sl):Sl:=List.rec (motive:=λ_=>Sl) [] (λi _ ih=>ZR τ i::ih) is
noncomputable abbrev blk(n:Nat)(fs:List Nat)(τ:Sl):Sl:=Nat.rec (motive:=λ_=>Sl) (ua fs τ) (λ_ ih=>none::ih) n
noncomputable abbrev qf(n:Nat)(fs:List Nat)(tg:Tg)(it:Di)(cs:List Dt)(f:De):De:=λτ μ=>(it τ μ).go λxs o μ1=>.grd (xs.length<=room) ((zx tg (j5 cs f) o (blk n fs τ) xs μ1).bind λys μ2=>.ok (.lst ys) μ2)
noncomputable abbrev wW(n:Nat)(fs:List Nat)(tg:Tg)(it:Di)(cs:List Dt)(f:De):De:=λτ μ=>(it τ μ).go λxs o μ1=>.grd (xs.length<=room) ((zx tg (j5 cs f) o (blk n fs τ) xs μ1).bind λys μ2=>.ok (.mut μ2.length) (μ2++[.lst ys]))
noncomputable abbrev zu(f:De):Ds:=λτ μ=>(f τ μ).out τ λt μ1=>.rt t μ1
noncomputable abbrev KO:Ds:=λ_ μ=>.rt .non μ
noncomputable abbrev W6(f:De):Ds:=λτ μ=>(f τ μ).out τ λ_ μ1=>.nx τ μ1
noncomputable abbrev zO(ss:List Ds):Ds:=List.rec (motive:=λ_=>Ds) (λτ μ=>.nx τ μ) (λs _ ih τ μ=>(s τ μ).seq ih) ss
noncomputable abbrev sIf(c:Dt)(a b:List Ds):Ds:=λτ μ=>(c τ μ).out τ λk μ1=>.br k (zO a τ μ1) (zO b τ μ1)
noncomputable abbrev zo(i:Nat)(f:De):Ds:=λτ μ=>(f τ μ).out τ λt μ1=>.nx (wU τ i (some t)) μ1
noncomputable abbrev UG(is:List Nat)(f:De):Ds:=λτ μ=>(f τ μ).out τ λt μ1=>.som (asg (.tup is) t τ) λτ'=>.nx τ' μ1
noncomputable abbrev V_(o:De)(n:Nat)(f:De):Ds:=λτ μ=>(f τ μ).out τ λt μ1=>(o τ μ1).out τ λot μ2=>match ot with
 |.mut i=>λE=>∃c fs,μ2[i]?=some (.obj c fs)/\fs.length<900/\E.nx τ (μ2.set i (.obj c (Vf n t fs)))
 |_=>.st
noncomputable abbrev Ww(o b f:De):Ds:=λτ μ=>(f τ μ).out τ λt μ1=>(o τ μ1).out τ λot μ2=>(b τ μ2).out τ λit μ3=>match ot,it with
 |.mut i,.int k=>λE=>∃ts,μ3[i]?=some (.lst ts)/\(0<=k/\k<ts.length/\k<9223372036854775808)/\E.nx τ (μ3.set i (.lst (ts.set k.toNat t)))
 |_,_=>.st
noncomputable def forM(tg:Tg)(body:Ds)(lv:Mem->Prop):List T->Ds
 |[],τ,μ=>.nx τ μ
 |x::r,τ,μ=>.som (asg tg x τ) λτ'=>λE=>body τ' μ (E.turn λτ2 μ2=>lv μ2/\forM tg body lv r τ2 μ2 E)
noncomputable abbrev Yb(tg:Tg)(it:Di)(body:List Ds):Ds:=λτ μ=>(it τ μ).out τ λxs o μ1=>forM tg (zO body) o xs τ μ1
noncomputable abbrev va(c f:Nat)(g:De):Ds:=λτ μ=>(g τ μ).out τ λt μ1=>match t with
 |.int i=>.grd (i.natAbs.log2<1920) (.ex c [(f,.int i)] τ μ1)
 |_=>.st
noncomputable abbrev z0m(i:Option Nat)(v:List Ds)(k:Nat)(fs:List (Nat×T))(τ:Sl)(μ:Mem):Out:=λE=>match i with
 |some j=>zO v (wU τ j (some (.exc k fs))) μ {nx:=λτ2 μ2=>E.nx (wU τ2 j none) μ2,rt:=E.rt,bk:=λ_ _=>False,ct:=λ_ _=>False,ex:=λ_ _ _ _=>False}
 |none=>zO v τ μ {nx:=E.nx,rt:=E.rt,bk:=λ_ _=>False,ct:=λ_ _=>False,ex:=λ_ _ _ _=>False}
noncomputable abbrev JN(hs:List (List Nat×Option Nat×List Ds)):Nat->List (Nat×T)->Sl->Mem->Out:=List.rec (motive:=λ_=>Nat->List (Nat×T)->Sl->Mem->Out) (λk fs τ μ=>.ex k fs τ μ) (λp _ ih k fs τ μ=>.br (isAny k p.1) (z0m p.2.1 p.2.2 k fs τ μ) (ih k fs τ μ)) hs
noncomputable abbrev X5(b:List Ds)(hs:List (List Nat×Option Nat×List Ds)):Ds:=λτ μ E=>zO b τ μ (E.tri λk fs τ1 μ1=>JN hs k fs τ1 μ1 E)
noncomputable abbrev pad(n:Nat):Sl:=Nat.rec (motive:=λ_=>Sl) [] (λ_ ih=>none::ih) n
noncomputable abbrev JB(ts:List T)(n:Nat):Sl:=List.rec (motive:=λ_=>Sl) (pad n) (λt _ ih=>some t::ih) ts
noncomputable abbrev fnW(n m:Nat)(body:List Ds):Fn:=λts μ K Z=>ts.length=n/\zO body (JB ts m) μ (En.fn K Z)
end NH
namespace NH
open PySem PySem.Spec PyProof.Rows L2
section
structure DP where
 K:PySem.W.Frag
 adr:Nat->Option Addr
 cad:Nat->Option Addr
 fn:Nat->Option Str
 inj:∀i j x,fn i=some x->fn j=some x->i=j
 clo:Nat->Addr->Option HO->List V->Prop
 tabs:Nat->Option (Addr×List Pos×Str)
noncomputable def XcAt (a C:Addr)(d:Option Addr):Heap->Prop:=λh=>∃oe vs,h.get? a=some oe/\oe.cls=.ref C/\oe.data=.fields vs/\oe.dict=d
noncomputable def Vn(x:Int×Int):Int:=reduceHash (Builtin.Tuple.tupleHashOf [hashInt x.1,hashInt x.2])
noncomputable def Ku(a:Addr)(xs:List ((Int×Int)×Addr)):Heap->Prop:=λh=>∃o es ep,h.get? a=some o/\o.ExactDict/\o.data=.dict es ep/\es.toList=xs.map λx=>(⟨Vn x.1,.ref x.2,.bool true⟩:DictEntry)
noncomputable def uE(c:Addr)(qn:Str):Heap->Prop:=λh=>h.CodeRec (.ref c) qn
mutual
def Den (D:DP)(φ α:List Addr)(H:Hp):T->V->Prop
 |.non,v=>v=.non
 |.bl b,v=>v=.bl b
 |.int i,v=>v=.int i
 |.str x,v=>v=.str x
 |.mut i,v=>∃a,α[i]?=some a/\v=.ref a
 |.tup ts,v=>∃a xs,v=.ref a/\a∉φ/\a∉α/\Rd H a (.tup xs)/\DenL D φ α H ts xs
 |.lst ts,v=>∃a xs,v=.ref a/\a∉φ/\a∉α/\Rd H a (.lst xs)/\DenL D φ α H ts xs
 |.obj c fs,v=>∃a C dx gs,v=.ref a/\a∉φ/\a∉α/\D.cad c=some C/\H a=some (.ins C dx gs)/\DenF D φ α H fs gs
 |.exc c fs,v=>∃a C d,v=.ref a/\a∉φ/\a∉α/\D.adr c=some C/\H a=some (.ext (XcAt a C d))/\(match d with
  |none=>fs=[]
  |some dx=>∃gs,dx∉φ/\dx∉α/\H dx=some (.xd gs)/\DenF D φ α H fs gs)
 |.dic kvs,v=>∃a gs,v=.ref a/\a∉φ/\a∉α/\H a=some (.dK gs)/\DenK D φ α H kvs gs
 |.clo j cs,v=>∃a ob xs,v=.ref a/\D.clo j a ob xs/\(∀o,ob=some o->a∉φ/\a∉α/\H a=some o)/\DenL D φ α H cs xs
def DenL (D:DP)(φ α:List Addr)(H:Hp):List T->List V->Prop
 |[],vs=>vs=[]
 |t::ts,vs=>∃v r,vs=v::r/\Den D φ α H t v/\DenL D φ α H ts r
def DenF (D:DP)(φ α:List Addr)(H:Hp):List (Nat×T)->List (Str×V)->Prop
 |[],gs=>gs=[]
 |p::fs,gs=>∃x v r,D.fn p.1=some x/\gs=(x,v)::r/\Den D φ α H p.2 v/\DenF D φ α H fs r
def DenK (D:DP)(φ α:List Addr)(H:Hp):List (Key×T)->List (Key×V)->Prop
 |[],gs=>gs=[]
 |p::fs,gs=>∃v r,gs=(p.1,v)::r/\Den D φ α H p.2 v/\DenK D φ α H fs r
end
noncomputable def XDict(D:DP)(φ α:List Addr)(H:Hp)(fs:List (Nat×T)):Option Addr->Prop
 |none=>fs=[]
 |some dx=>∃gs,dx∉φ/\dx∉α/\H dx=some (.xd gs)/\DenF D φ α H fs gs
noncomputable def DenO (D:DP)(φ α:List Addr)(H:Hp):MO->Addr->Prop
 |.lst ts,a=>∃xs,H a=some (.lst xs)/\DenL D φ α H ts xs
 |.obj c fs,a=>∃C dx gs,D.cad c=some C/\H a=some (.ins C dx gs)/\DenF D φ α H fs gs
 |.dic kvs,a=>∃gs,H a=some (.dK gs)/\DenK D φ α H kvs gs
 |.tab j,a=>∃poss qn ps,D.tabs j=some (a,poss,qn)/\H a=some (.tbl ps)/\TriplesOk ps.toList/\∀pos∈poss,codeAmong pos ps.toList=none\/∃c,codeAmong pos ps.toList=some (.ref c)/\c∉φ/\c∉α/\H c=some (.ext (uE c qn))
 |.dct ks,a=>∃xs:List ((Int×Int)×Addr),ks=xs.map (·.1)/\ks.Nodup/\ks.length<=100000/\(a == sysModules)=false/\H a=some (.ext (Ku a xs))/\∀x∈xs,x.2∉φ/\x.2∉α/\Rd H x.2 (.tup [.int x.1.1,.int x.1.2])
structure Stp(α:List Addr)(H:Hp)(α':List Addr)(H':Hp):Prop where
 ext:∃β,α'=α++β/\∀b∈β,H b=none
 keep:∀b o,b∉α->H b=some o->H' b=some o
 live:∀b,H' b=none->H b=none
theorem Stp.refl(α:List Addr)(H:Hp):Stp α H α H:=⟨⟨[],by simp,by simp⟩,λ_ _ _ e=>e,λ_ e=>e⟩
theorem Stp.trans{α α1 α2:List Addr}{H H1 H2:Hp}(a:Stp α H α1 H1)(b:Stp α1 H1 α2 H2):Stp α H α2 H2:=by
 obtain⟨β,rfl,hβ⟩:=a.ext
 obtain⟨γ,rfl,hγ⟩:=b.ext
 refine⟨⟨β++γ,by simp,λc hc=>?_⟩,λc o n e=>?_,λc e=>a.live c (b.live c e)⟩
 ·rcases List.mem_append.mp hc with h|h
  ·exact hβ c h
  ·exact a.live c (hγ c h)
 ·refine b.keep c o (λh=>?_) (a.keep c o n e)
  rcases List.mem_append.mp h with h|h
  ·exact n h
  ·rw[hβ c h] at e;cases e
theorem Stp.new{α:List Addr}{H H':Hp}(s:wA H H'):Stp α H α H':=⟨⟨[],by simp,by simp⟩,λb o _ e=>s b o e,λb e=>by
 cases q:H b with
 |none=>rfl
 |some o=>rw[s b o q] at e;cases e⟩
theorem zb{H:Hp}{p:Addr}{o:HO}(h:H p=none):wA H (upd H p o):=λb u e=>by rw[z7 (zA e h)];exact e
theorem Stp.out{α α':List Addr}{H H':Hp}(s:Stp α H α' H'){a:Addr}{o:HO}(n:a∉α)(e:H a=some o):a∉α':=by
 obtain⟨β,rfl,hβ⟩:=s.ext
 intro h
 rcases List.mem_append.mp h with h|h
 ·exact n h
 ·rw[hβ a h] at e;cases e
section
variable {D:DP}{φ φ' α α':List Addr}{H H':Hp}
structure Lk(φ α:List Addr)(H:Hp)(φ' α':List Addr)(H':Hp):Prop where
 ob:∀a o,a∉φ->a∉α->H a=some o->a∉φ'/\a∉α'/\H' a=some o
 st:∀(i:Nat) (a:Addr),α[i]?=some a->α'[i]?=some a
mutual
theorem Den.lk(h:Lk φ α H φ' α' H'):∀{t:T} {v:V},Den D φ α H t v->Den D φ' α' H' t v
 |.non,_,d=>d
 |.bl _,_,d=>d
 |.int _,_,d=>d
 |.str _,_,d=>d
 |.mut i,_,d=>by obtain⟨a,e,q⟩:=d;exact⟨a,h.st i a e,q⟩
 |.tup ts,_,d=>by
  obtain⟨a,xs,rfl,n1,n2,r,l⟩:=d
  rcases r with r|⟨o,r⟩
  ·obtain⟨m1,m2,e⟩:=h.ob a _ n1 n2 r
   exact⟨a,xs,rfl,m1,m2,.inl e,DenL.lk h l⟩
  ·obtain⟨m1,m2,e⟩:=h.ob a _ n1 n2 r
   exact⟨a,xs,rfl,m1,m2,.inr ⟨o,e⟩,DenL.lk h l⟩
 |.lst ts,_,d=>by
  obtain⟨a,xs,rfl,n1,n2,r,l⟩:=d
  rcases r with r|⟨o,r⟩
  ·obtain⟨m1,m2,e⟩:=h.ob a _ n1 n2 r
   exact⟨a,xs,rfl,m1,m2,.inl e,DenL.lk h l⟩
  ·obtain⟨m1,m2,e⟩:=h.ob a _ n1 n2 r
   exact⟨a,xs,rfl,m1,m2,.inr ⟨o,e⟩,DenL.lk h l⟩
 |.obj c fs,_,d=>by
  obtain⟨a,C,dx,gs,rfl,n1,n2,ad,e,l⟩:=d
  obtain⟨m1,m2,e⟩:=h.ob a _ n1 n2 e
  exact⟨a,C,dx,gs,rfl,m1,m2,ad,e,DenF.lk h l⟩
 |.exc c fs,_,d=>by
  obtain⟨a,C,d,rfl,n1,n2,ad,e,l⟩:=d
  obtain⟨m1,m2,e⟩:=h.ob a _ n1 n2 e
  refine⟨a,C,d,rfl,m1,m2,ad,e,?_⟩
  cases d with
  |none=>exact l
  |some dx=>
   obtain⟨gs,k1,k2,e2,l⟩:=l
   obtain⟨k1,k2,e2⟩:=h.ob dx _ k1 k2 e2
   exact⟨gs,k1,k2,e2,DenF.lk h l⟩
 |.dic kvs,_,d=>by
  obtain⟨a,gs,rfl,n1,n2,e,l⟩:=d
  obtain⟨m1,m2,e⟩:=h.ob a _ n1 n2 e
  exact⟨a,gs,rfl,m1,m2,e,DenK.lk h l⟩
 |.clo j cs,_,d=>by
  obtain⟨a,ob,xs,rfl,c,e,l⟩:=d
  exact⟨a,ob,xs,rfl,c,λo z=>let ⟨n1,n2,q⟩:=e o z;h.ob a o n1 n2 q,DenL.lk h l⟩
theorem DenL.lk(h:Lk φ α H φ' α' H'):∀{ts:List T} {vs:List V},DenL D φ α H ts vs->DenL D φ' α' H' ts vs
 |[],_,l=>l
 |t::ts,_,l=>by
  obtain⟨v,r,rfl,a,b⟩:=l
  exact⟨v,r,rfl,Den.lk h a,DenL.lk h b⟩
theorem DenF.lk(h:Lk φ α H φ' α' H'):∀{fs:List (Nat×T)} {gs:List (Str×V)},DenF D φ α H fs gs->DenF D φ' α' H' fs gs
 |[],_,l=>l
 |p::fs,_,l=>by
  obtain⟨x,v,r,e,rfl,a,b⟩:=l
  exact⟨x,v,r,e,rfl,Den.lk h a,DenF.lk h b⟩
theorem DenK.lk(h:Lk φ α H φ' α' H'):∀{fs:List (Key×T)} {gs:List (Key×V)},DenK D φ α H fs gs->DenK D φ' α' H' fs gs
 |[],_,l=>l
 |p::fs,_,l=>by
  obtain⟨v,r,rfl,a,b⟩:=l
  exact⟨v,r,rfl,Den.lk h a,DenK.lk h b⟩
end
theorem Stp.lk(s:Stp α H α' H'):Lk φ α H φ α' H':=⟨λa o n1 n2 e=>⟨n1,s.out n2 e,s.keep a o n2 e⟩,λi a e=>by
 obtain⟨β,rfl,_⟩:=s.ext
 rw[List.getElem?_append_left (List.getElem?_eq_some_iff.mp e).1];exact e⟩
theorem Den.step(s:Stp α H α' H'){t:T}{v:V}(d:Den D φ α H t v):Den D φ α' H' t v:=d.lk s.lk
theorem DenL.step(s:Stp α H α' H'){t:List T}{v:List V}(d:DenL D φ α H t v):DenL D φ α' H' t v:=d.lk s.lk
theorem DenF.step(s:Stp α H α' H'){t:List (Nat×T)}{v:List (Str×V)}(d:DenF D φ α H t v):DenF D φ α' H' t v:=d.lk s.lk
theorem XDict.lk{fs:List (Nat×T)}{d:Option Addr}(h:Lk φ α H φ' α' H')(x:XDict D φ α H fs d):XDict D φ' α' H' fs d:=by
 cases d with
 |none=>exact x
 |some dx=>
  obtain⟨gs,k1,k2,e2,l⟩:=x
  obtain⟨k1,k2,e2⟩:=h.ob dx _ k1 k2 e2
  exact⟨gs,k1,k2,e2,DenF.lk h l⟩
mutual
theorem Den.hide{β:List Addr}:∀{t:T} {v:V},wc t=true->Den D φ α H t v->(∀a,a∉φ->a∉α->a∉φ'/\a∉β)->Den D φ' β H t v
 |.non,_,_,h,_=>h
 |.bl _,_,_,h,_=>h
 |.int _,_,_,h,_=>h
 |.str _,_,_,h,_=>h
 |.mut i,_,p,_,_=>by simp[wc] at p
 |.tup ts,_,p,h,k=>by
  obtain⟨a,xs,rfl,n1,n2,r,l⟩:=h
  exact⟨a,xs,rfl,(k a n1 n2).1,(k a n1 n2).2,r,DenL.hide (by simpa[wc] using p) l k⟩
 |.lst ts,_,p,h,k=>by
  obtain⟨a,xs,rfl,n1,n2,r,l⟩:=h
  exact⟨a,xs,rfl,(k a n1 n2).1,(k a n1 n2).2,r,DenL.hide (by simpa[wc] using p) l k⟩
 |.obj c fs,_,p,h,k=>by
  obtain⟨a,C,dx,gs,rfl,n1,n2,ad,e,l⟩:=h
  exact⟨a,C,dx,gs,rfl,(k a n1 n2).1,(k a n1 n2).2,ad,e,DenF.hide (by simpa[wc] using p) l k⟩
 |.exc c fs,_,p,h,k=>by
  obtain⟨a,C,d,rfl,n1,n2,ad,e,l⟩:=h
  refine⟨a,C,d,rfl,(k a n1 n2).1,(k a n1 n2).2,ad,e,?_⟩
  cases d with
  |none=>exact l
  |some dx=>
   obtain⟨gs,k1,k2,e2,l⟩:=l
   exact⟨gs,(k dx k1 k2).1,(k dx k1 k2).2,e2,DenF.hide (by simpa[wc] using p) l k⟩
 |.dic kvs,_,p,h,k=>by
  obtain⟨a,gs,rfl,n1,n2,e,l⟩:=h
  exact⟨a,gs,rfl,(k a n1 n2).1,(k a n1 n2).2,e,DenK.hide (by simpa[wc] using p) l k⟩
 |.clo j cs,_,p,h,k=>by
  obtain⟨a,ob,xs,rfl,c,e,l⟩:=h
  exact⟨a,ob,xs,rfl,c,λo z=>let ⟨n1,n2,q⟩:=e o z;⟨(k a n1 n2).1,(k a n1 n2).2,q⟩,DenL.hide (by simpa[wc] using p) l k⟩
theorem DenL.hide{β:List Addr}:∀{ts:List T} {vs:List V},jT ts=true->DenL D φ α H ts vs->(∀a,a∉φ->a∉α->a∉φ'/\a∉β)->DenL D φ' β H ts vs
 |[],_,_,h,_=>h
 |t::ts,_,p,h,k=>by
  obtain⟨v,r,rfl,a,b⟩:=h
  simp only[jT,Bool.and_eq_true] at p
  exact⟨v,r,rfl,Den.hide p.1 a k,DenL.hide p.2 b k⟩
theorem DenF.hide{β:List Addr}:∀{fs:List (Nat×T)} {gs:List (Str×V)},j0 fs=true->DenF D φ α H fs gs->(∀a,a∉φ->a∉α->a∉φ'/\a∉β)->DenF D φ' β H fs gs
 |[],_,_,h,_=>h
 |q::fs,_,p,h,k=>by
  obtain⟨x,v,r,e,rfl,a,b⟩:=h
  simp only[j0,Bool.and_eq_true] at p
  exact⟨x,v,r,e,rfl,Den.hide p.1 a k,DenF.hide p.2 b k⟩
theorem DenK.hide{β:List Addr}:∀{fs:List (Key×T)} {gs:List (Key×V)},ZI fs=true->DenK D φ α H fs gs->(∀a,a∉φ->a∉α->a∉φ'/\a∉β)->DenK D φ' β H fs gs
 |[],_,_,h,_=>h
 |q::fs,_,p,h,k=>by
  obtain⟨v,r,rfl,a,b⟩:=h
  simp only[ZI,Bool.and_eq_true] at p
  exact⟨v,r,rfl,Den.hide p.1 a k,DenK.hide p.2 b k⟩
end
theorem XDict.hide{fs:List (Nat×T)}{d:Option Addr}{β:List Addr}(p:j0 fs=true)(x:XDict D φ α H fs d)(k:∀a,a∉φ->a∉α->a∉φ'/\a∉β):XDict D φ' β H fs d:=by
 cases d with
 |none=>exact x
 |some dx=>
  obtain⟨gs,k1,k2,e2,l⟩:=x
  exact⟨gs,(k dx k1 k2).1,(k dx k1 k2).2,e2,DenF.hide p l k⟩
theorem J4:∀a:Addr,a∉φ->a∉α->a∉φ++α/\a∉([]:List Addr):=λa n1 n2=>⟨λz=>(List.mem_append.mp z).elim n1 n2,by simp⟩
theorem y7{β:List Addr}:∀a:Addr,a∉φ++α->a∉β->a∉φ/\a∉α:=λa n1 _=>⟨λz=>n1 (List.mem_append_left _ z),λz=>n1 (List.mem_append_right _ z)⟩
theorem DenL.length:∀{ts:List T} {vs:List V},DenL D φ α H ts vs->ts.length=vs.length
 |[],_,h=>by have:_=[]:=h;subst this;rfl
 |t::ts,_,h=>by
  obtain⟨v,r,rfl,_,b⟩:=h
  simp[DenL.length b]
theorem DenL.get:∀{ts:List T} {vs:List V} {i:Nat} {t:T},DenL D φ α H ts vs->ts[i]?=some t->∃v,vs[i]?=some v/\Den D φ α H t v
 |[],_,_,_,_,e=>by simp at e
 |t::ts,_,0,_,h,e=>by
  obtain⟨v,r,rfl,a,b⟩:=h
  simp at e;subst e
  exact⟨v,rfl,a⟩
 |t::ts,_,i+1,u,h,e=>by
  obtain⟨v,r,rfl,a,b⟩:=h
  obtain⟨w,e',d⟩:=DenL.get (i:=i) (t:=u) b (by simpa using e)
  exact⟨w,by simpa using e',d⟩
theorem DenL.append:∀{ts us:List T} {vs ws:List V},DenL D φ α H ts vs->DenL D φ α H us ws->DenL D φ α H (ts++us) (vs++ws)
 |[],us,_,ws,h,k=>by have:_=[]:=h;subst this;exact k
 |t::ts,us,_,ws,h,k=>by
  obtain⟨v,r,rfl,a,b⟩:=h
  exact⟨v,r++ws,rfl,a,DenL.append b k⟩
theorem DenL.drop:∀(n:Nat) {ts:List T} {vs:List V},DenL D φ α H ts vs->DenL D φ α H (ts.drop n) (vs.drop n)
 |0,_,_,h=>h
 |n+1,[],_,h=>by have:_=[]:=h;subst this;exact rfl
 |n+1,t::ts,_,h=>by
  obtain⟨v,r,rfl,a,b⟩:=h
  exact DenL.drop n b
theorem DenL.take:∀(n:Nat) {ts:List T} {vs:List V},DenL D φ α H ts vs->DenL D φ α H (ts.take n) (vs.take n)
 |0,_,_,h=>by simp[DenL]
 |n+1,[],_,h=>by have:_=[]:=h;subst this;exact rfl
 |n+1,t::ts,_,h=>by
  obtain⟨v,r,rfl,a,b⟩:=h
  exact⟨v,r.take n,rfl,a,DenL.take n b⟩
theorem DenL.set:∀{ts:List T} {vs:List V} {i:Nat} {t:T} {v:V},DenL D φ α H ts vs->Den D φ α H t v->DenL D φ α H (ts.set i t) (vs.set i v)
 |[],vs,i,t,v,l,d=>by have l:vs=[]:=l;subst l;exact rfl
 |x::ts,_,0,t,v,l,d=>by
  obtain⟨w,r,rfl,dw,l⟩:=l
  exact⟨v,r,rfl,d,l⟩
 |x::ts,_,i+1,t,v,l,d=>by
  obtain⟨w,r,rfl,dw,l⟩:=l
  exact⟨w,r.set i v,rfl,dw,DenL.set l d⟩
theorem DenF.look:∀{fs:List (Nat×T)} {gs:List (Str×V)} {f:Nat} {t:T},DenF D φ α H fs gs->yq fs f=some t->∃x v,D.fn f=some x/\gs.lookup x=some v/\Den D φ α H t v
 |[],_,_,_,_,e=>by simp[yq] at e
 |p::fs,_,f,t,h,e=>by
  obtain⟨x,v,r,ex,rfl,a,b⟩:=h
  rw[Q5] at e
  cases q:Nat.beq p.1 f with
  |true=>
   have q':=Nat.eq_of_beq_eq_true q
   rw[q] at e
   have e:some p.2=some t:=e
   cases e
   exact⟨x,v,by rw[←q'];exact ex,by simp[List.lookup_cons],a⟩
  |false=>
   rw[q] at e
   obtain⟨y,w,h1,h2,h3⟩:=DenF.look b e
   refine⟨y,w,h1,?_,h3⟩
   rw[List.lookup_cons]
   have ne:(y == x)=false:=by
    refine beq_eq_false_iff_ne.mpr λz=>?_
    subst z
    have:=D.inj _ _ _ ex h1
    rw[this] at q
    simp at q
   rw[ne];exact h2
theorem DenF.put{f:Nat}{x:Str}{t:T}{w:V}(hx:D.fn f=some x):∀{fs:List (Nat×T)} {gs:List (Str×V)},DenF D φ α H fs gs->Den D φ α H t w->DenF D φ α H (Vf f t fs) (qG x w gs)
 |[],gs,h,d=>by
  have:gs=[]:=h
  subst this
  exact⟨x,w,[],hx,rfl,d,rfl⟩
 |p::fs,gs,h,d=>by
  obtain⟨z,y,r,ez,rfl,dy,l⟩:=h
  rw[ZX]
  show DenF D φ α H _ (if z=x then (z,w)::r else (z,y)::qG x w r)
  cases q:Nat.beq p.1 f with
  |true=>
   have q':=Nat.eq_of_beq_eq_true q
   have:z=x:=by rw[q',hx] at ez;exact (Option.some.inj ez).symm
   rw[if_pos this]
   exact⟨z,w,r,ez,rfl,d,l⟩
  |false=>
   have:z≠x:=λe=>by
    subst e
    have:=D.inj _ _ _ ez hx
    rw[this] at q
    simp at q
   rw[if_neg this]
   exact⟨z,y,qG x w r,ez,rfl,dy,DenF.put hx l d⟩
theorem DenF.length:∀{fs:List (Nat×T)} {gs:List (Str×V)},DenF D φ α H fs gs->fs.length=gs.length
 |[],_,h=>by have:_=[]:=h;subst this;rfl
 |p::fs,_,h=>by
  obtain⟨x,v,r,_,rfl,_,b⟩:=h
  simp[DenF.length b]
noncomputable def noF:HO->Bool
 |.frz _ _=>false
 |_=>true
structure MRel(D:DP)(φ α:List Addr)(H:Hp)(μ:Mem):Prop where
 len:α.length=μ.length
 nd:α.Nodup
 dis:∀b∈α,b∉φ
 phi:∀b∈φ,∃o,H b=some o/\noF o=true
 ob:∀(i:Nat) (a:Addr) (o:MO),α[i]?=some a->μ[i]?=some o->DenO D φ α H o a
theorem MRel.nil(D:DP){φ:List Addr}{H:Hp}(h:∀b∈φ,∃o,H b=some o/\noF o=true):MRel D φ [] H []:=⟨rfl,by simp,by simp,h,by simp⟩
theorem DenO.lk{o:MO}{a:Addr}(s:Lk φ α H φ' α' H')(e:H' a=H a)(h:DenO D φ α H o a):DenO D φ' α' H' o a:=by
 cases o with
 |lst ts=>
  obtain⟨xs,q,l⟩:=h
  exact⟨xs,e.trans q,DenL.lk s l⟩
 |obj c fs=>
  obtain⟨C,dx,gs,ad,q,l⟩:=h
  exact⟨C,dx,gs,ad,e.trans q,DenF.lk s l⟩
 |dic kvs=>
  obtain⟨xs,q,l⟩:=h
  exact⟨xs,e.trans q,DenK.lk s l⟩
 |tab j=>
  obtain⟨pos,qn,ps,h1,h2,h3,h4⟩:=h
  refine⟨pos,qn,ps,h1,e.trans h2,h3,λp hp=>(h4 p hp).imp id λ⟨c,k1,k2,k3,k4⟩=>?_⟩
  obtain⟨m1,m2,m3⟩:=s.ob c _ k2 k3 k4
  exact⟨c,k1,m1,m2,m3⟩
 |dct ks=>
  obtain⟨xs,h1,h2,h3,h4,h5,h6⟩:=h
  refine⟨xs,h1,h2,h3,h4,e.trans h5,λx hx=>?_⟩
  obtain⟨k1,k2,k3⟩:=h6 x hx
  rcases k3 with k3|⟨o,k3⟩
  ·obtain⟨m1,m2,m3⟩:=s.ob _ _ k1 k2 k3
   exact⟨m1,m2,.inl m3⟩
  ·obtain⟨m1,m2,m3⟩:=s.ob _ _ k1 k2 k3
   exact⟨m1,m2,.inr ⟨o,m3⟩⟩
theorem DenO.step{o:MO}{a:Addr}(s:Stp α H α' H')(e:H' a=H a)(h:DenO D φ α H o a):DenO D φ α' H' o a:=h.lk s.lk e
theorem DenO.some{o:MO}{a:Addr}(h:DenO D φ α H o a):∃u,H a=Option.some u/\noF u=true:=by
 cases o with
 |lst ts=>obtain⟨xs,q,_⟩:=h;exact⟨_,q,rfl⟩
 |obj c fs=>obtain⟨C,dx,gs,_,q,_⟩:=h;exact⟨_,q,rfl⟩
 |dic ts=>obtain⟨xs,q,_⟩:=h;exact⟨_,q,rfl⟩
 |tab j=>obtain⟨_,_,ps,_,q,_⟩:=h;exact⟨_,q,rfl⟩
 |dct ks=>obtain⟨_,_,_,_,_,q,_⟩:=h;exact⟨_,q,rfl⟩
theorem MRel.new{μ:Mem}(m:MRel D φ α H μ)(s:wA H H'):MRel D φ α H' μ:=
 ⟨m.len,m.nd,m.dis,λb hb=>let ⟨o,e,n⟩:=m.phi b hb;⟨o,s b o e,n⟩,λi a o e1 e2=>by
  have d:=m.ob i a o e1 e2
  obtain⟨u,q,_⟩:=d.some
  exact d.step (Stp.new s) ((s _ _ q).trans q.symm)⟩
theorem MRel.lk{μ:Mem}(h:Lk φ α H φ' α H')(hα:∀a∈α,H' a=H a/\a∉φ')(hφ:∀b∈φ',∃o,H' b=some o/\noF o=true)(m:MRel D φ α H μ):MRel D φ' α H' μ:=
 ⟨m.len,m.nd,λb hb=>(hα b hb).2,hφ,λi a o e1 e2=>(m.ob i a o e1 e2).lk h (hα a (List.mem_of_getElem? e1)).1⟩
structure SRel(D:DP)(φ α:List Addr)(H:Hp)(τ:Sl)(σ:St):Prop where
 len:τ.length=σ.length
 val:∀(i:Nat) (t:T),τ[i]?=some (some t)->∃v,σ[i]?=some (some v)/\Den D φ α H t v
theorem SRel.lk{τ:Sl}{σ:St}(r:SRel D φ α H τ σ)(s:Lk φ α H φ' α' H'):SRel D φ' α' H' τ σ:=⟨r.len,λi t e=>by
 obtain⟨v,q,d⟩:=r.val i t e
 exact⟨v,q,d.lk s⟩⟩
theorem SRel.step{τ:Sl}{σ:St}(r:SRel D φ α H τ σ)(s:Stp α H α' H'):SRel D φ α' H' τ σ:=r.lk s.lk
theorem SRel.set{τ:Sl}{σ:St}(r:SRel D φ α H τ σ){i:Nat}{t:T}{v:V}(d:Den D φ α H t v):SRel D φ α H (wU τ i (some t)) (σ.set i (some v)):=by
 rw[jf]
 refine⟨by simp[r.len],λj u e=>?_⟩
 by_cases h:i=j
 ·subst h
  rw[List.getElem?_set_self'] at e
  cases q:τ[i]? with
  |none=>rw[q] at e;cases e
  |some o=>
   rw[q] at e
   simp at e
   subst e
   have hl:i<σ.length:=by rw[←r.len];exact (List.getElem?_eq_some_iff.mp q).1
   exact⟨v,by simp[hl],d⟩
 ·rw[List.getElem?_set_ne h] at e ⊢
  exact r.val j u e
theorem SRel.unset{τ:Sl}{σ:St}{i:Nat}(r:SRel D φ α H τ σ):SRel D φ α H (wU τ i none) (σ.set i none):=by
 rw[jf]
 refine⟨by simp[r.len],λj t e=>?_⟩
 by_cases h:i=j
 ·subst h
  rw[List.getElem?_set_self'] at e
  cases q:τ[i]? with
  |none=>rw[q] at e;cases e
  |some o=>rw[q] at e;cases e
 ·rw[List.getElem?_set_ne h] at e ⊢
  exact r.val j t e
theorem SRel.get{τ:Sl}{σ:St}(r:SRel D φ α H τ σ){i:Nat}{t:T}(e:ZR τ i=some t):∃v,σ[i]?=some (some v)/\Den D φ α H t v:=r.val i t (Zb.mp e)
end
theorem vI{φ α:List Addr}{H:Hp}{b:Addr}(hb:H b=none):Lk φ α H (φ++[b]) α H:=by
 refine⟨λa o n1 n2 e=>⟨λz=>?_,n2,e⟩,λ_ _ e=>e⟩
 rcases List.mem_append.mp z with z|z
 ·exact n1 z
 ·rw[List.mem_singleton.mp z,hb] at e
  cases e
theorem jA{φ α:List Addr}{H H':Hp}{b:Addr}(hb:H b=none)(s:wA H H'):Lk φ α H (φ++[b]) α H':=⟨λa o n1 n2 e=>let ⟨q1,q2,q3⟩:=(vI hb).ob a o n1 n2 e;⟨q1,q2,s a o e⟩,λ_ _ e=>e⟩
theorem zR{φ α:List Addr}{H:Hp}{b:Addr}:Lk (φ++[b]) α H φ α H:=⟨λa o n1 n2 e=>⟨λz=>n1 (List.mem_append_left _ z),n2,e⟩,λ_ _ e=>e⟩
theorem vn{φ α:List Addr}{H:Hp}{b:Addr}{u:HO}(hb:b∈φ):Lk φ α H φ α (upd H b u):=⟨λa o n1 n2 e=>⟨n1,n2,by rw[z7 (λz:a=b=>n1 (by rw[z];exact hb))];exact e⟩,λ_ _ e=>e⟩
end
inductive Post(D:DP)(W:XW)(φ α:List Addr)(H:Hp)(σ:St){β:Type}(R:β->Mem->List Addr->Hp->Prop)(r:RE β):Prop where
 |mk (K:β->Mem->Prop) (Z:Xp) (q:r K Z) (h:(∀a μ',K a μ'->∀α' H',Stp α H α' H'->MRel D φ α' H' μ'->R a μ' α' H')/\
  ∀c fs μ',Z c fs μ'->∀α' H' C d,Stp α H α' H'->MRel D φ α' H' μ'->D.adr c=some C->XDict D φ α' H' fs d->W (.ref C) d σ H')
inductive RdP(D:DP)(H:Hp)(σ:St)(P:List Addr->List Addr->Sl->Mem->Prop):Prop where
 |mk (φ α:List Addr) (τ:Sl) (μ:Mem) (sr:SRel D φ α H τ σ) (mr:MRel D φ α H μ) (p:P φ α τ μ)
section
variable {D:DP}{W:XW}{φ α α':List Addr}{H H':Hp}{σ:St}{β γ:Type}{R R':β->Mem->List Addr->Hp->Prop}{S:γ->Mem->List Addr->Hp->Prop}
theorem Post.mono{r:RE β}(p:Post D W φ α H σ R r)(h:∀a μ' α' H',Stp α H α' H'->MRel D φ α' H' μ'->R a μ' α' H'->R' a μ' α' H'):Post D W φ α H σ R' r:=by
 obtain⟨K,Z,q,k,z⟩:=p
 exact⟨K,Z,q,λa μ' e α' H' s m=>h a μ' α' H' s m (k a μ' e α' H' s m),z⟩
theorem Post.bind{r:RE γ}{k:γ->Mem->RE β}(p:Post D W φ α H σ R (r.bind k)):Post D W φ α H σ (λa μ' α' H'=>Post D W φ α' H' σ R (k a μ')) r:=by
 obtain⟨K,Z,q,h,z⟩:=p
 exact⟨λa μ=>k a μ K Z,Z,q,λa μ' e α' H' s m=>⟨K,Z,e,λb μ2 e2 α2 H2 s2 m2=>h b μ2 e2 α2 H2 (s.trans s2) m2,λc fs μ2 e2 α2 H2 C d s2 m2=>z c fs μ2 e2 α2 H2 C d (s.trans s2) m2⟩,z⟩
theorem Post.elim{C:Prop}(p:Post D W φ α H σ R RE.st):C:=by obtain⟨_,_,q,_⟩:=p;exact q.elim
theorem Post.grd{c:Prop}{r:RE β}(p:Post D W φ α H σ R (RE.grd c r)):c/\Post D W φ α H σ R r:=by
 obtain⟨K,Z,q,h⟩:=p
 exact⟨q.1,K,Z,q.2,h⟩
theorem Post.som{o:Option γ}{k:γ->RE β}(p:Post D W φ α H σ R (RE.som o k)):∃a,o=some a/\Post D W φ α H σ R (k a):=by
 obtain⟨K,Z,⟨a,e,q⟩,h⟩:=p
 exact⟨a,e,K,Z,q,h⟩
theorem Post.br{b:Bool}{r s:RE β}(p:Post D W φ α H σ R (RE.br b r s)):(b=true/\Post D W φ α H σ R r)\/(b=false/\Post D W φ α H σ R s):=by
 obtain⟨K,Z,q,h⟩:=p
 cases b with
 |true=>exact .inl ⟨rfl,K,Z,q,h⟩
 |false=>exact .inr ⟨rfl,K,Z,q,h⟩
theorem Post.ok{a:β}{μ:Mem}(p:Post D W φ α H σ R (RE.ok a μ)){α':List Addr}{H':Hp}(s:Stp α H α' H')(m:MRel D φ α' H' μ):R a μ α' H':=by
 obtain⟨K,Z,q,h,_⟩:=p
 exact h a μ q α' H' s m
theorem Post.step{r:RE β}(p:Post D W φ α H σ R r)(st:Stp α H α' H'):Post D W φ α' H' σ R r:=by
 obtain⟨K,Z,q,h,z⟩:=p
 exact⟨K,Z,q,λb μ2 e2 α2 H2 s2 m2=>h b μ2 e2 α2 H2 (st.trans s2) m2,λc fs μ2 e2 α2 H2 C d s2 m2=>z c fs μ2 e2 α2 H2 C d (st.trans s2) m2⟩
theorem Post.ex1{δ:Type}{P:δ->Prop}{k:δ->RE β}(p:Post D W φ α H σ R (λK Z=>∃x,P x/\k x K Z)):∃x,P x/\Post D W φ α H σ R (k x):=by
 obtain⟨K,Z,⟨x,hx,q⟩,h⟩:=p
 exact⟨x,hx,K,Z,q,h⟩
end
noncomputable def rdE (D:DP)(W:XW)(f:De):TE:=λσ H Q=>RdP D H σ λφ α τ μ=>Post D W φ α H σ (λt _ α' H'=>∀v,Den D φ α' H' t v->Q v H') (f τ μ)
noncomputable def rdT (D:DP)(W:XW)(f:Dt):TT:=λσ H Q=>RdP D H σ λφ α τ μ=>Post D W φ α H σ (λb _ _ H'=>Q b H') (f τ μ)
noncomputable def rdA (D:DP)(W:XW)(n:Nat)(f:Da):TA:=λσ H Q=>RdP D H σ λφ α τ μ=>Post D W φ α H σ (λts _ α' H'=>∀vs,DenL D φ α' H' ts vs->vs.length=n->Q vs H') (f τ μ)
section
variable {X:Cx}{D:DP}{W:XW}{pins:List (Addr×Obj)}{s:Shared}{σ:St}{H:Hp}{φ α:List Addr}{τ:Sl}{μ:Mem}{β:Type}{R:β->Mem->List Addr->Hp->Prop}
inductive SubP(X:Cx)(D:DP)(W:XW)(pins:List (Addr×Obj))(σ:St)(H:Hp)(φ α:List Addr)(τ:Sl){β:Type}(R:β->Mem->List Addr->Hp->Prop)(k:T->Mem->RE β)(u:Value)(s1:Shared):Prop where
 |mk (v:V) (H1:Hp) (t:T) (μ1:Mem) (α1:List Addr) (i:Inv X pins σ H1 s1) (r:RelV v u) (st:Stp α H α1 H1) (sr:SRel D φ α1 H1 τ σ) (mr:MRel D φ α1 H1 μ1) (d:Den D φ α1 H1 t v) (p:Post D W φ α1 H1 σ R (k t μ1))
inductive SubT(X:Cx)(D:DP)(W:XW)(pins:List (Addr×Obj))(σ:St)(H:Hp)(φ α:List Addr)(τ:Sl){β:Type}(R:β->Mem->List Addr->Hp->Prop)(k:Bool->Mem->RE β)(b:Bool)(s1:Shared):Prop where
 |mk (H1:Hp) (μ1:Mem) (α1:List Addr) (i:Inv X pins σ H1 s1) (st:Stp α H α1 H1) (sr:SRel D φ α1 H1 τ σ) (mr:MRel D φ α1 H1 μ1) (p:Post D W φ α1 H1 σ R (k b μ1))
inductive SubA(X:Cx)(D:DP)(W:XW)(pins:List (Addr×Obj))(σ:St)(H:Hp)(φ α:List Addr)(τ:Sl){β:Type}(R:β->Mem->List Addr->Hp->Prop)(n:Nat)(k:List T->Mem->RE β)(us:List Value)(s1:Shared):Prop where
 |mk (vs:List V) (H1:Hp) (ts:List T) (μ1:Mem) (α1:List Addr) (i:Inv X pins σ H1 s1) (r:Vals vs us) (st:Stp α H α1 H1) (sr:SRel D φ α1 H1 τ σ) (mr:MRel D φ α1 H1 μ1) (d:DenL D φ α1 H1 ts vs) (hn:vs.length=n) (p:Post D W φ α1 H1 σ R (k ts μ1))
theorem sub{a:Expr}{f:Sl->Mem->RE T}{k:T->Mem->RE β}(ha:PE X a (rdE D W f))(I:Inv X pins σ H s)(sr:SRel D φ α H τ σ)(mr:MRel D φ α H μ)(p:Post D W φ α H σ R ((f τ μ).bind k)) :
  wpAny (model X.prog X.w) X.A (eval a X.env) (SubP X D W pins σ H φ α τ R k) X.xe s:=by
 refine thn (ha pins s σ H (λv H1=>∃t μ1 α1,Stp α H α1 H1/\SRel D φ α1 H1 τ σ/\MRel D φ α1 H1 μ1/\Den D φ α1 H1 t v/\Post D W φ α1 H1 σ R (k t μ1)) I ⟨φ,α,τ,μ,sr,mr,p.bind.mono λt μ' α' H' st m q v d=>⟨t,μ',α',st,sr.step st,m,d,q⟩⟩) ?_
 rintro u s1 ⟨v,H1,I1,r,t,μ1,α1,h1,h2,h3,h4,h⟩
 exact⟨v,H1,t,μ1,α1,I1,r,h1,h2,h3,h4,h⟩
theorem UM{a:Expr}{f:Sl->Mem->RE Bool}{k:Bool->Mem->RE β}(ha:PT X a (rdT D W f))(I:Inv X pins σ H s)(sr:SRel D φ α H τ σ)(mr:MRel D φ α H μ)(p:Post D W φ α H σ R ((f τ μ).bind k)) :
  wpAny (model X.prog X.w) X.A (isTrue a X.env (eval a X.env)) (SubT X D W pins σ H φ α τ R k) X.xe s:=by
 refine thn (ha pins s σ H (λb H1=>∃μ1 α1,Stp α H α1 H1/\SRel D φ α1 H1 τ σ/\MRel D φ α1 H1 μ1/\Post D W φ α1 H1 σ R (k b μ1)) I ⟨φ,α,τ,μ,sr,mr,p.bind.mono λb μ' α' H' st m q=>⟨μ',α',st,sr.step st,m,q⟩⟩) ?_
 rintro b s1 ⟨H1,I1,μ1,α1,h1,h2,h3,h⟩
 exact⟨H1,μ1,α1,I1,h1,h2,h3,h⟩
theorem z0x{es:List Expr}{n:Nat}{pos:Pos}{f:Da}{k:List T->Mem->RE β}(ha:PA X es (rdA D W n f))(I:Inv X pins σ H s)(sr:SRel D φ α H τ σ)(mr:MRel D φ α H μ)(p:Post D W φ α H σ R ((f τ μ).bind k)) :
  wpAny (model X.prog X.w) X.A (spliced (backTo pos (starEach es X.env))) (SubA X D W pins σ H φ α τ R n k) X.xe s:=by
 refine thn (ha pos pins s σ H (λvs H1=>∃ts μ1 α1,Stp α H α1 H1/\SRel D φ α1 H1 τ σ/\MRel D φ α1 H1 μ1/\DenL D φ α1 H1 ts vs/\vs.length=n/\Post D W φ α1 H1 σ R (k ts μ1)) I ⟨φ,α,τ,μ,sr,mr,p.bind.mono λts μ' α' H' st m q vs d hn=>⟨ts,μ',α',st,sr.step st,m,d,hn,q⟩⟩) ?_
 rintro us s1 ⟨vs,H1,I1,r,ts,μ1,α1,h1,h2,h3,h4,h5,h⟩
 exact⟨vs,H1,ts,μ1,α1,I1,r,h1,h2,h3,h4,h5,h⟩
abbrev RV(D:DP)(φ:List Addr)(Q:VK):T->Mem->List Addr->Hp->Prop:=λt _ α' H'=>∀v,Den D φ α' H' t v->Q v H'
theorem Post.here{Q:VK}{t:T}{v:V}(p:Post D W φ α H σ (RV D φ Q) (.ok t μ))(mr:MRel D φ α H μ)(d:Den D φ α H t v):Q v H:=p.ok (Stp.refl _ _) mr v d
theorem Post.fresh{Q:VK}{t:T}{v:V}{H':Hp}(p:Post D W φ α H σ (RV D φ Q) (.ok t μ))(mr:MRel D φ α H μ)(sm:wA H H')(d:Den D φ α H' t v):Q v H':=p.ok (Stp.new sm) (mr.new sm) v d
theorem zv{n:Nat}(h:n<=room):n<=sizeLine:=Nat.le_trans h (by unfold room;decide)
theorem zf{α:List Addr}(mr:MRel D φ α H μ){p:Addr}(h:H p=none):p∉φ:=λz=>by
 obtain⟨o,e,_⟩:=mr.phi p z
 rw[h] at e;cases e
theorem zh{α:List Addr}(mr:MRel D φ α H μ){p:Addr}(h:H p=none):p∉α:=λz=>by
 obtain⟨i,hi⟩:=List.mem_iff_getElem?.mp z
 have hl:i<μ.length:=by rw[←mr.len];exact (List.getElem?_eq_some_iff.mp hi).1
 obtain⟨u,e,_⟩:=(mr.ob i p μ[i] hi (by simp[hl])).some
 rw[h] at e;cases e
theorem wZ:∀{ts:List T} {ns:List Int} {vs:List V},intsOf ts=some ns->DenL D φ α H ts vs->vs=ns.map V.int
 |[],ns,vs,h,l=>by
  simp[intsOf] at h;subst h
  exact l
 |t::ts,ns,vs,h,l=>by
  obtain⟨v,r,rfl,d,l⟩:=l
  cases t with
  |int i=>
   simp only[intsOf] at h
   cases q:intsOf ts with
   |none=>rw[q] at h;cases h
   |some ms=>
    rw[q] at h;cases h
    rw[wZ q l]
    have d:v=.int i:=d
    rw[d];rfl
  |_=>simp[intsOf] at h
theorem Zz:OpR X (binaryOp .Add) (λx y H Q=>∃l b xs zs,x=.ref l/\y=.ref b/\Rd H l (.lst xs)/\Rd H b (.lst zs)/\xs.length+zs.length<=sizeLine/\∀p,H p=none->Q (.ref p) (upd H p (.lst (xs++zs)))):=by
 intro pins s σ H x y v u Q I rx ry h
 obtain⟨l,b,xs,zs,rfl,rfl,hH,hB,hz,q⟩:=h
 cases rx
 cases ry
 obtain⟨z,its,n,r,e⟩:=hH.ok I.hok
 obtain⟨z2,its2,n2,r2,e2⟩:=hB.ok I.hok
 refine PySem.P.add_list e e2 ?_ (by rw[List.size_toArray,List.size_toArray,←r.length,←r2.length];exact hz)
 rw[show its.toArray++its2.toArray=(its++its2).toArray by simp]
 exact⟨.ref _,_,I.lnew (t':=s.toks) (r.append r2) (by rw[List.length_append];exact hz),rfl,q _ I.fresh⟩
theorem WX:OpR X (binaryOp .Add) (λx y H Q=>∃a b ys,x=.ref a/\y=.ref b/\SqT X.K H a []/\SqT X.K H b ys/\Q (.ref b) H):=by
 intro pins s σ H x y v u Q I rx ry h
 obtain⟨a,b,ys,rfl,rfl,ha,hb,q⟩:=h
 cases rx
 cases ry
 obtain⟨its,r1,p1,_⟩:=I.tuple ha
 obtain⟨its2,r2,p2,_⟩:=I.tuple hb
 cases r1
 obtain⟨⟨cls,dd,data,sl⟩,ho,hc,n,hd⟩:=id p1
 obtain⟨⟨cls2,dd2,data2,sl2⟩,ho2,hc2,n2,hd2⟩:=id p2
 simp only at hc hd hc2 hd2
 subst hc hd hc2 hd2
 exact concat_meets ⟨_,ho,rfl⟩ ⟨_,ho2,rfl⟩ noFill_tuple_add seq_tuple_add PySem.F.slot_tuple_add PySem.F.entry_tuple_add (PySem.F.args_tuple_add_2 _ _)
  (tuple_addW0 a b #[] its2.toArray n n2 dd dd2 sl sl2 rfl) ⟨ho,ho2,⟨.ref b,H,I,rfl,q⟩⟩
theorem Vt:OpR X (binaryOp .FloorDiv) (rI (λ_ j=>0<j/\j<1606938044258990275541962092341162602522202993782792835301376) λi j=>.int (i / j)):=opI λi j _ _ _ _ _ hc q=>by
 have h1:(0:Int)<j:=hc.1
 have h2:j<1606938044258990275541962092341162602522202993782792835301376:=hc.2
 refine floordiv_int (by omega) (by rw[Int.fdiv_eq_ediv_of_nonneg i (by omega)];exact q) (.inl (PyProof.noPylong_of_log2 ?_))
 refine Nat.lt_of_lt_of_le ((Nat.log2_lt (by omega)).2 (show j.natAbs<2 ^ 200 by omega)) (by decide)
theorem qP{f:Int->Int->Mem->RE T}{x y:T}{Q:VK}(p:Post D W φ α H σ (RV D φ Q) (xW f x y μ)):∃i j,x=.int i/\y=.int j/\Post D W φ α H σ (RV D φ Q) (f i j μ):=by
 unfold xW at p
 split at p
 ·exact⟨_,_,rfl,rfl,p⟩
 ·exact p.elim
theorem YQ{op:Operator}{x y:T}{v1 v2:V}{u1 u2:Value}{Q:VK}(I:Inv X pins σ H s)(mr:MRel D φ α H μ)(d1:Den D φ α H x v1)(d2:Den D φ α H y v2)(r1:RelV v1 u1)(r2:RelV v2 u2)
  (p:Post D W φ α H σ (RV D φ Q) (z0k op x y μ)):wpAny (model X.prog X.w) X.A (binaryOp op u1 u2) (EP X pins σ Q) X.xe s:=by
 have cat:∀{a b:Addr} {vs ws:List V} {xs ys:List T},Rd H a (.lst vs)->Rd H b (.lst ws)->DenL D φ α H xs vs->DenL D φ α H ys ws->v1=.ref a->v2=.ref b->xs.length+ys.length<=room->Post D W φ α H σ (RV D φ Q) (RE.ok (.lst (xs++ys)) μ)->wpAny (model X.prog X.w) X.A (binaryOp .Add u1 u2) (EP X pins σ Q) X.xe s:=λ{a b vs ws xs ys} q1 q2 l1 l2 e1 e2 h p=>by
  subst e1 e2
  refine Zz pins s σ H _ _ _ _ Q I r1 r2 ⟨a,b,vs,ws,rfl,rfl,q1,q2,by rw[←l1.length,←l2.length];exact zv h,λz hz=>?_⟩
  have sm:=zb (o:=.lst (vs++ws)) hz
  exact p.fresh mr sm ⟨z,_,rfl,zf mr hz,zh mr hz,.inl z8,(l1.step (Stp.new sm)).append (l2.step (Stp.new sm))⟩
 cases op with
 |Add=>
  replace p:Post D W φ α H σ (RV D φ Q) (Yu x y μ):=p
  unfold Yu at p
  split at p
  ·cases d1;cases d2
   exact Yy pins s σ H _ _ _ _ Q I r1 r2 ⟨_,_,rfl,rfl,p.here mr rfl⟩
  ·cases d1;cases d2
   obtain⟨h,p⟩:=p.grd
   exact uL pins s σ H _ _ _ _ Q I r1 r2 ⟨_,_,rfl,rfl,zv h,p.here mr rfl⟩
  ·obtain⟨h,p⟩:=p.grd
   obtain⟨a,vs,rfl,n1,n2,q1,l1⟩:=d1
   obtain⟨b,ws,rfl,m1,m2,q2,l2⟩:=d2
   refine Zz pins s σ H _ _ _ _ Q I r1 r2 ⟨a,b,vs,ws,rfl,rfl,q1,q2,by rw[←l1.length,←l2.length];exact zv h,λz hz=>?_⟩
   have sm:=zb (o:=.lst (vs++ws)) hz
   exact p.fresh mr sm ⟨z,_,rfl,zf mr hz,zh mr hz,.inl z8,(l1.step (Stp.new sm)).append (l2.step (Stp.new sm))⟩
  ·rename_i xs ys
   obtain⟨h,p⟩:=p.grd
   ·obtain⟨a,vs,rfl,n1,n2,q1,l1⟩:=d1
    obtain⟨b,ws,rfl,m1,m2,q2,l2⟩:=d2
    cases vs with
    |nil=>
     cases xs with
     |cons x xs=>obtain⟨_,_,e,_⟩:=l1;cases e
     |nil=>exact WX pins s σ H _ _ _ _ Q I r1 r2 ⟨a,b,ws,rfl,rfl,.inl q1,.inl q2,p.here mr ⟨b,ws,rfl,m1,m2,q2,l2⟩⟩
    |cons v vs=>
     refine VW pins s σ H _ _ _ _ Q I r1 r2 ⟨a,b,v::vs,ws,rfl,rfl,.inl q1,.inl q2,by simp,by rw[←l1.length,←l2.length];exact zv h,λhw=>?_,λhw z hz=>?_⟩
     ·subst hw
      cases ys with
      |cons y ys=>obtain⟨_,_,e,_⟩:=l2;cases e
      |nil=>
       rw[List.append_nil] at p
       exact p.here mr ⟨a,v::vs,rfl,n1,n2,q1,l1⟩
     ·have sm:=zb (o:=.tup (v::vs++ws)) hz
      exact p.fresh mr sm ⟨z,_,rfl,zf mr hz,zh mr hz,.inl z8,(l1.step (Stp.new sm)).append (l2.step (Stp.new sm))⟩
  ·obtain⟨xs,hi,p⟩:=p.ex1
   obtain⟨h,p⟩:=Post.grd p
   obtain⟨a,hi',rfl⟩:=d1
   obtain⟨vs,q1,l1⟩:=mr.ob _ a _ hi' hi
   obtain⟨b,ws,rfl,m1,m2,q2,l2⟩:=d2
   exact cat (.inl q1) q2 l1 l2 rfl rfl h p
  ·obtain⟨ys,hi,p⟩:=p.ex1
   obtain⟨h,p⟩:=Post.grd p
   obtain⟨a,hi',rfl⟩:=d2
   obtain⟨vs,q1,l1⟩:=mr.ob _ a _ hi' hi
   obtain⟨b,ws,rfl,m1,m2,q2,l2⟩:=d1
   exact cat q2 (.inl q1) l2 l1 rfl rfl h p
  ·obtain⟨pr,hi,p⟩:=p.ex1
   obtain⟨h,p⟩:=Post.grd p
   obtain⟨a,hi',rfl⟩:=d1
   obtain⟨vs,q1,l1⟩:=mr.ob _ a _ hi' hi.1
   obtain⟨b,hj',rfl⟩:=d2
   obtain⟨ws,q2,l2⟩:=mr.ob _ b _ hj' hi.2
   exact cat (.inl q1) (.inl q2) l1 l2 rfl rfl h p
  ·exact p.elim
 |Sub=>
  obtain⟨i,j,rfl,rfl,p⟩:=qP p
  cases d1;cases d2
  exact XI pins s σ H _ _ _ _ Q I r1 r2 ⟨_,_,rfl,rfl,p.here mr rfl⟩
 |Mult=>
  obtain⟨i,j,rfl,rfl,p⟩:=qP p
  cases d1;cases d2
  obtain⟨h,p⟩:=p.grd
  exact Yz pins s σ H _ _ _ _ Q I r1 r2 ⟨_,_,rfl,rfl,by simpa[CMul,big] using h,p.here mr rfl⟩
 |FloorDiv=>
  obtain⟨i,j,rfl,rfl,p⟩:=qP p
  cases d1;cases d2
  obtain⟨h,p⟩:=p.grd
  exact Vt pins s σ H _ _ _ _ Q I r1 r2 ⟨_,_,rfl,rfl,h,p.here mr rfl⟩
 |Mod=>
  obtain⟨i,j,rfl,rfl,p⟩:=qP p
  cases d1;cases d2
  obtain⟨h,p⟩:=p.grd
  exact X8 pins s σ H _ _ _ _ Q I r1 r2 ⟨_,_,rfl,rfl,h,p.here mr rfl⟩
 |Pow=>
  obtain⟨i,j,rfl,rfl,p⟩:=qP p
  cases d1;cases d2
  obtain⟨h,p⟩:=p.grd
  exact U2 pins s σ H _ _ _ _ Q I r1 r2 ⟨_,_,rfl,rfl,⟨h.1,h.2.1,by simpa using h.2.2⟩,p.here mr rfl⟩
 |RShift=>
  obtain⟨i,j,rfl,rfl,p⟩:=qP p
  cases d1;cases d2
  obtain⟨h,p⟩:=p.grd
  exact YY pins s σ H _ _ _ _ Q I r1 r2 ⟨_,_,rfl,rfl,h,p.here mr rfl⟩
 |BitAnd=>
  obtain⟨i,j,rfl,rfl,p⟩:=qP p
  cases d1;cases d2
  exact Xo pins s σ H _ _ _ _ Q I r1 r2 ⟨_,_,rfl,rfl,p.here mr rfl⟩
 |_=>exact (show Post D W φ α H σ (RV D φ Q) .st from p).elim
end
section
section
variable {D:DP}{φ α:List Addr}{H:Hp}
theorem Rd.inj{a:Addr}{u w:HO}(hu:∀o z,u≠.frz o z)(hw:∀o z,w≠.frz o z)(r:Rd H a u)(q:Rd H a w):u=w:=by
 rcases r with r|⟨o,r⟩<;>rcases q with q|⟨o',q⟩<;>rw[r] at q
 ·exact Option.some.inj q
 ·exact absurd (Option.some.inj q) (hu _ _)
 ·exact absurd (Option.some.inj q).symm (hw _ _)
 ·injection Option.some.inj q
mutual
theorem jW:∀{t u:T} {v:V} {k:Bool},Den D φ α H t v->Den D φ α H u v->eqT t u=some k->k=true
 |.int i,u,_,k,h1,h2,e=>by
  have h1:_=V.int i:=h1
  subst h1
  cases u with
  |int j=>have h2:V.int i=V.int j:=h2;injection h2 with h2;subst h2;rw[←Option.some.inj e];simp
  |bl b=>have h2:V.int i=V.bl b:=h2;cases h2
  |str b=>have h2:V.int i=V.str b:=h2;cases h2
  |non=>have h2:V.int i=V.non:=h2;cases h2
  |tup b=>obtain⟨_,_,h2,_⟩:=h2;cases h2
  |lst b=>obtain⟨_,_,h2,_⟩:=h2;cases h2
  |_=>cases e
 |.bl i,u,_,k,h1,h2,e=>by
  have h1:_=V.bl i:=h1
  subst h1
  cases u with
  |bl j=>have h2:V.bl i=V.bl j:=h2;injection h2 with h2;subst h2;rw[←Option.some.inj e];simp
  |int b=>have h2:V.bl i=V.int b:=h2;cases h2
  |str b=>have h2:V.bl i=V.str b:=h2;cases h2
  |non=>have h2:V.bl i=V.non:=h2;cases h2
  |tup b=>obtain⟨_,_,h2,_⟩:=h2;cases h2
  |lst b=>obtain⟨_,_,h2,_⟩:=h2;cases h2
  |_=>cases e
 |.str i,u,_,k,h1,h2,e=>by
  have h1:_=V.str i:=h1
  subst h1
  cases u with
  |str j=>have h2:V.str i=V.str j:=h2;injection h2 with h2;subst h2;rw[←Option.some.inj e];simp
  |int b=>have h2:V.str i=V.int b:=h2;cases h2
  |bl b=>have h2:V.str i=V.bl b:=h2;cases h2
  |non=>have h2:V.str i=V.non:=h2;cases h2
  |tup b=>obtain⟨_,_,h2,_⟩:=h2;cases h2
  |lst b=>obtain⟨_,_,h2,_⟩:=h2;cases h2
  |_=>cases e
 |.non,u,_,k,h1,h2,e=>by
  have h1:_=V.non:=h1
  subst h1
  cases u with
  |non=>exact (Option.some.inj e).symm
  |int b=>have h2:V.non=V.int b:=h2;cases h2
  |bl b=>have h2:V.non=V.bl b:=h2;cases h2
  |str b=>have h2:V.non=V.str b:=h2;cases h2
  |tup b=>obtain⟨_,_,h2,_⟩:=h2;cases h2
  |lst b=>obtain⟨_,_,h2,_⟩:=h2;cases h2
  |_=>cases e
 |.tup ts,u,_,k,h1,h2,e=>by
  obtain⟨a,xs,rfl,_,_,r,l⟩:=h1
  cases u with
  |tup us=>
   obtain⟨b,ys,e2,_,_,r',l'⟩:=h2
   cases e2
   have:=Rd.inj (by intro _ _ z;cases z) (by intro _ _ z;cases z) r r'
   injection this with this
   subst this
   exact vE l l' e
  |lst us=>
   obtain⟨b,ys,e2,_,_,r',l'⟩:=h2
   cases e2
   have:=Rd.inj (by intro _ _ z;cases z) (by intro _ _ z;cases z) r r'
   cases this
  |int b=>have h2:V.ref a=V.int b:=h2;cases h2
  |bl b=>have h2:V.ref a=V.bl b:=h2;cases h2
  |str b=>have h2:V.ref a=V.str b:=h2;cases h2
  |non=>have h2:V.ref a=V.non:=h2;cases h2
  |_=>cases e
 |.lst ts,u,_,k,h1,h2,e=>by
  obtain⟨a,xs,rfl,_,_,r,l⟩:=h1
  cases u with
  |lst us=>
   obtain⟨b,ys,e2,_,_,r',l'⟩:=h2
   cases e2
   have:=Rd.inj (by intro _ _ z;cases z) (by intro _ _ z;cases z) r r'
   injection this with this
   subst this
   exact vE l l' e
  |tup us=>
   obtain⟨b,ys,e2,_,_,r',l'⟩:=h2
   cases e2
   have:=Rd.inj (by intro _ _ z;cases z) (by intro _ _ z;cases z) r r'
   cases this
  |int b=>have h2:V.ref a=V.int b:=h2;cases h2
  |bl b=>have h2:V.ref a=V.bl b:=h2;cases h2
  |str b=>have h2:V.ref a=V.str b:=h2;cases h2
  |non=>have h2:V.ref a=V.non:=h2;cases h2
  |_=>cases e
 |.obj _ _,_,_,_,_,_,e=>by cases e
 |.mut _,_,_,_,_,_,e=>by cases e
 |.exc _ _,_,_,_,_,_,e=>by cases e
 |.dic _,_,_,_,_,_,e=>by cases e
 |.clo _ _,_,_,_,_,_,e=>by cases e
theorem vE:∀{ts us:List T} {vs:List V} {k:Bool},DenL D φ α H ts vs->DenL D φ α H us vs->eqL ts us=some k->k=true
 |[],[],_,k,_,_,e=>by simpa[eqL] using e.symm
 |[],_::_,_,k,h1,h2,e=>by
  have h1:_=[]:=h1
  obtain⟨_,_,h2,_⟩:=h2
  rw[h1] at h2;cases h2
 |_::_,[],_,k,h1,h2,e=>by
  have h2:_=[]:=h2
  obtain⟨_,_,h1,_⟩:=h1
  rw[h2] at h1;cases h1
 |t::ts,u::us,_,k,h1,h2,e=>by
  obtain⟨v,r,rfl,a1,b1⟩:=h1
  obtain⟨v',r',q,a2,b2⟩:=h2
  injection q with q1 q2
  subst q1 q2
  cases h:eqT t u with
  |none=>simp[eqL,h] at e
  |some x=>
   cases h':eqL ts us with
   |none=>simp[eqL,h,h'] at e
   |some y=>
    have e1:=jW a1 a2 h
    have e2:=vE b1 b2 h'
    subst e1 e2
    simpa[eqL,h,h'] using e.symm
end
end
section
variable {X:Cx}{D:DP}{pins:List (Addr×Obj)}{s:Shared}{σ:St}{H:Hp}{φ α:List Addr}
theorem jv:∀{ts us:List T} {k:Bool},eqL ts us=some k->(∀j (h1:j<ts.length) (h2:j<us.length),∃b,eqT ts[j] us[j]=some b)/\
  k=((List.range (min ts.length us.length)).all (λj=>match ts[j]?,us[j]? with|some t,some u=>(eqT t u).getD false|_,_=>false)&&ts.length == us.length)
 |[],[],k,e=>by
  simp[eqL] at e;subst e
  exact⟨λj h1=>by simp at h1,by simp⟩
 |[],u::us,k,e=>by
  simp[eqL] at e;subst e
  exact⟨λj h1=>by simp at h1,by simp⟩
 |t::ts,[],k,e=>by
  simp[eqL] at e;subst e
  exact⟨λj h1 h2=>by simp at h2,by simp⟩
 |t::ts,u::us,k,e=>by
  cases h:eqT t u with
  |none=>simp[eqL,h] at e
  |some x=>
   cases h':eqL ts us with
   |none=>simp[eqL,h,h'] at e
   |some y=>
    obtain⟨g,ih⟩:=jv h'
    simp[eqL,h,h'] at e
    subst e
    refine⟨λj h1 h2=>?_,?_⟩
    ·cases j with
     |zero=>exact⟨x,h⟩
     |succ j=>exact g j (by simpa using h1) (by simpa using h2)
    ·rw[ih]
     have e1:min (t::ts).length (u::us).length=min ts.length us.length+1:=by simp[Nat.succ_min_succ]
     rw[e1,List.range_succ_eq_map,List.all_cons,List.all_map]
     simp only[List.getElem?_cons_zero,h,Option.getD_some,Function.comp_def,List.getElem?_cons_succ,List.length_cons]
     rw[Bool.and_assoc]
     congr 2
     simp
theorem in1_units(A:Around):A.in1.units=A.units+1:=by first|rfl|simp[Around.in1,Around.units]
theorem jo(I:Inv X pins σ H s){i:Int}{u:T}{v w:V}{a b:Value}{k:Bool}{A:Around}(h1:Den D φ α H (.int i) v)(h2:Den D φ α H u w)(r1:RelV v a)(r2:RelV w b)(e:eqT (.int i) u=some k)(hu:A.units+qR (.int i)+1<cLine):SeqAt.EqAt A s a b k:=by
 have h1:_=V.int i:=h1
 subst h1
 obtain⟨t1,rfl⟩:=r1
 cases u with
 |int j=>have h2:w=V.int j:=h2;subst h2;obtain⟨t2,rfl⟩:=r2;cases Option.some.inj e;exact SeqAt.EqAt.int_int _ _ _ _
 |bl j=>have h2:w=V.bl j:=h2;subst h2;cases r2;cases Option.some.inj e;exact SeqAt.EqAt.int_bool _ _ _
 |str j=>have h2:w=V.str j:=h2;subst h2;obtain⟨t2,rfl⟩:=r2;cases Option.some.inj e;exact SeqAt.EqAt.int_str _ _ _ _
 |non=>have h2:w=V.non:=h2;subst h2;cases r2;cases Option.some.inj e;exact SeqAt.EqAt.int_none _ _
 |tup ys=>obtain⟨c,xs,rfl,_,_,r,_⟩:=h2;cases r2;obtain⟨its,_,p,_⟩:=I.tuple (.inl r);cases Option.some.inj e;exact SeqAt.EqAt.int_tuple _ _ p (by omega)
 |lst ys=>obtain⟨c,xs,rfl,_,_,r,_⟩:=h2;cases r2;obtain⟨its,_,p,_⟩:=I.list (.inl r);cases Option.some.inj e;exact SeqAt.EqAt.int_list _ _ p.isList (by omega)
 |_=>cases e
theorem Jc(I:Inv X pins σ H s){i:Bool}{u:T}{v w:V}{a b:Value}{k:Bool}{A:Around}(h1:Den D φ α H (.bl i) v)(h2:Den D φ α H u w)(r1:RelV v a)(r2:RelV w b)(e:eqT (.bl i) u=some k)(hu:A.units+qR (.bl i)+1<cLine):SeqAt.EqAt A s a b k:=by
 have h1:_=V.bl i:=h1
 subst h1
 cases r1
 cases u with
 |int j=>have h2:w=V.int j:=h2;subst h2;obtain⟨t2,rfl⟩:=r2;cases Option.some.inj e;exact SeqAt.EqAt.bool_int _ _ _
 |bl j=>have h2:w=V.bl j:=h2;subst h2;cases r2;cases Option.some.inj e;exact SeqAt.EqAt.bool_bool _ _
 |str j=>have h2:w=V.str j:=h2;subst h2;obtain⟨t2,rfl⟩:=r2;cases Option.some.inj e;exact SeqAt.EqAt.bool_str _ _ _
 |non=>have h2:w=V.non:=h2;subst h2;cases r2;cases Option.some.inj e;exact SeqAt.EqAt.bool_none _
 |tup ys=>obtain⟨c,xs,rfl,_,_,r,_⟩:=h2;cases r2;obtain⟨its,_,p,_⟩:=I.tuple (.inl r);cases Option.some.inj e;exact SeqAt.EqAt.bool_tuple _ p (by omega)
 |lst ys=>obtain⟨c,xs,rfl,_,_,r,_⟩:=h2;cases r2;obtain⟨its,_,p,_⟩:=I.list (.inl r);cases Option.some.inj e;exact SeqAt.EqAt.bool_list _ p.isList (by omega)
 |_=>cases e
theorem QR(I:Inv X pins σ H s){i:Str}{u:T}{v w:V}{a b:Value}{k:Bool}{A:Around}(h1:Den D φ α H (.str i) v)(h2:Den D φ α H u w)(r1:RelV v a)(r2:RelV w b)(e:eqT (.str i) u=some k)(hu:A.units+qR (.str i)+1<cLine):SeqAt.EqAt A s a b k:=by
 have h1:_=V.str i:=h1
 subst h1
 obtain⟨t1,rfl⟩:=r1
 cases u with
 |int j=>have h2:w=V.int j:=h2;subst h2;obtain⟨t2,rfl⟩:=r2;cases Option.some.inj e;exact SeqAt.EqAt.str_int _ _ _ _
 |bl j=>have h2:w=V.bl j:=h2;subst h2;cases r2;cases Option.some.inj e;exact SeqAt.EqAt.str_bool _ _ _
 |str j=>have h2:w=V.str j:=h2;subst h2;obtain⟨t2,rfl⟩:=r2;cases Option.some.inj e;exact SeqAt.EqAt.str_str _ _ _ _
 |non=>have h2:w=V.non:=h2;subst h2;cases r2;cases Option.some.inj e;exact SeqAt.EqAt.str_none _ _
 |tup ys=>obtain⟨c,xs,rfl,_,_,r,_⟩:=h2;cases r2;obtain⟨its,_,p,_⟩:=I.tuple (.inl r);cases Option.some.inj e;exact SeqAt.EqAt.str_tuple _ _ p (by omega)
 |lst ys=>obtain⟨c,xs,rfl,_,_,r,_⟩:=h2;cases r2;obtain⟨its,_,p,_⟩:=I.list (.inl r);cases Option.some.inj e;exact SeqAt.EqAt.str_list _ _ p.isList (by omega)
 |_=>cases e
theorem QV(I:Inv X pins σ H s){u:T}{v w:V}{a b:Value}{k:Bool}{A:Around}(h1:Den D φ α H .non v)(h2:Den D φ α H u w)(r1:RelV v a)(r2:RelV w b)(e:eqT .non u=some k)(hu:A.units+qR .non+1<cLine):SeqAt.EqAt A s a b k:=by
 have h1:_=V.non:=h1
 subst h1
 cases r1
 cases u with
 |int j=>have h2:w=V.int j:=h2;subst h2;obtain⟨t2,rfl⟩:=r2;cases Option.some.inj e;exact SeqAt.EqAt.none_int _ _
 |bl j=>have h2:w=V.bl j:=h2;subst h2;cases r2;cases Option.some.inj e;exact SeqAt.EqAt.none_bool _
 |str j=>have h2:w=V.str j:=h2;subst h2;obtain⟨t2,rfl⟩:=r2;cases Option.some.inj e;exact SeqAt.EqAt.none_str _ _
 |non=>have h2:w=V.non:=h2;subst h2;cases r2;cases Option.some.inj e;exact SeqAt.EqAt.same _
 |tup ys=>obtain⟨c,xs,rfl,_,_,r,_⟩:=h2;cases r2;obtain⟨its,_,p,_⟩:=I.tuple (.inl r);cases Option.some.inj e;exact SeqAt.EqAt.none_tuple p (by omega)
 |lst ys=>obtain⟨c,xs,rfl,_,_,r,_⟩:=h2;cases r2;obtain⟨its,_,p,_⟩:=I.list (.inl r);cases Option.some.inj e;exact SeqAt.EqAt.none_list p.isList (by omega)
 |_=>cases e
theorem uF(I:Inv X pins σ H s){ts:List T}{u:T}{v0 w:V}{a b:Value}{k:Bool}{A:Around}(hn:∀us,u≠.tup us)(h1:Den D φ α H (.tup ts) v0)(h2:Den D φ α H u w)(r1:RelV v0 a)(r2:RelV w b)(e:eqT (.tup ts) u=some k)(hu:A.units+qR (.tup ts)+1<cLine):SeqAt.EqAt A s a b k:=by
 cases u with
 |tup us=>exact absurd rfl (hn us)
 |lst us=>
  obtain⟨c,xs,rfl,_,_,r,l⟩:=h1
  obtain⟨d,ys,rfl,_,_,r',l'⟩:=h2
  cases r1;cases r2
  obtain⟨_,_,p,_⟩:=I.tuple (.inl r)
  obtain⟨_,_,p',_⟩:=I.list (.inl r')
  cases Option.some.inj e
  exact SeqAt.EqAt.tuple_list p p'.isList (by omega)
 |int j=>have h2:w=V.int j:=h2;subst h2;obtain⟨t2,rfl⟩:=r2;obtain⟨c,xs,rfl,_,_,r,_⟩:=h1;cases r1;obtain⟨its,_,p,_⟩:=I.tuple (.inl r);cases Option.some.inj e;exact SeqAt.EqAt.tuple_int _ _ p (by omega)
 |bl j=>have h2:w=V.bl j:=h2;subst h2;cases r2;obtain⟨c,xs,rfl,_,_,r,_⟩:=h1;cases r1;obtain⟨its,_,p,_⟩:=I.tuple (.inl r);cases Option.some.inj e;exact SeqAt.EqAt.tuple_bool _ p (by omega)
 |str j=>have h2:w=V.str j:=h2;subst h2;obtain⟨t2,rfl⟩:=r2;obtain⟨c,xs,rfl,_,_,r,_⟩:=h1;cases r1;obtain⟨its,_,p,_⟩:=I.tuple (.inl r);cases Option.some.inj e;exact SeqAt.EqAt.tuple_str _ _ p (by omega)
 |non=>have h2:w=V.non:=h2;subst h2;cases r2;obtain⟨c,xs,rfl,_,_,r,_⟩:=h1;cases r1;obtain⟨its,_,p,_⟩:=I.tuple (.inl r);cases Option.some.inj e;exact SeqAt.EqAt.tuple_none p (by omega)
 |_=>cases e
theorem um(I:Inv X pins σ H s){ts:List T}{u:T}{v0 w:V}{a b:Value}{k:Bool}{A:Around}(hn:∀us,u≠.lst us)(h1:Den D φ α H (.lst ts) v0)(h2:Den D φ α H u w)(r1:RelV v0 a)(r2:RelV w b)(e:eqT (.lst ts) u=some k)(hu:A.units+qR (.lst ts)+1<cLine):SeqAt.EqAt A s a b k:=by
 cases u with
 |lst us=>exact absurd rfl (hn us)
 |tup us=>
  obtain⟨c,xs,rfl,_,_,r,l⟩:=h1
  obtain⟨d,ys,rfl,_,_,r',l'⟩:=h2
  cases r1;cases r2
  obtain⟨_,_,p,_⟩:=I.list (.inl r)
  obtain⟨_,_,p',_⟩:=I.tuple (.inl r')
  cases Option.some.inj e
  exact SeqAt.EqAt.list_tuple p.isList p' (by omega)
 |int j=>have h2:w=V.int j:=h2;subst h2;obtain⟨t2,rfl⟩:=r2;obtain⟨c,xs,rfl,_,_,r,_⟩:=h1;cases r1;obtain⟨its,_,p,_⟩:=I.list (.inl r);cases Option.some.inj e;exact SeqAt.EqAt.list_int _ _ p.isList (by omega)
 |bl j=>have h2:w=V.bl j:=h2;subst h2;cases r2;obtain⟨c,xs,rfl,_,_,r,_⟩:=h1;cases r1;obtain⟨its,_,p,_⟩:=I.list (.inl r);cases Option.some.inj e;exact SeqAt.EqAt.list_bool _ p.isList (by omega)
 |str j=>have h2:w=V.str j:=h2;subst h2;obtain⟨t2,rfl⟩:=r2;obtain⟨c,xs,rfl,_,_,r,_⟩:=h1;cases r1;obtain⟨its,_,p,_⟩:=I.list (.inl r);cases Option.some.inj e;exact SeqAt.EqAt.list_str _ _ p.isList (by omega)
 |non=>have h2:w=V.non:=h2;subst h2;cases r2;obtain⟨c,xs,rfl,_,_,r,_⟩:=h1;cases r1;obtain⟨its,_,p,_⟩:=I.list (.inl r);cases Option.some.inj e;exact SeqAt.EqAt.list_none p.isList (by omega)
 |_=>cases e
noncomputable def EqN (D:DP)(φ α:List Addr)(H:Hp)(s:Shared)(n:Nat):Prop:=∀(t u:T) (v w:V) (a b:Value) (k:Bool) (A:Around),qR t<n->Den D φ α H t v->Den D φ α H u w->RelV v a->RelV w b->eqT t u=some k->A.units+qR t+1<cLine->SeqAt.EqAt A s a b k
theorem qx{n:Nat}(ih:EqN D φ α H s n):∀{ts us:List T} {xs ys:List V} {its its2:List Value} {A:Around},zL ts<n->DenL D φ α H ts xs->DenL D φ α H us ys->Vals xs its->Vals ys its2->A.units+zL ts+1<cLine->
  ∀(j:Nat) (h1:j<its.length) (h2:j<its2.length),(∀(g1:j<ts.length) (g2:j<us.length),∃b,eqT ts[j] us[j]=some b)->SeqAt.EqAt A s its[j] its2[j] (match ts[j]?,us[j]? with|some t,some u=>(eqT t u).getD false|_,_=>false)
 |[],_,xs,_,its,_,A,_,l,_,rv,_,_,j,h1,_,_=>by
  have l:xs=[]:=l
  subst l
  cases rv
  simp at h1
 |t::ts,us,xs,ys,its,its2,A,hd,l,l',rv,rv',hu,j,h1,h2,g=>by
  obtain⟨v,r,rfl,d1,l⟩:=l
  cases rv with
  | @cons _ u0 _ us0 r0 rv=>
  cases us with
  |nil=>
   have l':ys=[]:=l'
   subst l'
   cases rv'
   simp at h2
  |cons u us=>
   obtain⟨w,r',rfl,d2,l'⟩:=l'
   cases rv' with
   | @cons _ u0' _ us0' r0' rv'=>
   simp only[zL] at hu hd
   cases j with
   |zero=>
    obtain⟨b,hb⟩:=g (by simp) (by simp)
    have hb':eqT t u=some b:=by simpa using hb
    simp only[List.getElem?_cons_zero,hb',Option.getD_some,List.getElem_cons_zero]
    exact ih _ _ _ _ _ _ _ _ (by omega) d1 d2 r0 r0' hb' (by omega)
   |succ j=>
    simp only[List.getElem?_cons_succ,List.getElem_cons_succ]
    exact qx ih (by omega) l l' rv rv' (by omega) j (by simpa using h1) (by simpa using h2) λg1 g2=>by
     obtain⟨b,hb⟩:=g (by simpa using g1) (by simpa using g2)
     exact⟨b,by simpa using hb⟩
theorem k_(I:Inv X pins σ H s){n:Nat}(ih:EqN D φ α H s n){ts us:List T}{xs ys:List V}{c d:Addr}{k:Bool}{A:Around}(hd:zL ts<n)(l:DenL D φ α H ts xs)(l':DenL D φ α H us ys)(r:Rd H c (.tup xs))(r':Rd H d (.tup ys))(e:eqL ts us=some k)(hu:A.units+zL ts+2<cLine):SeqAt.RcAt A s (.ref c) (.ref d) k:=by
 obtain⟨its,rv,p,_⟩:=I.tuple (.inl r)
 obtain⟨its2,rv',p',_⟩:=I.tuple (.inl r')
 obtain⟨g,rfl⟩:=jv e
 have h1:ts.length=its.length:=l.length.trans rv.length
 have h2:us.length=its2.length:=l'.length.trans rv'.length
 have:=SeqAt.RcAt.tuples (A:=A) (e:=λj=>match ts[j]?,us[j]? with|some t,some u=>(eqT t u).getD false|_,_=>false) p p' (by omega) λj q1 q2=>by
  have:=qx (A:=A.in1) ih hd l l' rv rv' (by rw[in1_units];omega) j (by simpa using q1) (by simpa using q2) λg1 g2=>g j g1 g2
  simpa using this
 simpa[h1,h2] using this
theorem kN(I:Inv X pins σ H s){n:Nat}(ih:EqN D φ α H s n){ts us:List T}{xs ys:List V}{c d:Addr}{k:Bool}{A:Around}(hd:zL ts<n)(l:DenL D φ α H ts xs)(l':DenL D φ α H us ys)(r:Rd H c (.lst xs))(r':Rd H d (.lst ys))(e:eqL ts us=some k)(hu:A.units+zL ts+2<cLine):SeqAt.RcAt A s (.ref c) (.ref d) k:=by
 obtain⟨its,rv,p,_⟩:=I.list (.inl r)
 obtain⟨its2,rv',p',_⟩:=I.list (.inl r')
 obtain⟨g,rfl⟩:=jv e
 have h1:ts.length=its.length:=l.length.trans rv.length
 have h2:us.length=its2.length:=l'.length.trans rv'.length
 by_cases hl:ts.length=us.length
 ·have:=SeqAt.RcAt.lists (A:=A) (e:=λj=>match ts[j]?,us[j]? with|some t,some u=>(eqT t u).getD false|_,_=>false) p.isList p'.isList (by simp;omega) (by omega) λj q1 q2=>by
   have:=qx (A:=A.in1) ih hd l l' rv rv' (by rw[in1_units];omega) j (by simpa using q1) (by simpa using q2) λg1 g2=>g j g1 g2
   simpa using this
  have e2:min ts.length us.length=its.length:=by omega
  have e3:(ts.length == us.length)=true:=by simpa using hl
  rw[e2,e3,Bool.and_true]
  simpa using this
 ·have e3:(ts.length == us.length)=false:=by simpa using hl
  rw[e3,Bool.and_false]
  exact SeqAt.RcAt.lists_lengths p.isList p'.isList (by simp;omega) (by omega)
theorem xA(I:Inv X pins σ H s):∀n,EqN D φ α H s n
 |0=>λ_ _ _ _ _ _ _ _ hn=>absurd hn (by omega)
 |n+1=>λt u v w a b k A hn h1 h2 r1 r2 e hu=>by
  have ih:=xA I n
  cases t with
  |int i=>exact jo I h1 h2 r1 r2 e hu
  |bl i=>exact Jc I h1 h2 r1 r2 e hu
  |str i=>exact QR I h1 h2 r1 r2 e hu
  |non=>exact QV I h1 h2 r1 r2 e hu
  |tup ts=>
   cases u with
   |tup us=>
    have hs:=λ(q:w=v)=>jW h1 (q▸h2) e
    obtain⟨c,xs,rfl,_,_,r,l⟩:=h1
    obtain⟨d,ys,rfl,_,_,r',l'⟩:=h2
    cases r1;cases r2
    by_cases hcd:c=d
    ·subst hcd
     rw[hs rfl]
     exact SeqAt.EqAt.same _
    ·refine SeqAt.EqAt.of_refs hcd ?_
     exact k_ I ih (by simp only[qR] at hn;omega) l l' r r' e (by simp only[qR] at hu;omega)
   |_=>exact uF I (by intro _ z;cases z) h1 h2 r1 r2 e hu
  |lst ts=>
   cases u with
   |lst us=>
    have hs:=λ(q:w=v)=>jW h1 (q▸h2) e
    obtain⟨c,xs,rfl,_,_,r,l⟩:=h1
    obtain⟨d,ys,rfl,_,_,r',l'⟩:=h2
    cases r1;cases r2
    by_cases hcd:c=d
    ·subst hcd
     rw[hs rfl]
     exact SeqAt.EqAt.same _
    ·refine SeqAt.EqAt.of_refs hcd ?_
     exact kN I ih (by simp only[qR] at hn;omega) l l' r r' e (by simp only[qR] at hu;omega)
   |_=>exact um I (by intro _ z;cases z) h1 h2 r1 r2 e hu
  |_=>cases e
theorem QP(I:Inv X pins σ H s){ts us:List T}{xs ys:List V}{c d:Addr}{k:Bool}{A:Around}(l:DenL D φ α H ts xs)(l':DenL D φ α H us ys)(r:Rd H c (.tup xs))(r':Rd H d (.tup ys))(e:eqL ts us=some k)(hu:A.units+zL ts+2<cLine):SeqAt.RcAt A s (.ref c) (.ref d) k:=k_ I (xA I _) (Nat.lt_succ_self _) l l' r r' e hu
theorem WL(I:Inv X pins σ H s){ts us:List T}{xs ys:List V}{c d:Addr}{k:Bool}{A:Around}(l:DenL D φ α H ts xs)(l':DenL D φ α H us ys)(r:Rd H c (.lst xs))(r':Rd H d (.lst ys))(e:eqL ts us=some k)(hu:A.units+zL ts+2<cLine):SeqAt.RcAt A s (.ref c) (.ref d) k:=kN I (xA I _) (Nat.lt_succ_self _) l l' r r' e hu
theorem jD(I:Inv X pins σ H s):∀{ts us:List T} {xs ys:List V} {its its2:List Value} {A:Around},DenL D φ α H ts xs->DenL D φ α H us ys->Vals xs its->Vals ys its2->A.units+zL ts+1<cLine->
  ∀(j:Nat) (h1:j<its.length) (h2:j<its2.length),(∀(g1:j<ts.length) (g2:j<us.length),∃b,eqT ts[j] us[j]=some b)->SeqAt.EqAt A s its[j] its2[j] (match ts[j]?,us[j]? with|some t,some u=>(eqT t u).getD false|_,_=>false):=λl l' rv rv' hu=>qx (xA I _) (Nat.lt_succ_self _) l l' rv rv' hu
theorem Qv(I:Inv X pins σ H s){ts us:List T}{xs ys:List V}{c d:Addr}{k:Bool}{A:Around}(l:DenL D φ α H ts xs)(l':DenL D φ α H us ys)(r:Rd H c (.tup xs))(r':Rd H d (.tup ys))(e:eqL ts us=some k)(hu:A.units+zL ts+2<cLine):SeqAt.RcNeAt A s (.ref c) (.ref d) (!k):=by
 obtain⟨its,rv,p,_⟩:=I.tuple (.inl r)
 obtain⟨its2,rv',p',_⟩:=I.tuple (.inl r')
 obtain⟨g,rfl⟩:=jv e
 have h1:ts.length=its.length:=l.length.trans rv.length
 have h2:us.length=its2.length:=l'.length.trans rv'.length
 have:=SeqAt.RcNeAt.tuples (A:=A) (e:=λj=>match ts[j]?,us[j]? with|some t,some u=>(eqT t u).getD false|_,_=>false) p p' (by omega) λj q1 q2=>by
  have:=jD (A:=A.in1) I l l' rv rv' (by rw[in1_units];omega) j (by simpa using q1) (by simpa using q2) λg1 g2=>g j g1 g2
  simpa using this
 simpa[h1,h2] using this
theorem Wm(I:Inv X pins σ H s){ts us:List T}{xs ys:List V}{c d:Addr}{k:Bool}{A:Around}(l:DenL D φ α H ts xs)(l':DenL D φ α H us ys)(r:Rd H c (.lst xs))(r':Rd H d (.lst ys))(e:eqL ts us=some k)(hu:A.units+zL ts+2<cLine):SeqAt.RcNeAt A s (.ref c) (.ref d) (!k):=by
 obtain⟨its,rv,p,_⟩:=I.list (.inl r)
 obtain⟨its2,rv',p',_⟩:=I.list (.inl r')
 obtain⟨g,rfl⟩:=jv e
 have h1:ts.length=its.length:=l.length.trans rv.length
 have h2:us.length=its2.length:=l'.length.trans rv'.length
 by_cases hl:ts.length=us.length
 ·have:=SeqAt.RcNeAt.lists (A:=A) (e:=λj=>match ts[j]?,us[j]? with|some t,some u=>(eqT t u).getD false|_,_=>false) p.isList p'.isList (by simp;omega) (by omega) λj q1 q2=>by
   have:=jD (A:=A.in1) I l l' rv rv' (by rw[in1_units];omega) j (by simpa using q1) (by simpa using q2) λg1 g2=>g j g1 g2
   simpa using this
  have e2:min ts.length us.length=its.length:=by omega
  have e3:(ts.length == us.length)=true:=by simpa using hl
  rw[e2,e3,Bool.and_true]
  simpa using this
 ·have e3:(ts.length == us.length)=false:=by simpa using hl
  rw[e3,Bool.and_false]
  exact SeqAt.RcNeAt.lists_lengths p.isList p'.isList (by simp;omega) (by omega)
end
end
noncomputable def spM (D:DP)(f:Fn):Sp:=λvs H Q E=>∃φ α ts μ,DenL D φ α H ts vs/\MRel D φ α H μ/\Post D (wOf E) φ α H [] (λt _ α' H'=>∀v,Den D φ α' H' t v->Q v H') (f ts μ)
noncomputable def spN (D:DP)(n:Nat)(f:Fn):Sp:=λvs H Q E=>vs.length=n/\spM D f vs H Q E
noncomputable def yo(D:DP)(t:Nat)(u:Value):Prop:=
 (t=0/\u=.type "NoneType")\/(t=1/\u=.type "bool")\/(t=2/\u=.type "int")\/(t=3/\u=.type "str")\/(t=4/\u=.type "tuple")\/(t=5/\u=.type "list")\/(∃C,D.adr t=some C/\u=.ref C)\/(t=6/\u=.type "dict")\/(∃C,D.cad t=some C/\u=.ref C)
noncomputable def k6(mg:Str->Option Value)(c:Str)(u:Value):Prop:=mg c=some u\/(mg c=none/\bootBuiltins c=some u/\c≠"__name__")
abbrev QS(X:Cx)(c:Str)(u:Value):Prop:=k6 X.mg c u
noncomputable def ClsV(v:V)(u:Value):Prop:=(∃C,v=.ref C/\u=.ref C)\/∃n,v=.ty n/\u=.type n
theorem ClsV.rel{v:V}{u:Value}(h:ClsV v u):L2.RelV v u:=by
 rcases h with⟨C,rfl,rfl⟩|⟨n,rfl,rfl⟩<;>rfl
theorem ClsV.only{v:V}{u u':Value}(h:ClsV v u)(r:L2.RelV v u'):u'=u:=by
 rcases h with⟨C,rfl,rfl⟩|⟨n,rfl,rfl⟩<;>exact r
structure XCls(K:PySem.W.Frag)(C:Addr):Prop where
 ga:PySem.W.findIn K (.ref C) "__getattribute__"=some (some (.builtin "BaseException.__getattribute__"))
 hk:PySem.W.findIn K (.ref C) "__getattr__"=some none
 fi:PySem.W.findIn K (.ref C) "__class__"=some (some (.builtin "object.__class__"))
 sp:PySem.W.specialIn K (.builtin "object.__class__") "__get__"=some (some (.builtin "getset_descriptor.__get__"))
 tk:PySem.W.takesIn K (.builtin "object.__class__")=some true
 ob:PySem.W.mroIn K C (.type "object")=some true
 bx:PySem.W.mroIn K C (.type "BaseException")=some true
 cl:(PySem.W.clsIn K C).isSome=true
structure OCls(K:PySem.W.Frag)(C:Addr):Prop where
 cl:Cls K C
 fi:PySem.W.findIn K (.ref C) "__class__"=some (some (.builtin "object.__class__"))
 sp:PySem.W.specialIn K (.builtin "object.__class__") "__get__"=some (some (.builtin "getset_descriptor.__get__"))
 tk:PySem.W.takesIn K (.builtin "object.__class__")=some true
 ob:PySem.W.mroIn K C (.type "object")=some true
abbrev zX:List Value:=[.type "ValueError",.type "Exception",.type "BaseException",.type "object"]
noncomputable def FOk (D:DP)(P:Program)(w:World)(K:PySem.W.Frag)(mg:Str->Option Value)(base:Heap)(k:Nat)(fa:Addr)(f:Fn):Prop:=
 ∃fd ps kk,PySem.W.keepIn K (.ref fa)=true/\Binds K fd ps []/\kk<=k/\FnOk P w K mg base (CX1 P w) kk fa fd ps (spN D ps.length f)/\∀ts μ K Z,f ts μ K Z->ts.length=ps.length
structure RoomH(k:Nat)(A:Around):Prop where
 dp:A.depth+3 * k+5<recursionLimit
 un:A.units+16 * k+200<cLine
theorem RoomH.units{k:Nat}{A:Around}(r:RoomH k A):A.units+64<cLine:=by have:=r.un;omega
noncomputable def Uv(P:Program)(w:World)(K:PySem.W.Frag)(mg:Str->Option Value)(base:Heap)(k:Nat)(f:Addr)(fd:FuncData)(ps:List Str)(sp:Sp):Prop:=
 ∀(A:Around) (outer:List Env) (s:Shared) (H:Hp) (args:Args) (us:List Value) (vs:List V) (Q:VK),RoomH k A->Env0 P w K mg base A outer s H->BindsTo s fd args (ps.zip us)->Vals vs us->sp vs H Q (λ_ _ _=>False)->
  codeAny (model P w) A (.call (.ref f) args) (CR (λ_ _ _ _ _ _=>False) outer P w H s Q (λ_ _ _=>False)) s
noncomputable def jb (x C:Addr):Heap->Prop:=λh=>∃t,h.get? x=some {cls:=.ref C,data:=.fields #[.ref t,.none,.none,.none,.bool false,.none]}
noncomputable def j_(x C dx:Addr):Heap->Prop:=λh=>∃t,h.get? x=some {cls:=.ref C,dict:=some dx,data:=.fields #[.ref t,.none,.none,.none,.bool false,.none]}
structure XIn(K:PySem.W.Frag)(C HE fI:Addr)(fl:Str):Prop where
 cls:∃N nm q bs hd sn sub ab col dd k0 k1 k2 k3 k5,K.lookup C=some (excClassObj nm q C N bs (.ref HE::zX) hd sn sub ab col dd k0 k1 k2 k3 k5 "ValueError.__new__")/\PySem.W.nsOkIn K N=true/\PySem.W.nsIn K N "__init__"=some (some (.ref fI))
 he:PySem.W.excIn K HE zX "ValueError.__new__"=true
 fn:PySem.W.typeIn K (.ref fI)=some (.type "function")
 sa:PySem.W.findIn K (.ref C) "__setattr__"=some (some (.builtin "object.__setattr__"))
 no:PySem.W.findIn K (.ref C) fl=some none
 dct:PySem.W.hasDictIn K C=true
 kp:PySem.W.keepIn K (.ref C)=true
noncomputable def spI (C:Addr)(fl:Str):Sp:=λvs H Q E=>∃(x:Addr) (i:Int),vs=[.ref x,.int i]/\i.natAbs.log2<1920/\H x=some (.ext (jb x C))/\∀dx,H dx=none->dx≠x->Q .non (upd (upd H x (.ext (j_ x C dx))) dx (.xd [(fl,.int i)]))
noncomputable def UH(y:Str)(sc:Scope):Bool:=(sc.kind == .function)&&!sc.isCoroutine&&!sc.isGenerator&&sc.names.all (λy=>y.2 != .free)&&(sc.names.lookup y == some .local)&&y != ("__debug__":Str)&&y != ("__classdict__":Str)
noncomputable def z0p(a c:Addr)(qn:Str):Heap->Prop:=λh=>∃(y:Str) (pa:Pos) (kk:Nat) (bp:Pos) (sc:Scope) (pm ctv:Value),UH y sc=true/\h.get? a=some (PySem.W.kla_obj "<lambda>" qn ⟨[],[⟨y,none,pa⟩],none,[],[],none,[]⟩ (.Constant .none kk bp) sc [] pm c ctv)
noncomputable def z0e(t:T):Prop:=t=.clo 0 [.clo 100 []]\/t=.clo 1 []\/t=.clo 2 [.clo 101 []]
noncomputable def z0I (D:DP)(P:Program)(w:World)(K:PySem.W.Frag)(mg:Str->Option Value)(base:Heap)(k:Nat):Prop:=
 ∀(t:T) (φ α:List Addr) (H:Hp) (v:V),z0e t->Den D φ α H t v->∃a kk,v=.ref a/\kk<=k/\∀(A:Around) (outer:List Env) (s:Shared),Env0 P w K mg base A outer s H->PySem.W.FnAt a s.heap/\(Room kk A->∀(u:Value) (x:V) (Q:VK) (t:T) (φ α:List Addr) (μ:Mem),RelV x u->Den D φ α H t x->MRel D φ α H μ->(∀α' H',Stp α H α' H'->MRel D φ α' H' μ->Q .non H')->
  codeAny (model P w) A (.call (.ref a) ⟨[u],[]⟩) (CR (CX1 P w) outer P w H s Q (λ_ _ _=>False)) s)
noncomputable def z00(a c:Addr)(l:LamD)(cl:List (Str×Addr)):Heap->Prop:=λh=>∃(pa:Pos) (pm ctv:Value),h.get? a=some (PySem.W.kla_obj "<lambda>" l.qn ⟨[],[⟨l.y,none,pa⟩],none,[],[],none,[]⟩ l.body l.sc cl pm c ctv)
noncomputable def z1e(fr:List Str)(cl:List (Str×Addr))(cs:List Addr):Prop:=fr.map (λx=>cl.lookup x)=cs.map some/\cs.Nodup/\∀x a,cl.lookup x=some a->x∈fr
noncomputable def z02(D:DP)(P:Program)(w:World)(K:PySem.W.Frag)(mg:Str->Option Value)(base:Heap)(k:Nat)(ls:List LamD):Prop:=
 ∀(j:Nat) (l:LamD) (ts:List T) (φ α:List Addr) (H:Hp) (v:V),ls[j]?=some l->Den D φ α H (z0K j l.jt ts) v->∃(a:Addr) (kk:Nat),v=.ref a/\kk<=k/\∀(A:Around) (outer:List Env) (s:Shared),Env0 P w K mg base A outer s H->PySem.W.FnAt a s.heap/\(Room kk A->
  ∀(u:Value) (x:V) (Q:VK) (t:T) (μ:Mem) (K0:T->Mem->Prop),RelV x u->Den D φ α H t x->MRel D φ α H μ->l.g (some t::ts.map some) μ K0 (λ_ _ _=>False)->(∀t' μ',K0 t' μ'->∀α' H' v',Stp α H α' H'->MRel D φ α' H' μ'->Den D φ α' H' t' v'->Q v' H')->
  codeAny (model P w) A (.call (.ref a) ⟨[u],[]⟩) (CR (CX1 P w) outer P w H s Q (λ_ _ _=>False)) s)
structure KapMk(D:DP)(ls:List LamD):Prop where
 tb:∀(j:Nat) (l:LamD),ls[j]?=some l->∃P' pos,D.tabs l.jt=some (P',pos,l.qn)
 fn:∀(j:Nat) (l:LamD) (a c:Addr) (cl:List (Str×Addr)) (cs:List Addr),ls[j]?=some l->z1e l.fr cl cs->D.clo (300+j) a (some (.ext (z00 a c l cl))) (.ref c::cs.map V.ref)
 ce:∀c (o:Obj) u x ob,o.data=.cell (some u)->RelV x u->D.clo 200 c (some (.frz o ob)) [x]
 co:∀j P' pos qn c,D.tabs j=some (P',pos,qn)->D.clo (100+j) c (some (.ext (uE c qn))) []
noncomputable def GlOkM(D:DP)(P:Program)(w:World)(K:PySem.W.Frag)(mg:Str->Option Value)(base:Heap)(k:Nat)(x:Str):GM->Prop
 |.fn f=>∃fa,mg x=some (.ref fa)/\FOk D P w K mg base k fa f
 |.fnh nm f=>∃fa,mg nm=some (.ref fa)/\∃fd ps kk,PySem.W.keepIn K (.ref fa)=true/\Binds K fd ps []/\kk<=k/\Uv P w K mg base kk fa fd ps (spN D ps.length f)/\∀ts μ K Z,f ts μ K Z->ts.length=ps.length
 |.met c nm f=>∃C fI fd ps kk,D.cad c=some C/\Cls K C/\Meth K C nm fI/\(∀i,D.fn i≠some nm)/\Binds K fd ps []/\kk<=k/\FnOk P w K mg base (CX1 P w) kk fI fd ps (spN D ps.length f)/\∀ts μ K Z,f ts μ K Z->ts.length=ps.length
 |.mk c _ f=>∃C fI fd ps kk,D.cad c=some C/\mg x=some (.ref C)/\Mk K C fI/\Binds K fd ps []/\kk+1<=k/\FnOk P w K mg base (CX1 P w) kk fI fd ps (spN D ps.length f)/\∀ts μ K Z,f ts μ K Z->ts.length=ps.length
 |.cst t=>∃u v,mg x=some u/\RelV v u/\∀φ α H,Den D φ α H t v
 |.xcl c=>∃C,D.adr c=some C/\mg x=some (.ref C)/\PySem.W.excIn K C zX "ValueError.__new__"=true
 |.xcf c _=>∃C,D.adr c=some C/\mg x=some (.ref C)
 |.xin c f nm fl=>∃C HE fI fd ps kk,D.adr c=some C/\mg nm=some (.ref C)/\D.fn f=some fl/\XIn K C HE fI fl/\Binds K fd ps []/\kk+1<=k/\FnOk P w K mg base (CX1 P w) kk fI fd ps (spI C fl)
 |.mkd c nm n f=>∃C fI fd ps kk,D.cad c=some C/\mg nm=some (.ref C)/\Mk K C fI/\Binds K fd ps [.none]/\kk+1<=k/\FnOk P w K mg base (CX1 P w) kk fI fd ps (spN D ps.length f)/\(∀ts μ K Z,f ts μ K Z->ts.length=ps.length)/\ps.length=n+2
 |.metd c nm n d f=>∃C fI fd ps kk du dv,D.cad c=some C/\Cls K C/\Meth K C nm fI/\(∀i,D.fn i≠some nm)/\Binds K fd ps [du]/\RelV dv du/\(∀φ α H,Den D φ α H d dv)/\kk<=k/\FnOk P w K mg base (CX1 P w) kk fI fd ps (spN D ps.length f)/\(∀ts μ K Z,f ts μ K Z->ts.length=ps.length)/\ps.length=n+2
 |.kpr=>z0I D P w K mg base k/\∀j P' pos qn,j<2->D.tabs j=some (P',pos,qn)->∀a c,D.clo (2 * j) a (some (.ext (z0p a c qn))) [.ref c]/\D.clo (100+j) c (some (.ext (uE c qn))) []
 |.kap ls=>z02 D P w K mg base k ls/\KapMk D ls
 |.tbl kvs=>∃a vs,mg x=some (.ref a)/\(a == sysModules)=false/\KV (kvs.map λp=>((.inr p.1:Key),V.int p.2)) vs/\∀h:Heap,K.In h->h.DictOf (zk P w) a vs
 |.none=>mg x=none
 |.bad=>True
abbrev z0c(D:DP)(X:Cx)(k:Nat)(x:Str)(g:GM):Prop:=GlOkM D X.prog X.w X.K X.mg X.base k x g
structure Cn where
 N:List Str
 G:List Str
 calm:Bool
 gl:Str->GM
 cls:List (Str×Nat)
 fld:List (Str×Nat)
 U:List Str
 cel:List Str
 own:List Str
 lam:Option (Nat×List Pos):=none
 fz:List Str:=[]
noncomputable def Cn.sto(Γ:Cn):List Str:=Γ.N.filter λx=>!Γ.fz.contains x
noncomputable def Cn.look(Γ:Cn)(x:Str):GM:=if Γ.G.contains x then Γ.gl x else .bad
noncomputable def LamOk(D:DP)(mg:Str->Option Value)(base:Heap)(code:Value)(qual:Str)(k:Nat)(l:Option (Nat×List Pos)):Prop:=∀j poss,l=some (j,poss)->2<=k/\∃c P,code=.ref c/\PySem.W.CodeHd base c P/\base.BuiltinsAt mg P/\D.tabs j=some (P,poss,qual++"<lambda>")
theorem LamOk.no{D:DP}{mg:Str->Option Value}{base:Heap}{code:Value}{qual:Str}{k:Nat}{l:Option (Nat×List Pos)}(h:l=none):LamOk D mg base code qual k l:=λj pos e=>by rw[h] at e;cases e
structure Ck(D:DP)(W:XW)(Γ:Cn)(X:Cx)(k:Nat):Prop where
 hK:X.K=D.K
 hN:X.N=Γ.N
 nd:Γ.N.Nodup
 vis:∀x∈Γ.N,Vis X.env.scope x
 dbg:∀x∈Γ.N,(x == ("__debug__":Str))=false/\(x == ("__classdict__":Str))=false
 dbG:∀x∈Γ.G,(x == ("__debug__":Str))=false
 glb:∀x∈Γ.G,Gl X x
 glo:∀x∈Γ.G,z0c D X k x (Γ.gl x)
 glU:∀x∈Γ.U,z0c D X k x (Γ.gl x)/\(x == ("__debug__":Str))=false
 cel:∀x∈Γ.cel,X.env.kindOf x=some .cell\/X.env.kindOf x=some .free
 isi:∀t x c,(x,c)∈Γ.cls->∀u v,yo D t u->QS X x v->PySem.W.kitOne X.K u v=some (qX t c)
 fld:∀c C x f,D.cad c=some C->(x,f)∈Γ.fld->D.fn f=some x/\Cls X.K C/\NoAttr X.K C x
 xcx:∀c C,D.adr c=some C->XCls X.K C
 ocx:∀c C,D.cad c=some C->OCls X.K C
 clv:∀x c,(x,c)∈Γ.cls->∃u v,QS X x u/\ClsV v u
 clm:Γ.calm=true->X.calm=true
 rom:Γ.calm=true->Room k X.A
 rmh:RoomH k X.A
 xe:∀e s,XP X W e s->X.xe e s
 frm:∃e0 out L,Frm X e0 out L
 lam:LamOk D X.mg X.base X.env.code X.env.qual k Γ.lam
 kfz:Γ.lam.isSome=true->∀x∈Γ.fz,X.fn x=false/\∀c,X.env.cells.lookup x=some c->X.s₀.heap.objs.size<=c
theorem Ck.unt{D:DP}{W:XW}{Γ:Cn}{X:Cx}{k:Nat}(C:Ck D W Γ X k):X.A.units+64<cLine:=C.rmh.units
theorem qz:∀{N:List Str} {x:Str} {i:Nat},idx N x=some i->N[i]?=some x
 |[],_,_,h=>by simp[idx] at h
 |y::r,x,i,h=>by
  simp only[idx] at h
  split at h
  ·rename_i e;cases h;simp[e]
  ·cases q:idx r x with
   |none=>rw[q] at h;cases h
   |some j=>rw[q] at h;cases h;simpa using qz q
theorem qh{N:List Str}{x:Str}{i:Nat}(h:idx N x=some i):x∈N:=List.mem_of_getElem? (qz h)
section
variable {X:Cx}{D:DP}{W:XW}{Γ:Cn}{k:Nat}{pins:List (Addr×Obj)}{s:Shared}{σ:St}{H:Hp}{φ α:List Addr}{τ:Sl}{μ:Mem}{f g h:De}{a b c:Expr}{pos:Pos}
theorem PE.mono{e:Expr}{t t':TE}(h:PE X e t)(m:∀σ H Q,t' σ H Q->t σ H Q):PE X e t':=λpins s σ H Q I q=>h pins s σ H Q I (m σ H Q q)
theorem YU{i j pos}:PE X (.Constant (.int i) j pos) (rdE D W (eC (.int i))):=PE.mono XB λσ H Q ⟨φ,α,τ,μ,sr,mr,p⟩=>Post.here p mr rfl
theorem z0u{i j pos}:PE X (.Constant (.bool i) j pos) (rdE D W (eC (.bl i))):=PE.mono UI λσ H Q ⟨φ,α,τ,μ,sr,mr,p⟩=>Post.here p mr rfl
theorem XX{j pos}:PE X (.Constant .none j pos) (rdE D W (eC .non)):=PE.mono YL λσ H Q ⟨φ,α,τ,μ,sr,mr,p⟩=>Post.here p mr rfl
theorem YR{i j pos}:PE X (.Constant (.str i) j pos) (rdE D W (eC (.str i))):=PE.mono xM λσ H Q ⟨φ,α,τ,μ,sr,mr,p⟩=>Post.here p mr rfl
theorem YZ(C:Ck D W Γ X k){x:Str}{i:Nat}(hi:idx Γ.N x=some i):PE X (.Name x pos) (rdE D W (eV i)):=by
 refine PE.mono (vz (i:=i) (by rw[C.hN];exact qz hi) (C.vis x (qh hi)) (C.dbg x (qh hi)).1 (C.dbg x (qh hi)).2) ?_
 rintro σ H Q ⟨φ,α,τ,μ,sr,mr,p⟩
 dsimp only[eV] at p
 split at p
 ·rename_i t e
  obtain⟨v,q,d⟩:=sr.get e
  exact⟨v,q,p.here mr d⟩
 ·exact p.elim
theorem XD(C:Ck D W Γ X k){x:Str}{t:T}(hx:x∈Γ.G)(ht:Γ.gl x=.cst t):PE X (.Name x pos) (rdE D W (eC t)):=by
 have g:=C.glo x hx
 rw[ht] at g
 obtain⟨u,v,hm,r,d⟩:=g
 exact PE.mono (Z6 (C.glb x hx) hm r (C.dbG x hx)) λσ H Q ⟨φ,α,τ,μ,sr,mr,p⟩=>Post.here p mr (d _ _ _)
theorem YF{op:Operator}(ha:PE X a (rdE D W f))(hb:PE X b (rdE D W g)):PE X (.BinOp a op b pos) (rdE D W (zi op f g)):=by
 rintro pins s σ H Q I ⟨φ,α,τ,μ,sr,mr,p⟩
 refine wpAny_BinOp (thn (sub ha I sr mr p) ?_)
 rintro u s1 ⟨v,H1,t,μ1,α1,I1,r1,st1,sr1,mr1,d1,p1⟩
 refine thn (sub hb I1 sr1 mr1 p1) ?_
 rintro u' s2 ⟨v',H2,t',μ2,α2,I2,r2,st2,sr2,mr2,d2,p2⟩
 exact YQ I2 mr2 (d1.step st2) d2 r1 r2 p2
theorem Yk(ha:PE X a (rdE D W f)):PE X (.UnaryOp .USub a pos) (rdE D W (QU f)):=by
 rintro pins s σ H Q I ⟨φ,α,τ,μ,sr,mr,p⟩
 refine UnaryOp_ (thn (sub ha I sr mr p) ?_)
 rintro u s1 ⟨v,H1,t,μ1,α1,I1,r1,st1,sr1,mr1,d1,p1⟩
 try dsimp only at p1
 split at p1
 ·cases d1
  exact Xk pins s1 σ H1 _ _ Q I1 r1 ⟨_,rfl,p1.here mr1 rfl⟩
 ·exact p1.elim
theorem YO(ha:PE X a (rdE D W f)):PE X (.UnaryOp .Not a pos) (rdE D W (UR f)):=by
 rintro pins s σ H Q I ⟨φ,α,τ,μ,sr,mr,p⟩
 refine UnaryOp_ (thn (sub ha I sr mr p) ?_)
 rintro u s1 ⟨v,H1,t,μ1,α1,I1,r1,st1,sr1,mr1,d1,p1⟩
 try dsimp only at p1
 split at p1
 ·rename_i b
  cases d1
  cases r1
  exact not_of (wpAny_truthy_bool ⟨.bl (!b),H1,I1,rfl,p1.here mr1 rfl⟩)
 ·exact p1.elim
theorem YW{op:BoolOp}(ha:PE X a (rdE D W f)):PE X (.BoolOp op [a] pos) (rdE D W f):=Xe ha
theorem U1{r:List Expr}(ha:PE X a (rdE D W f))(hb:PE X (.BoolOp .And (b::r) pos) (rdE D W g)):PE X (.BoolOp .And (a::b::r) pos) (rdE D W (XC f g)):=by
 rintro pins s σ H Q I ⟨φ,α,τ,μ,sr,mr,p⟩
 refine BoolOp_and (thn (sub ha I sr mr p) ?_)
 rintro u s1 ⟨v,H1,t,μ1,α1,I1,r1,st1,sr1,mr1,d1,p1⟩
 try dsimp only at p1
 split at p1
 ·cases d1
  cases r1
  rcases p1.br with⟨rfl,p1⟩|⟨rfl,p1⟩
  ·exact wpAny_truthy_bool (hb pins s1 σ H1 Q I1 ⟨φ,α1,τ,μ1,sr1,mr1,p1⟩)
  ·exact wpAny_truthy_bool ⟨.bl false,H1,I1,rfl,p1.here mr1 rfl⟩
 ·exact p1.elim
theorem UX{r:List Expr}(ha:PE X a (rdE D W f))(hb:PE X (.BoolOp .Or (b::r) pos) (rdE D W g)):PE X (.BoolOp .Or (a::b::r) pos) (rdE D W (eOr f g)):=by
 rintro pins s σ H Q I ⟨φ,α,τ,μ,sr,mr,p⟩
 refine BoolOp_or (thn (sub ha I sr mr p) ?_)
 rintro u s1 ⟨v,H1,t,μ1,α1,I1,r1,st1,sr1,mr1,d1,p1⟩
 try dsimp only at p1
 split at p1
 ·cases d1
  cases r1
  rcases p1.br with⟨rfl,p1⟩|⟨rfl,p1⟩
  ·exact wpAny_truthy_bool ⟨.bl true,H1,I1,rfl,p1.here mr1 rfl⟩
  ·exact wpAny_truthy_bool (hb pins s1 σ H1 Q I1 ⟨φ,α1,τ,μ1,sr1,mr1,p1⟩)
 ·exact p1.elim
theorem X6{x y:T}{v w:V}{b:Bool}(d1:Den D φ α H x v)(d2:Den D φ α H y w)(h:scT x y=some b):J5 v w=true/\decide (v=w)=b:=by
 unfold scT at h
 split at h<;>first
  |(cases h;cases d1;cases d2;exact⟨rfl,by simp⟩)
  |cases h
theorem Xl:OpR X (compareOp .Is) (λx y H Q=>∃a b,x=.bl a/\y=.bl b/\Q (.bl (decide (a=b))) H):=by
 intro pins s σ H x y v u Q I rx ry h
 obtain⟨a,b,rfl,rfl,q⟩:=h
 cases rx;cases ry
 refine wpAny_is_plain (by rfl) ⟨.bl (decide (a=b)),H,I,?_,q⟩
 cases a<;>cases b<;>rfl
theorem QW:OpR X (compareOp .IsNot) (λx y H Q=>∃a b,x=.bl a/\y=.bl b/\Q (.bl (!decide (a=b))) H):=by
 intro pins s σ H x y v u Q I rx ry h
 obtain⟨a,b,rfl,rfl,q⟩:=h
 cases rx;cases ry
 refine wpAny_isNot_plain (by rfl) ⟨.bl (!decide (a=b)),H,I,?_,q⟩
 cases a<;>cases b<;>rfl
theorem QA{b:Bool}{C:Prop}{x y:T}{v w:V}{kk:Bool->RE T}{Q:VK}(I:Inv X pins σ H s)(hu:X.A.units+64<cLine)(mr:MRel D φ α H μ)(d1:Den D φ α H x v)(d2:Den D φ α H y w)(p:Post D W φ α H σ (RV D φ Q) (eqW x y μ kk))
  (h1:∀b,Post D W φ α H σ (RV D φ Q) (kk b)->J5 v w=true/\decide (v=w)=b->C)
  (h2:∀b,Post D W φ α H σ (RV D φ Q) (kk b)->((∀u1 u2,RelV v u1->RelV w u2->∀{R:Value->Shared->Prop},R (.bool b) s->wpAny (model X.prog X.w) X.A (compareOp .Eq u1 u2) R X.xe s)/\(∀u1 u2,RelV v u1->RelV w u2->∀{R:Value->Shared->Prop},R (.bool (!b)) s->wpAny (model X.prog X.w) X.A (compareOp .NotEq u1 u2) R X.xe s))->C):C:=by
 have lst:∀{xs ys:List T} {c d:Addr} {vs ws:List V},v=.ref c->w=.ref d->Rd H c (.lst vs)->Rd H d (.lst ws)->DenL D φ α H xs vs->DenL D φ α H ys ws->Post D W φ α H σ (RV D φ Q) (RE.grd (zL xs<=40) (.som (eqL xs ys) kk))->C:=λ{xs ys c d vs ws} e1 e2 r r' l l' p=>by
  obtain⟨hd,p⟩:=p.grd
  obtain⟨b,hb,p⟩:=p.som
  subst e1 e2
  exact h2 b p ⟨λu1 u2 r1 r2 R q=>by cases r1;cases r2;exact WL I l l' r r' hb (by omega) _ _ _ _ q,λu1 u2 r1 r2 R q=>by cases r1;cases r2;exact Wm I l l' r r' hb (by omega) _ _ _ _ q⟩
 unfold eqW at p
 split at p
 ·obtain⟨hd,p⟩:=p.grd
  obtain⟨b,hb,p⟩:=p.som
  obtain⟨c,vs,rfl,_,_,r,l⟩:=d1
  obtain⟨d,ws,rfl,_,_,r',l'⟩:=d2
  exact h2 b p ⟨λu1 u2 r1 r2 R q=>by cases r1;cases r2;exact QP I l l' r r' hb (by omega) _ _ _ _ q,λu1 u2 r1 r2 R q=>by cases r1;cases r2;exact Qv I l l' r r' hb (by omega) _ _ _ _ q⟩
 ·obtain⟨c,vs,e1,_,_,r,l⟩:=d1
  obtain⟨d,ws,e2,_,_,r',l'⟩:=d2
  exact lst e1 e2 r r' l l' p
 ·obtain⟨xs,hi,p⟩:=p.ex1
  obtain⟨c,hc,e1⟩:=d1
  obtain⟨vs,q,l⟩:=mr.ob _ c _ hc hi
  obtain⟨d,ws,e2,_,_,r',l'⟩:=d2
  exact lst e1 e2 (.inl q) r' l l' p
 ·obtain⟨ys,hi,p⟩:=p.ex1
  obtain⟨c,hc,e2⟩:=d2
  obtain⟨vs,q,l⟩:=mr.ob _ c _ hc hi
  obtain⟨d,ws,e1,_,_,r',l'⟩:=d1
  exact lst e1 e2 r' (.inl q) l' l p
 ·obtain⟨z,hi,p⟩:=p.ex1
  obtain⟨c,hc,e1⟩:=d1
  obtain⟨vs,q,l⟩:=mr.ob _ c _ hc hi.1
  obtain⟨d,hd,e2⟩:=d2
  obtain⟨ws,q',l'⟩:=mr.ob _ d _ hd hi.2
  exact lst e1 e2 (.inl q) (.inl q') l l' p
 ·split at p
  ·rename_i hb
   exact h1 _ p (X6 d1 d2 hb)
  ·exact p.elim
theorem uU{op:CmpOp}{x y:T}{v w:V}{u1 u2:Value}{Q:VK}(I:Inv X pins σ H s)(hu:X.A.units+64<cLine)(mr:MRel D φ α H μ)(d1:Den D φ α H x v)(d2:Den D φ α H y w)(r1:RelV v u1)(r2:RelV w u2)
  (p:Post D W φ α H σ (RV D φ Q) (kB op x y μ)):wpAny (model X.prog X.w) X.A (compareOp op u1 u2) (EP X pins σ Q) X.xe s:=by
 unfold kB at p
 split at p
 ·refine QA (b:=true) I hu mr d1 d2 p (λb q h=>?_) (λb q h=>?_)
  ·obtain⟨s1,s2⟩:=h
   exact z0s pins s σ H v w u1 u2 Q I r1 r2 ⟨s1,by rw[s2];exact Post.here q mr rfl⟩
  ·exact h.1 _ _ r1 r2 ⟨.bl b,H,I,rfl,Post.here q mr rfl⟩
 ·refine QA (b:=false) I hu mr d1 d2 p (λb q h=>?_) (λb q h=>?_)
  ·obtain⟨s1,s2⟩:=h
   exact z05 pins s σ H v w u1 u2 Q I r1 r2 ⟨s1,by rw[s2];exact Post.here q mr rfl⟩
  ·exact h.2 _ _ r1 r2 ⟨.bl (!b),H,I,rfl,Post.here q mr rfl⟩
 ·unfold ltW at p
  split at p
  ·cases d1;cases d2
   exact UO pins s σ H _ _ u1 u2 Q I r1 r2 ⟨_,_,rfl,rfl,Post.here p mr rfl⟩
  ·obtain⟨ns,h1,p⟩:=p.som
   obtain⟨ms,h2,p⟩:=p.som
   obtain⟨a,vs,rfl,_,_,q1,l1⟩:=d1
   obtain⟨c,ws,rfl,_,_,q2,l2⟩:=d2
   rw[wZ h1 l1] at q1
   rw[wZ h2 l2] at q2
   exact Ye (by omega) pins s σ H _ _ u1 u2 Q I r1 r2 ⟨a,c,ns,ms,rfl,rfl,.inl q1,.inl q2,Post.here p mr rfl⟩
  ·have d1:v=.str _:=d1
   have d2:w=.str _:=d2
   subst d1 d2
   obtain⟨t1,rfl⟩:=r1
   obtain⟨t2,rfl⟩:=r2
   exact PySem.P.lt_str ⟨.bl _,H,I,rfl,Post.here p mr rfl⟩
  ·exact p.elim
 ·split at p
  ·cases d1;cases d2
   exact z0t pins s σ H _ _ u1 u2 Q I r1 r2 ⟨_,_,rfl,rfl,p.here mr rfl⟩
  ·exact p.elim
 ·split at p
  ·cases d1;cases d2
   exact UN pins s σ H _ _ u1 u2 Q I r1 r2 ⟨_,_,rfl,rfl,p.here mr rfl⟩
  ·exact p.elim
 ·split at p
  ·cases d1;cases d2
   exact UU pins s σ H _ _ u1 u2 Q I r1 r2 ⟨_,_,rfl,rfl,p.here mr rfl⟩
  ·exact p.elim
 ·split at p
  ·cases d2
   refine XY pins s σ H _ _ u1 u2 Q I r1 r2 ⟨rfl,?_⟩
   have q:=p.here mr rfl
   cases x<;>first
    |(have d1:v=_:=d1;subst d1;simpa using q)
    |(obtain⟨_,_,rfl,_⟩:=d1;simpa using q)
    |(obtain⟨_,_,_,_,rfl,_⟩:=d1;simpa using q)
    |(obtain⟨_,_,rfl⟩:=d1;simpa using q)
    |(obtain⟨_,_,_,rfl,_⟩:=d1;simpa using q)
  ·split at p
   ·have d1:v=.bl _:=d1
    have d2:w=.bl _:=d2
    subst d1 d2
    exact Xl pins s σ H _ _ u1 u2 Q I r1 r2 ⟨_,_,rfl,rfl,p.here mr rfl⟩
   ·exact p.elim
  ·exact p.elim
 ·split at p
  ·cases d2
   refine VS pins s σ H _ _ u1 u2 Q I r1 r2 ⟨rfl,?_⟩
   have q:=p.here mr rfl
   cases x<;>first
    |(have d1:v=_:=d1;subst d1;simpa using q)
    |(obtain⟨_,_,rfl,_⟩:=d1;simpa using q)
    |(obtain⟨_,_,_,_,rfl,_⟩:=d1;simpa using q)
    |(obtain⟨_,_,rfl⟩:=d1;simpa using q)
    |(obtain⟨_,_,_,rfl,_⟩:=d1;simpa using q)
  ·split at p
   ·have d1:v=.bl _:=d1
    have d2:w=.bl _:=d2
    subst d1 d2
    exact QW pins s σ H _ _ u1 u2 Q I r1 r2 ⟨_,_,rfl,rfl,p.here mr rfl⟩
   ·exact p.elim
  ·exact p.elim
 ·split at p
  ·have d1:v=.str _:=d1
   have d2:w=.str _:=d2
   subst d1 d2
   exact ZL pins s σ H _ _ u1 u2 Q I r1 r2 ⟨_,_,rfl,rfl,p.here mr rfl⟩
  ·exact p.elim
 ·split at p
  ·have d1:v=.str _:=d1
   have d2:w=.str _:=d2
   subst d1 d2
   exact xD pins s σ H _ _ u1 u2 Q I r1 r2 ⟨_,_,rfl,rfl,p.here mr rfl⟩
  ·exact p.elim
noncomputable def qr:Expr->Bool
 |.Name _ _=>true
 |.Constant _ _ _=>true
 |.BinOp _ _ _ _=>true
 |.UnaryOp _ _ _=>true
 |.Call _ _ _ _=>true
 |.Subscript _ _ _=>true
 |.Attribute _ _ _=>true
 |_=>false
noncomputable def qt:Expr->Bool
 |.Set _ _ _=>false
 |_=>true
noncomputable def vp:CmpOp->Bool
 |.In=>false|.NotIn=>false
 |_=>true
noncomputable def wI(op:CmpOp)(b:Expr):Bool:=vp op || qt b
noncomputable def wY:CmpOp->Bool
 |.Lt=>true|.LtE=>true|.Gt=>true|.GtE=>true|.Eq=>true|.NotEq=>true
 |_=>false
theorem jh{op:CmpOp}{b:Expr}(h:wI op b=true):behindInMarks op b=false:=by
 cases hp:vp op with
 |true=>exact Wf b (by rintro rfl;simp[vp] at hp) (by rintro rfl;simp[vp] at hp)
 |false=>
  have hb:qt b=true:=by unfold wI at h;rw[hp] at h;exact h
  cases b<;>first|rfl|(simp[qt] at hb)
theorem Yr(C:Ck D W Γ X k){op:CmpOp}(ho:wI op b=true)(ha:PE X a (rdE D W f))(hb:PE X b (rdE D W g)):PE X (.Compare a [op] [b] pos) (rdE D W (zp op f g)):=by
 rintro pins s σ H Q I ⟨φ,α,τ,μ,sr,mr,p⟩
 refine wpAny_Compare1 (thn (sub ha I sr mr p) ?_) (jh ho)
 rintro u s1 ⟨v,H1,t,μ1,α1,I1,r1,st1,sr1,mr1,d1,p1⟩
 refine thn (sub hb I1 sr1 mr1 p1) ?_
 rintro u' s2 ⟨v',H2,t',μ2,α2,I2,r2,st2,sr2,mr2,d2,p2⟩
 exact uU I2 C.unt mr2 (d1.step st2) d2 r1 r2 p2
theorem jj{op:CmpOp}{β:Type}{R:β->Mem->List Addr->Hp->Prop}{kk:T->Mem->RE β}{x y:T}{v w:V}{u1 u2:Value}(I:Inv X pins σ H s)(hu:X.A.units+64<cLine)(mr:MRel D φ α H μ)(d1:Den D φ α H x v)(d2:Den D φ α H y w)(r1:RelV v u1)(r2:RelV w u2)
  (p:Post D W φ α H σ R ((kB op x y μ).bind kk)):wpAny (model X.prog X.w) X.A (compareOp op u1 u2) (EP X pins σ λz H1=>∃t μ1 α1,Stp α H α1 H1/\MRel D φ α1 H1 μ1/\Den D φ α1 H1 t z/\Post D W φ α1 H1 σ R (kk t μ1)) X.xe s:=
 uU I hu mr d1 d2 r1 r2 (p.bind.mono λt μ' α' H' st m q v d=>⟨t,μ',α',st,m,d,q⟩)
theorem qS:∀{ops:List CmpOp} {es:List Expr},ops.all wY=true->lastMarks ops es=false
 |[],es,_=>by cases es<;>rfl
 |[op],[],_=>rfl
 |[op],[e],h=>Wf e (by rintro rfl;simp[wY] at h) (by rintro rfl;simp[wY] at h)
 |[op],_::_::_,_=>rfl
 |op::op'::ops,[],_=>rfl
 |op::op'::ops,e::es,h=>by
  have:lastMarks (op'::ops) es=false:=qS (by simp only[List.all_cons,Bool.and_eq_true] at h ⊢;exact h.2)
  cases es with
  |nil=>cases ops<;>rfl
  |cons e' es=>exact this
noncomputable def Qa (X:Cx)(D:DP)(W:XW):List Expr->List (CmpOp×De)->Prop
 |[],[]=>True
 |e::es,p::ps=>PE X e (rdE D W p.2)/\Qa X D W es ps
 |_,_=>False
theorem yC(hu:X.A.units+64<cLine){Q:VK}:∀{ps:List (CmpOp×De)} {es:List Expr} {s:Shared} {H:Hp} {α:List Addr} {μ:Mem} {x:T} {v:V} {u:Value},Qa X D W es ps->Inv X pins σ H s->SRel D φ α H τ σ->MRel D φ α H μ->Den D φ α H x v->RelV v u->Post D W φ α H σ (RV D φ Q) (WO ps x τ μ)->
  wpAny (model X.prog X.w) X.A (compareChain pos u (ps.map (·.1)) (evalEach es X.env)) (EP X pins σ Q) X.xe s
 |[],_,_,_,_,_,_,_,_,_,_,_,_,_,_,p=>p.elim
 |[(op,g)],[],_,_,_,_,_,_,_,h,_,_,_,_,_,_=>h.elim
 |[(op,g)],[e],s,H,α,μ,x,v,u,h,I,sr,mr,d,r,p=>by
  refine chain_last (thn (sub h.1 I sr mr p) ?_)
  rintro u' s2 ⟨v',H2,t',μ2,α2,I2,r2,st2,sr2,mr2,d2,p2⟩
  exact uU I2 hu mr2 (d.step st2) d2 r r2 p2
 |[(op,g)],_::_::_,_,_,_,_,_,_,_,h,_,_,_,_,_,_=>h.2.elim
 |(op,g)::p'::ps,[],_,_,_,_,_,_,_,h,_,_,_,_,_,_=>h.elim
 |(op,g)::p'::ps,[e],_,_,_,_,_,_,_,h,_,_,_,_,_,_=>h.2.elim
 |(op,g)::(op',g')::ps,e::e'::es,s,H,α,μ,x,v,u,h,I,sr,mr,d,r,p=>by
  refine chain_link (thn (sub h.1 I sr mr p) ?_)
  rintro u' s2 ⟨v',H2,t',μ2,α2,I2,r2,st2,sr2,mr2,d2,p2⟩
  refine thn (jj I2 hu mr2 (d.step st2) d2 r r2 p2) ?_
  rintro dd s3 ⟨z,H3,I3,r3,t3,μ3,α3,st3,mr3,d3,p3⟩
  try dsimp only at p3
  split at p3
  ·cases d3
   cases r3
   rcases p3.br with⟨rfl,p3⟩|⟨rfl,p3⟩
   ·exact wpAny_truthy_bool (ite_tt (yC hu (ps:=(op',g')::ps) (es:=e'::es) h.2 I3 (sr2.step st3) mr3 (d2.step st3) r2 p3))
   ·exact wpAny_truthy_bool (ite_ff ⟨.bl false,H3,I3,rfl,p3.here mr3 rfl⟩)
  ·exact p3.elim
theorem VC(C:Ck D W Γ X k){e1 e2:Expr}{es:List Expr}{p1 p2:CmpOp×De}{ps:List (CmpOp×De)}(ho:(p1::p2::ps).all (λp=>wY p.1)=true)(ha:PE X a (rdE D W f))(h:Qa X D W (e1::e2::es) (p1::p2::ps)):PE X (.Compare a (p1.1::p2.1::ps.map (·.1)) (e1::e2::es) pos) (rdE D W (eCh f (p1::p2::ps))):=by
 rintro pins s σ H Q I ⟨φ,α,τ,μ,sr,mr,p⟩
 refine Compare_chain (thn (sub ha I sr mr p) ?_) (qS (by simpa[List.all_map,Function.comp_def] using ho))
 rintro u s1 ⟨v,H1,t,μ1,α1,I1,r1,st1,sr1,mr1,d1,p1⟩
 exact yC C.unt h I1 sr1 mr1 d1 r1 p1
theorem Z7(hu:X.A.units+64<cLine){β:Type}{R:β->Mem->List Addr->Hp->Prop}{kk:Bool->Mem->RE β}:∀{ps:List (CmpOp×De)} {es:List Expr} {s:Shared} {H:Hp} {α:List Addr} {μ:Mem} {x:T} {v:V} {u:Value} {Q:Bool->Hp->Prop},Qa X D W es ps->Inv X pins σ H s->SRel D φ α H τ σ->MRel D φ α H μ->Den D φ α H x v->RelV v u->Post D W φ α H σ (λb _ _ H'=>Q b H') ((WO ps x τ μ).bind j7)->
  wpAny (model X.prog X.w) X.A (testChain pos u (ps.map (·.1)) (evalEach es X.env)) (TP X pins σ Q) X.xe s
 |[],_,_,_,_,_,_,_,_,_,_,_,_,_,_,_,p=>Post.elim p
 |[(op,g)],[],_,_,_,_,_,_,_,_,h,_,_,_,_,_,_=>h.elim
 |[(op,g)],[e],s,H,α,μ,x,v,u,Q,h,I,sr,mr,d,r,p=>by
  have p:Post D W φ α H σ (λb _ _ H'=>Q b H') ((g τ μ).bind λy μ1=>(kB op x y μ1).bind j7):=p
  refine test_last (thn (sub h.1 I sr mr p) ?_)
  rintro u' s2 ⟨v',H2,t',μ2,α2,I2,r2,st2,sr2,mr2,d2,p2⟩
  refine thn (jj I2 hu mr2 (d.step st2) d2 r r2 p2) ?_
  rintro dd s3 ⟨z,H3,I3,r3,t3,μ3,α3,st3,mr3,d3,p3⟩
  unfold j7 at p3
  split at p3
  ·cases d3
   cases r3
   exact wpAny_truthy_bool ⟨H3,I3,p3.ok (Stp.refl _ _) mr3⟩
  ·exact p3.elim
 |[(op,g)],_::_::_,_,_,_,_,_,_,_,_,h,_,_,_,_,_,_=>h.2.elim
 |(op,g)::p'::ps,[],_,_,_,_,_,_,_,_,h,_,_,_,_,_,_=>h.elim
 |(op,g)::p'::ps,[e],_,_,_,_,_,_,_,_,h,_,_,_,_,_,_=>h.2.elim
 |(op,g)::(op',g')::ps,e::e'::es,s,H,α,μ,x,v,u,Q,h,I,sr,mr,d,r,p=>by
  have p:Post D W φ α H σ (λb _ _ H'=>Q b H') ((g τ μ).bind λy μ1=>(kB op x y μ1).bind λk μ2=>(match k with|.bl b=>RE.br b (WO ((op',g')::ps) y τ μ2) (.ok (.bl false) μ2)|_=>RE.st:RE T).bind j7):=p
  refine test_link (thn (sub h.1 I sr mr p) ?_)
  rintro u' s2 ⟨v',H2,t',μ2,α2,I2,r2,st2,sr2,mr2,d2,p2⟩
  refine thn (jj I2 hu mr2 (d.step st2) d2 r r2 p2) ?_
  rintro dd s3 ⟨z,H3,I3,r3,t3,μ3,α3,st3,mr3,d3,p3⟩
  try dsimp only at p3
  split at p3
  ·rename_i bb
   cases d3
   cases r3
   cases bb with
   |true=>exact wpAny_truthy_bool (ite_tt (Z7 hu (kk:=kk) (R:=R) (ps:=(op',g')::ps) (es:=e'::es) h.2 I3 (sr2.step st3) mr3 (d2.step st3) r2 p3))
   |false=>
    have p3:Post D W φ α3 H3 σ (λb _ _ H'=>Q b H') (RE.ok false μ3):=p3
    exact wpAny_truthy_bool (ite_ff ⟨H3,I3,p3.ok (Stp.refl _ _) mr3⟩)
  ·have p3:Post D W φ α3 H3 σ (λb _ _ H'=>Q b H') RE.st:=p3
   exact p3.elim
end
section
variable {X:Cx}{D:DP}{W:XW}{Γ:Cn}{k:Nat}{pins:List (Addr×Obj)}{s:Shared}{σ:St}{H:Hp}{φ α:List Addr}{τ:Sl}{μ:Mem}{f g h:De}{ft gt:Dt}{a b c:Expr}{pos:Pos}
theorem Z1(ha:PE X a (rdE D W f))(he:∀whole,isTrue a X.env whole=(do let v ←whole;standAt a.pos;holding [v] (truthy v))):PT X a (rdT D W (tE f)):=by
 rintro pins s σ H Q I ⟨φ,α,τ,μ,sr,mr,p⟩
 rw[he]
 refine wpAny_bind (thn (sub ha I sr mr p) ?_)
 rintro u s1 ⟨v,H1,t,μ1,α1,I1,r1,st1,sr1,mr1,d1,p1⟩
 unfold j7 at p1
 split at p1
 ·cases d1
  cases r1
  exact wpAny_bind (wpAny_standAt (wpAny_holding (wpAny_truthy_bool ⟨H1,I1,p1.ok (Stp.refl _ _) mr1⟩)))
 ·exact p1.elim
theorem ub(C:Ck D W Γ X k){op:CmpOp}(ho:wI op b=true)(ha:PE X a (rdE D W f))(hb:PE X b (rdE D W g)):PT X (.Compare a [op] [b] pos) (rdT D W (tE (zp op f g))):=by
 rintro pins s σ H Q I ⟨φ,α,τ,μ,sr,mr,p⟩
 have p:Post D W φ α H σ (λb _ _ H'=>Q b H') ((f τ μ).bind λx μ1=>(g τ μ1).bind λy μ2=>(kB op x y μ2).bind j7):=p
 refine wpAny_isTrue_Compare1 (thn (sub ha I sr mr p) ?_) (jh ho)
 rintro u s1 ⟨v,H1,t,μ1,α1,I1,r1,st1,sr1,mr1,d1,p1⟩
 refine thn (sub hb I1 sr1 mr1 p1) ?_
 rintro u' s2 ⟨v',H2,t',μ2,α2,I2,r2,st2,sr2,mr2,d2,p2⟩
 refine thn (jj I2 C.unt mr2 (d1.step st2) d2 r1 r2 p2) ?_
 rintro d s3 ⟨z,H3,I3,r3,t3,μ3,α3,st3,mr3,d3,p3⟩
 unfold j7 at p3
 split at p3
 ·cases d3
  cases r3
  exact wpAny_truthy_bool ⟨H3,I3,p3.ok (Stp.refl _ _) mr3⟩
 ·exact p3.elim
theorem yE(C:Ck D W Γ X k){e1 e2:Expr}{es:List Expr}{p1 p2:CmpOp×De}{ps:List (CmpOp×De)}(ho:(p1::p2::ps).all (λp=>wY p.1)=true)(ha:PE X a (rdE D W f))(h:Qa X D W (e1::e2::es) (p1::p2::ps)):PT X (.Compare a (p1.1::p2.1::ps.map (·.1)) (e1::e2::es) pos) (rdT D W (tE (eCh f (p1::p2::ps)))):=by
 rintro pins s σ H Q I ⟨φ,α,τ,μ,sr,mr,p⟩
 have p:Post D W φ α H σ (λb _ _ H'=>Q b H') ((f τ μ).bind λx μ1=>(WO (p1::p2::ps) x τ μ1).bind j7):=p
 refine isTrue_chain (thn (sub ha I sr mr p) ?_) (qS (by simpa[List.all_map,Function.comp_def] using ho))
 rintro u s1 ⟨v,H1,t,μ1,α1,I1,r1,st1,sr1,mr1,d1,p1⟩
 exact Z7 (kk:=λ_ _=>RE.st (β:=Bool)) (R:=λ_ _ _ _=>True) C.unt h I1 sr1 mr1 d1 r1 p1
theorem Ya{r:List Expr}(ha:PT X a (rdT D W ft))(hb:PW X (.BoolOp .And (b::r) pos) (rdT D W gt)):PW X (.BoolOp .And (a::b::r) pos) (rdT D W (yy ft gt)):=by
 intro whole pins s σ H Q I hq
 refine YT ha hb whole pins s σ H Q I ?_
 obtain⟨φ,α,τ,μ,sr,mr,p⟩:=hq
 refine⟨φ,α,τ,μ,sr,mr,p.bind.mono λc μ' α' H' st m q=>?_⟩
 rcases q.br with⟨rfl,q⟩|⟨rfl,q⟩
 ·exact⟨φ,α',τ,μ',sr.step st,m,q⟩
 ·exact q.ok (Stp.refl _ _) m
theorem z0r{r:List Expr}(ha:PT X a (rdT D W ft))(hb:PW X (.BoolOp .Or (b::r) pos) (rdT D W gt)):PW X (.BoolOp .Or (a::b::r) pos) (rdT D W (tOr ft gt)):=by
 intro whole pins s σ H Q I hq
 refine UP ha hb whole pins s σ H Q I ?_
 obtain⟨φ,α,τ,μ,sr,mr,p⟩:=hq
 refine⟨φ,α,τ,μ,sr,mr,p.bind.mono λc μ' α' H' st m q=>?_⟩
 rcases q.br with⟨rfl,q⟩|⟨rfl,q⟩
 ·exact q.ok (Stp.refl _ _) m
 ·exact⟨φ,α',τ,μ',sr.step st,m,q⟩
theorem Yg(ha:PT X a (rdT D W ft)):PT X (.UnaryOp .Not a pos) (rdT D W (wz ft)):=by
 intro pins s σ H Q I hq
 refine Ue ha pins s σ H Q I ?_
 obtain⟨φ,α,τ,μ,sr,mr,p⟩:=hq
 exact⟨φ,α,τ,μ,sr,mr,p.bind.mono λc μ' α' H' st m q=>q.ok (Stp.refl _ _) m⟩
theorem z01(hc:PT X c (rdT D W ft))(ha:PE X a (rdE D W f))(hb:PE X b (rdE D W g)):PE X (.IfExp c a b pos) (rdE D W (eIf ft f g)):=by
 rintro pins s σ H Q I ⟨φ,α,τ,μ,sr,mr,p⟩
 refine wpAny_IfExp (thn (UM hc I sr mr p) ?_)
 rintro d s1 ⟨H1,μ1,α1,I1,st1,sr1,mr1,p1⟩
 rcases p1.br with⟨rfl,p1⟩|⟨rfl,p1⟩
 ·exact ha pins s1 σ H1 Q I1 ⟨φ,α1,τ,μ1,sr1,mr1,p1⟩
 ·exact hb pins s1 σ H1 Q I1 ⟨φ,α1,τ,μ1,sr1,mr1,p1⟩
noncomputable def zM:Expr->Bool
 |.Name _ _=>true
 |.Attribute _ _ _=>true
 |.Subscript _ _ _=>true
 |.Call (.Name x _) _ _ _=>x != ("super":Str)
 |.Call (.Attribute _ _ _) _ _ _=>true
 |_=>false
theorem Post.ex2{β δ1 δ2:Type}{R:β->Mem->List Addr->Hp->Prop}{P:δ1->Prop}{P2:δ1->δ2->Prop}{r:δ1->δ2->RE β}(p:Post D W φ α H σ R (λK Z=>∃x y,P x/\P2 x y/\r x y K Z)):∃x y,P x/\P2 x y/\Post D W φ α H σ R (r x y):=by
 obtain⟨K,Z,⟨x,y,h1,h2,q⟩,h⟩:=p
 exact⟨x,y,h1,h2,K,Z,q,h⟩
theorem qN{b:Expr}(h:qr b=true):JG b:=by
 intro o i
 cases b<;>first|(simp[qr] at h;done)|rfl
theorem kg{D:DP}{ts:List T}{xs:List V}{i:Int}{t:T}(l:DenL D φ α H ts xs)(h:wy ts i=some t):∃v,atI xs i=some v/\Den D φ α H t v:=by
 unfold wy at h
 have e:ixN xs.length i=JZ ts.length i:=by rw[l.length];rfl
 unfold atI
 rw[e]
 cases q:JZ ts.length i with
 |none=>rw[q] at h;cases h
 |some j=>
  rw[q] at h
  exact l.get h
theorem Uy(hb':qr b=true)(hK:X.K=D.K)(ha:PE X a (rdE D W f))(hb:PE X b (rdE D W g)):PE X (.Subscript a b pos) (rdE D W (eIx f g)):=by
 rintro pins s σ H Q I ⟨φ,α,τ,μ,sr,mr,p⟩
 refine Subscript_ (thn (sub ha I sr mr p) ?_)
 rintro u s1 ⟨v,H1,t,μ1,α1,I1,r1,st1,sr1,mr1,d1,p1⟩
 refine thn (sub hb I1 sr1 mr1 p1) ?_
 rintro u' s2 ⟨v',H2,t',μ2,α2,I2,r2,st2,sr2,mr2,d2,p2⟩
 have d1:=d1.step st2
 unfold KJ at p2
 split at p2
 ·cases d2
  split at p2
  ·obtain⟨w,hw,p2⟩:=p2.som
   obtain⟨ad,xs,rfl,_,_,r,l⟩:=d1
   obtain⟨z,hz,dz⟩:=kg l hw
   exact ZC a b pins s2 σ H2 _ _ _ _ Q I2 r1 r2 ⟨ad,xs,_,z,rfl,rfl,.inl r,hz,p2.here mr2 dz⟩ (qN hb' _ _)
  ·obtain⟨w,hw,p2⟩:=p2.som
   obtain⟨ad,xs,rfl,_,_,r,l⟩:=d1
   obtain⟨z,hz,dz⟩:=kg l hw
   exact YJ a b pins s2 σ H2 _ _ _ _ Q I2 r1 r2 ⟨ad,xs,_,z,rfl,rfl,.inl r,hz,p2.here mr2 dz⟩ (qN hb' _ _)
  ·obtain⟨ts,w,hj,hw,p2⟩:=p2.ex2
   obtain⟨ad,hi',rfl⟩:=d1
   obtain⟨xs,e2,l⟩:=mr2.ob _ ad _ hi' hj
   obtain⟨z,hz,dz⟩:=kg l hw
   exact ZC a b pins s2 σ H2 _ _ _ _ Q I2 r1 r2 ⟨ad,xs,_,z,rfl,rfl,.inl (.inl e2),hz,Post.here p2 mr2 dz⟩ (qN hb' _ _)
  ·obtain⟨hl,p2⟩:=p2.grd
   obtain⟨c,hc,p2⟩:=p2.som
   have d1:v=.str _:=d1
   subst d1
   exact U3 a b pins s2 σ H2 _ _ _ _ Q I2 r1 r2 ⟨_,_,c,rfl,rfl,zv hl,hc,p2.here mr2 rfl⟩ (qN hb' _ _)
  ·exact p2.elim
 ·exact p2.elim
noncomputable def noStar:Expr->Bool
 |.Starred _ _=>false
 |_=>true
theorem z6{e:Expr}{es:List Expr}{env:Env}(h:noStar e=true):starEach (e::es) env=(false,eval e env)::starEach es env:=by
 cases e<;>first|(simp[noStar] at h;done)|rfl
theorem qM{es:List Expr}{env:Env}{pos:Pos}(h:es.all noStar=true):(backTo pos (starEach es env)).any (·.1)=false:=by
 induction es with
 |nil=>rfl
 |cons e es ih=>
  simp only[List.all_cons,Bool.and_eq_true] at h
  rw[z6 h.1]
  have:=ih h.2
  first
   |(simp[backTo] at this ⊢;exact this)
   |(simpa[backTo] using this)
theorem Yf:PA X [] (rdA D W 0 (evs [])):=by
 rintro pos pins s σ H Q I ⟨φ,α,τ,μ,sr,mr,p⟩
 exact qe pos pins s σ H Q I (Post.ok p (Stp.refl _ _) mr [] rfl rfl)
theorem Jr{e:Expr}{es:List Expr}{fs:List De}{n:Nat}(hs:noStar e=true)(ha:PE X e (rdE D W f))(hr:PA X es (rdA D W n (evs fs))):PA X (e::es) (rdA D W (n+1) (evs (f::fs))):=by
 intro pos pins s σ H Q I hq
 refine zt ha hr (z6 hs) pos pins s σ H Q I ?_
 obtain⟨φ,α,τ,μ,sr,mr,p⟩:=hq
 have p:Post D W φ α H σ _ ((f τ μ).bind λt μ1=>(evs fs τ μ1).bind λts μ2=>.ok (t::ts) μ2):=p
 refine⟨φ,α,τ,μ,sr,mr,p.bind.mono λt μ1 α1 H1 st m q v d=>?_⟩
 refine⟨φ,α1,τ,μ1,sr.step st,m,q.bind.mono λts μ2 α2 H2 st2 m2 q2 vs dl hn=>?_⟩
 exact q2.ok (Stp.refl _ _) m2 _ ⟨v,vs,rfl,d.step st2,dl⟩ (by simp[hn])
noncomputable def EsOk (X:Cx)(D:DP)(W:XW):List Expr->List De->Prop
 |[],[]=>True
 |e::es,f::fs=>noStar e=true/\PE X e (rdE D W f)/\EsOk X D W es fs
 |_,_=>False
theorem vL:∀{es:List Expr} {fs:List De},EsOk X D W es fs->PA X es (rdA D W es.length (evs fs))
 |[],[],_=>Yf
 |e::es,f::fs,h=>Jr h.1 h.2.1 (vL h.2.2)
 |[],_::_,h=>h.elim
 |_::_,[],h=>h.elim
theorem EsOk.stars:∀{es:List Expr} {fs:List De},EsOk X D W es fs->es.all noStar=true
 |[],[],_=>rfl
 |e::es,f::fs,h=>by simp[h.1,EsOk.stars h.2.2]
 |[],_::_,h=>h.elim
 |_::_,[],h=>h.elim
theorem YX{es:List Expr}{fs:List De}(hl:es.length<=room)(h:EsOk X D W es fs):PE X (.List es pos) (rdE D W (qm fs)):=by
 refine PE.mono (W9 (vL h)) ?_
 rintro σ H Q ⟨φ,α,τ,μ,sr,mr,p⟩
 refine⟨φ,α,τ,μ,sr,mr,p.bind.mono λts μ1 α1 H1 st m q vs dl hn=>⟨by rw[hn];exact zv hl,λz hz=>?_⟩⟩
 exact q.fresh m (zb hz) ⟨z,vs,rfl,zf m hz,zh m hz,.inl z8,dl.step (Stp.new (zb hz))⟩
theorem XA{es:List Expr}{fs:List De}{kk:Nat}(hl:es.length<=room)(h:EsOk X D W es fs):PE X (.Tuple es kk pos) (rdE D W (vC fs)):=by
 refine PE.mono (VD (vL h)) ?_
 rintro σ H Q ⟨φ,α,τ,μ,sr,mr,p⟩
 refine⟨φ,α,τ,μ,sr,mr,p.bind.mono λts μ1 α1 H1 st m q vs dl hn=>⟨by rw[hn];exact zv hl,λz hz=>?_⟩⟩
 exact q.fresh m (zb hz) ⟨z,vs,rfl,zf m hz,zh m hz,.inl z8,dl.step (Stp.new (zb hz))⟩
end
section
open PySem.W
theorem kL{prog:Program}{w:World}{A:Around}{E:Value->Shared->Prop}{s:Shared}{K:Frag}{x D:Addr}{ox:Obj}{od:Option Obj}{Q:Option Value->Shared->Prop}(X:K.In s.heap)(I:InstAt s.heap x ox D od)
 (hga:findIn K (.ref D) "__getattribute__"=some (some (.builtin "BaseException.__getattribute__"))) (hk:findIn K (.ref D) "__getattr__"=some none)
 (hf:findObj K D od "__class__"=some (.bind (.builtin "getset_descriptor.__get__") (.builtin "object.__class__"))) (hm:mroIn K D (.type "object")=some true) (hb:mroIn K D (.type "BaseException")=some true)
 (h:Q (some (.ref D)) {s with toks:=s.toks+1}):wpAny (model prog w) A (getAttr? (.ref x) "__class__") Q E s:=by
 obtain⟨hh,g,d,t,os⟩:=s
 have L0:=I.type (M:=model prog w)
 have L1:=looks_findIn (M:=model prog w) X hga
 have L2:=looks_findIn (M:=model prog w) X hk
 have L3:=looks_find (M:=model prog w) X I hf
 have L4:=looks_mroIn (M:=model prog w) X hb
 have f3:=PySem.F.attr_ValueError.ga.bind (.ref x)
 unfold getAttr? getAttrBy? getAttrBy
 refine wpAny_bind (wpAny_mkText (wpAny_bind (wpAny_attempt (wpAny_holding (wpAny_bind (L0.at (wpAny_bind (L1.at ?_))))))))
 show wpAny _ _ (getAttrByItsOwn (.ref x) _ (.ref D) (.builtin "BaseException.__getattribute__") false false) _ _ _
 unfold getAttrByItsOwn hookBefore
 refine wpAny_bind ?_
 show wpAny _ _ (typeLookup (.ref D) "__getattr__") _ _ _
 refine L2.at ?_
 refine wpAny_bind (wpAny_attempt (wpAny_holding ?_))
 unfold callGetattribute boundAndCalled
 show wpAny _ _ (bindSpecial (.builtin "BaseException.__getattribute__") (.ref x) >>= _) _ _ _
 rw[f3]
 refine wpAny_bind (wpAny_pure ?_)
 show wpAny _ _ (call (.builtin "BaseException.__getattribute__") [.ref x,.str "__class__" _]) _ _ _
 refine wpAny_call (codeAny_call_builtin PySem.F.attr_ValueError.ga.plain PySem.F.entry_bexc_ga ?_)
 have hkd:builtinKind "BaseException.__getattribute__"=some .slot:=by decide +kernel
 have hsp:splitId "BaseException.__getattribute__"=some ("BaseException","__getattribute__"):=by decide +kernel
 have ha:=PySem.F.args_bexc_ga (.ref x) (.str "__class__" t)
 have LI:Looks (model prog w) hh (isInstance (.ref x) (.type "BaseException")) true:=L0.andThen L4
 simp only[checkBuiltinCall,hkd,hsp]
 refine wpAny_bind (LI.at ?_)
 simp only[Bool.not_true,Bool.false_eq_true,if_false]
 refine wpAny_of_eq (a:=()) ha ?_
 unfold Builtin.«object.__getattribute__»
 refine wpAny_bind (m:=slotArgs _ _ _) (wpAny_pure ?_)
 dsimp only
 refine wpAny_bind ?_
 show wpAny _ _ (Builtin.ObjectAttr.attrName (.str "__class__" t)) _ _ _
 first
  |exact wpAny_pure (wpAny_bind (L0.at (wpAny_bind (L3.at ?_))))
  |(refine wpAny_pure (wpAny_bind (L0.at (wpAny_bind (L3.at ?_)))))
  |(unfold Builtin.ObjectAttr.attrName;refine wpAny_pure (wpAny_bind (L0.at (wpAny_bind (L3.at ?_)))))
 dsimp only
 unfold Builtin.ObjectAttr.bindTo
 show wpAny _ _ (holding [Value.builtin "object.__class__"] (call (.builtin "getset_descriptor.__get__") [.builtin "object.__class__",.ref x,.ref D]) >>= ret) _ _ _
 refine wpAny_bind (wpAny_holding (wpAny_call (class_get (s:=⟨hh,g,d,t+1,os⟩) X I hm ?_)))
 refine wpAny_pure ?_
 exact handed_on rfl (wpAny_pure h)
theorem XCls.fo{K:Frag}{C:Addr}(h:XCls K C)(od:Option Obj):findObj K C od "__class__"=some (.bind (.builtin "getset_descriptor.__get__") (.builtin "object.__class__")):=by
 have hc:=h.cl
 obtain⟨cd,e⟩:=Option.isSome_iff_exists.mp hc
 unfold findObj
 rw[e,h.fi]
 simp only[Option.bind_some]
 rw[h.sp]
 simp only[Option.bind_some]
 rw[h.tk]
 rfl
noncomputable def XcP (x C:Addr)(d:Option Addr)(h:Heap):Prop:=XcAt x C d h/\∀dx,d=some dx->∃o,h.get? dx=some o
theorem VI{K:Frag}{x C:Addr}{d:Option Addr}(hC:XCls K C):KitX K (.ref x) (.ref C) (XcP x C d) where
 ty:=λM h _ p=>by
  obtain⟨⟨oe,vs,h1,h2,h3,h4⟩,_⟩:=p
  exact h2▸(Looks.ld h1).andThen .now
 it:=λM h X _=>by
  have hcD:=hC.cl
  unfold clsIn at hcD
  split at hcD
  ·rename_i c' d' cd' sl' ho
   intro A' Q' E' s' k q
   unfold isType loadHead
   exact wpAny_bind (wpAny_loadPart (k _ _ (X _ _ ho)) (wpAny_pure q))
  ·cases hcD
 ne:=λh tp dd its n sl X htp=>by
  refine Bool.eq_false_iff.mpr λq=>?_
  have e:C=tp:=Value.ref.inj (beq_iff_eq.mp q)
  subst e
  have hcD:=hC.cl
  unfold clsIn at hcD
  split at hcD
  ·rename_i c' d' cd' sl' ho
   have z:=(X _ _ ho).symm.trans htp
   cases z
  ·cases hcD
 ca:=λX p k=>by
  obtain⟨⟨oe,vs,h1,h2,h3,h4⟩,h5⟩:=p
  cases d with
  |none=>
   refine kL (ox:=oe) (od:=none) X ⟨h1,h2,?_,?_⟩ hC.ga hC.hk (hC.fo _) hC.ob hC.bx k
   ·unfold notCls;rw[h3]
   ·rw[h4];trivial
  |some dx=>
   obtain⟨o,ho⟩:=h5 dx rfl
   refine kL (ox:=oe) (od:=some o) X ⟨h1,h2,?_,?_⟩ hC.ga hC.hk (hC.fo _) hC.ob hC.bx k
   ·unfold notCls;rw[h3]
   ·rw[h4];exact ho
end
section
variable {X:Cx}{D:DP}{W:XW}{Γ:Cn}{k:Nat}{pins:List (Addr×Obj)}{s:Shared}{σ:St}{H:Hp}{φ α:List Addr}{τ:Sl}{μ:Mem}{f g h:De}{a b c:Expr}{pos:Pos}{es:List Expr}{fs:List De}
theorem qA{e:Expr}{f:Str}{env:Env}(h:zM e=true):attributeBase e f env (eval e env)=eval e env:=by
 cases e with
 |Call g args kws p=>
  cases g with
  |Name x p0=>
   have hx:(x != ("super":Str))=true:=h
   cases args<;>cases kws<;>first|rfl|(unfold attributeBase;simp[hx])
  |Attribute _ _ _=>rfl
  |_=>exact absurd (show false=true from h) Bool.false_ne_true
 |_=>first|exact absurd (show false=true from h) Bool.false_ne_true|rfl
theorem XDict.ext{D:DP}{fs:List (Nat×T)}{d:Option Addr}(x:XDict D φ α H fs d)(I:Inv X pins σ H s):∀dx,d=some dx->∃o,s.heap.get? dx=some o:=λdx e=>by
 subst e
 obtain⟨gs,_,_,e,_⟩:=x
 exact x4 (I.hok dx _ e)
noncomputable def rdO (D:DP)(W:XW)(f:Dp):TO:=λσ H Q=>RdP D H σ λφ α τ μ=>Post D W φ α H σ (λo _ _ H'=>Q o H') (f τ μ)
theorem Kf:PO X none (rdO D W pN):=by
 rintro pins s σ H Q I ⟨φ,α,τ,μ,sr,mr,p⟩
 exact K6 pins s σ H Q I (Post.ok p (Stp.refl _ _) mr)
theorem Jz(h:PE X a (rdE D W f)):PO X (some a) (rdO D W (pS f)):=by
 rintro pins s σ H Q I ⟨φ,α,τ,μ,sr,mr,p⟩
 refine JT h pins s σ H Q I ⟨φ,α,τ,μ,sr,mr,p.bind.mono λt μ' α' H' st m q v d=>?_⟩
 split at q
 ·cases d
  exact⟨_,rfl,q.ok (Stp.refl _ _) m⟩
 ·exact q.elim
theorem vb{ts:List T}{xs:List V}(l:DenL D φ α H ts xs)(lo hi:Option Int):DenL D φ α H (zU ts lo hi) (kF xs lo hi):=by
 have e:ts.length=xs.length:=l.length
 have e1:∀n d o,ZU n d o=HT.sIx n d o:=λn d o=>by cases o<;>rfl
 unfold zU kF
 rw[e1,e1,e]
 exact (l.drop _).take _
theorem vf{prog:Program}{w:World}{A:Around}{E:Value->Shared->Prop}{s:Shared}{t sl:Addr}{items:Array Value}{vl vu:Value}{lo hi:Option Int}{Q:Value->Shared->Prop}(ht:IsTup s.heap t items)(hs:s.heap.IsSliceOf sl vl vu .none)(pl:IsPart vl lo)(pu:IsPart vu hi)
  (hw:HT.sIx items.size 0 lo=0/\HT.sIx items.size items.size hi=items.size) (h:Q (.ref t) s):wpAny (model prog w) A (getItem (.ref t) (.ref sl)) Q E s:=by
 obtain⟨os,hos,hcs,hds⟩:=id hs
 have hTs:s.TypeIs (.ref sl) "slice":=⟨os,hos,hcs⟩
 unfold getItem
 try with_reducible refine wpAny_holding ?_
 first|refine wpAny_bind (wpAny_pure ?_)|skip
 refine wpAny_bind (wpAny_sequenceKey ht.typeIs (by decide) ?_)
 refine wpAny_bind (wpAny_callSpecial?_slot (name:=Str.ofString "__getitem__") ht.typeIs slot_tuple_getitem (wpAny_call_entry slot_tuple_getitem ht.typeIs entry_tuple_getitem ?_ (args_tuple_getitem _ _)))
 show wpAny _ _ (Builtin.Tuple.tupleItemsOf (.ref t) >>= _) _ _ s
 refine wpAny_bind (tupleItemsOf_ ht ?_)
 refine wpAny_bind (wpAny_typeOf hTs ?_)
 rw[if_pos (by decide)]
 refine wpAny_bind (HT.sliceApplied_gen hs pl pu ?_)
 show wpAny _ _ (if (((HT.sIx items.size 0 lo:Nat):Int) == 0&&(1:Int) == 1&&(HT.sIx items.size items.size hi-HT.sIx items.size 0 lo) == items.size)=true then _ else _) _ _ s
 rw[if_pos (by rw[hw.1,hw.2];simp)]
 refine wpAny_bind ?_
 unfold Builtin.Tuple.tupleIsExact
 refine wpAny_bind (wpAny_typeOf ht.typeIs (wpAny_pure ?_))
 rw[if_pos (by decide)]
 first
  |exact wpAny_bind (wpAny_rule (wpAny_pure ⟨_,rfl,wpAny_pure h⟩))
  |exact wpAny_bind (wpAny_rule (wpAny_bind (wpAny_pure (wpAny_pure ⟨_,rfl,wpAny_pure h⟩))))
theorem Kd:SlR X (λx lo hi H Q=>∃a xs,x=.ref a/\SqT X.K H a xs/\(HT.sIx xs.length 0 lo=0/\HT.sIx xs.length xs.length hi=xs.length)/\Q (.ref a) H):=by
 intro pins s σ H x v vl vu lo hi sl Q I rx hs pl pu h
 obtain⟨a,xs,rfl,hx,hw,q⟩:=h
 cases rx
 obtain⟨its,r,ht,hz⟩:=I.tuple hx
 have hlen:its.toArray.size=xs.length:=by rw[List.size_toArray];exact r.length.symm
 exact⟨"tuple",_,PyProof.Rows.slot_tuple_getitem.lookup,ht.typeIs,vf ht hs pl pu (by rw[hlen];exact hw) ⟨.ref a,H,I,rfl,q⟩⟩
theorem Y1:SlR X (λx lo hi H Q=>∃z,x=.str z/\z.length<=sizeLine/\Q (.str (Txt.slice z lo hi)) H):=by
 intro pins s σ H x v vl vu lo hi sl Q I rx hs pl pu h
 obtain⟨z,rfl,hz,q⟩:=h
 obtain⟨t0,rfl⟩:=rx
 refine⟨"str",_,F.slot_str_getitem.lookup,typeIs_str _ _ _,?_⟩
 obtain⟨o,h1,h2,h3⟩:=hs
 have fin:∀(l u:Option (Int×Tok)),vl=partValue l->vu=partValue u->lo=l.map (·.1)->hi=u.map (·.1)->wpAny (model X.prog X.w) X.A (getItem (.str z t0) (.ref sl)) (EP X pins σ Q) X.xe s:=by
  rintro l u rfl rfl rfl rfl
  exact wpAny_getItem_str_slice (l:=l) (u:=u) (st:=none) ⟨o,h1,h2,h3⟩ rfl (post_val_or_str ⟨Nat.le_trans (Txt.slice_le z _ _) hz,λt' k=>⟨.str _,H,I.tok _,⟨t',rfl⟩,q⟩⟩)
 cases pl with
 |none=>
  cases pu with
  |none=>exact fin none none rfl rfl rfl rfl
  |int j u=>exact fin none (some (j,u)) rfl rfl rfl rfl
 |int i t=>
  cases pu with
  |none=>exact fin (some (i,t)) none rfl rfl rfl rfl
  |int j u=>exact fin (some (i,t)) (some (j,u)) rfl rfl rfl rfl
theorem WI{lo hi:Option Expr}{fo go:Dp}{p2:Pos}(ha:PE X a (rdE D W f))(hl:PO X lo (rdO D W fo))(hu:PO X hi (rdO D W go)):PE X (.Subscript a (.Slice lo hi none p2) pos) (rdE D W (eSl f fo go)):=by
 refine PE.mono (W8 (JV.or (Y2.or (Kd.or Y1))) ha hl hu) ?_
 rintro σ H Q ⟨φ,α,τ,μ,sr,mr,p⟩
 refine⟨φ,α,τ,μ,sr,mr,p.bind.mono λt μ1 α1 H1 st m q v d=>?_⟩
 refine⟨φ,α1,τ,μ1,sr.step st,m,q.bind.mono λl μ2 α2 H2 st2 m2 q2=>?_⟩
 refine⟨φ,α2,τ,μ2,(sr.step st).step st2,m2,q2.bind.mono λu μ3 α3 H3 st3 m3 q3=>?_⟩
 unfold UL at q3
 split at q3
 ·obtain⟨ad,xs,rfl,_,_,r,dl⟩:=(d.step st2).step st3
  refine .inl ⟨ad,xs,rfl,.inl r,λz hz=>?_⟩
  exact q3.fresh m3 (zb hz) ⟨z,_,rfl,zf m3 hz,zh m3 hz,.inl z8,vb (dl.step (Stp.new (zb hz))) _ _⟩
 ·obtain⟨ad,xs,rfl,n1,n2,r,dl⟩:=(d.step st2).step st3
  by_cases hw:HT.sIx xs.length 0 l=0/\HT.sIx xs.length xs.length u=xs.length
  ·refine .inr (.inr (.inl ⟨ad,xs,rfl,.inl r,hw,?_⟩))
   have e:kF xs l u=xs:=by unfold kF;rw[hw.1,hw.2];simp
   have dd:=vb dl l u
   rw[e] at dd
   exact q3.here m3 ⟨ad,xs,rfl,n1,n2,r,dd⟩
  ·refine .inr (.inl ⟨ad,xs,rfl,.inl r,hw,λz hz=>?_⟩)
   exact q3.fresh m3 (zb hz) ⟨z,_,rfl,zf m3 hz,zh m3 hz,.inl z8,vb (dl.step (Stp.new (zb hz))) _ _⟩
 ·obtain⟨hz,q3⟩:=q3.grd
  have d:v=.str _:=d
  subst d
  exact .inr (.inr (.inr ⟨_,rfl,zv hz,q3.here m3 rfl⟩))
 ·obtain⟨ts,hj,q3⟩:=q3.ex1
  obtain⟨ad,hi',rfl⟩:=(d.step st2).step st3
  obtain⟨xs,e2,dl⟩:=m3.ob _ ad _ hi' hj
  refine .inl ⟨ad,xs,rfl,.inl (.inl e2),λz hz=>?_⟩
  exact Post.fresh q3 m3 (zb hz) ⟨z,_,rfl,zf m3 hz,zh m3 hz,.inl z8,vb (dl.step (Stp.new (zb hz))) _ _⟩
 ·exact q3.elim
theorem Zg{g:Fn}{fa:Addr}{fd:FuncData}{ps:List Str}{kk:Nat}{us:List Value}{vs:List V}{ts:List T}{Q:VK}(C:Ck D W Γ X k)(F:FnOk X.prog X.w X.K X.mg X.base (CX1 X.prog X.w) kk fa fd ps (spN D ps.length g))
  (hr:Room kk X.A) (hb:Binds X.K fd ps []) (har:∀ts μ K Z,g ts μ K Z->ts.length=ps.length) (I:Inv X pins σ H s) (r:Vals vs us) (mr:MRel D φ α H μ) (d:DenL D φ α H ts vs) (p:Post D W φ α H σ (RV D φ Q) (g ts μ)) :
  wpAny (model X.prog X.w) X.A (call (.ref fa) us) (EP X pins σ Q) X.xe s:=by
 obtain⟨K,Z,q,hq,hz⟩:=p
 have hl:ts.length=ps.length:=har ts μ K Z q
 have sp:spN D ps.length g vs H Q (λc d H'=>W c d σ H'):=⟨by rw[←d.length];exact hl,φ,α,ts,μ,d,mr,K,Z,q,hq,hz⟩
 have hl2:us.length=ps.length:=by rw[←r.length,←d.length];exact hl
 refine wpAny_call (codeAny_mono (F.run X.A X.stack s H ⟨us,[]⟩ us vs Q (λc d H'=>W c d σ H') hr I.env0 (by simpa using hb s us I.kIn (by simpa using hl2)) r sp) λr s' hq=>?_)
 cases r with
 |error e=>exact C.xe e s' (Z8 (E:=λc d H'=>W c d σ H') I hq λcls d H' w=>w)
 |ok fl=>
  cases fl with
  |ret u=>exact I.after hq
  |next=>exact False.elim hq
  |brk=>exact False.elim hq
  |cont=>exact False.elim hq
theorem K9(C:Ck D W Γ X k){x:Str}{g:Fn}{p0:Pos}(hx:x∈Γ.G)(hg:Γ.gl x=.fn g)(hc:Γ.calm=true)(ha:EsOk X D W es fs):PE X (.Call (.Name x p0) es [] pos) (rdE D W (za g fs)):=by
 have q:=C.glo x hx
 rw[hg] at q
 obtain⟨fa,hm,fd,ps,kk,hk,hb,hkk,Fn,har⟩:=q
 have hr:=(C.rom hc).mono hkk
 have hs:=ha.stars
 have pa:=vL ha
 rintro pins s σ H Q I ⟨φ,α,τ,μ,sr,mr,p⟩
 refine wpAny_Call_Name_kw (qJ I (C.glb x hx) hm ?_ (C.dbG x hx))
 cases es with
 |nil=>
  cases fs with
  |nil=>exact PySem.W.callWith_K0 I.kIn hk (Zg (ts:=[]) C Fn hr hb har I .nil mr rfl p)
  |cons f fs=>exact ha.elim
 |cons e es=>
  simp only[List.all_cons,Bool.and_eq_true] at hs
  refine PySem.W.callWith_K (h₀:=X.base) I.ok.mod.kin hk (thn (z0x pa I sr mr p) ?_) (z6 hs.1) (qM hs.2)
  rintro us s1 ⟨vs,H1,ts,μ1,α1,I1,r1,st1,sr1,mr1,d1,_,p1⟩
  exact⟨I1.kIn,Zg C Fn hr hb har I1 r1 mr1 d1 p1⟩
theorem run_mk{c:Nat}{g:Fn}{C0 fI:Addr}{fd:FuncData}{ps:List Str}{kk:Nat}{us:List Value}{vs:List V}{ts:List T}{Q:VK}(C:Ck D W Γ X k)(ad:D.cad c=some C0)(M:Mk X.K C0 fI)(F:FnOk X.prog X.w X.K X.mg X.base (CX1 X.prog X.w) kk fI fd ps (spN D ps.length g))
  (hr:Room (kk+1) X.A) (hb:Binds X.K fd ps []) (har:∀ts μ K Z,g ts μ K Z->ts.length=ps.length) (I:Inv X pins σ H s) (r:Vals vs us) (mr:MRel D φ α H μ) (d:DenL D φ α H ts vs) (p:Post D W φ α H σ (RV D φ Q) (yc c g ts μ)) :
  wpAny (model X.prog X.w) X.A (call (.ref C0) us) (EP X pins σ Q) X.xe s:=by
 obtain⟨K,Z,⟨hp,hg⟩,hk,hz⟩:=p
 have hl:(T.mut 0::ts).length=ps.length:=har _ _ _ _ hg
 have hq:∀x dx,H x=none->H dx=none->dx≠x->spN D ps.length g (.ref x::(vs++[])) (upd (upd H dx (.own x)) x (.ins C0 dx [])) (λv H2=>v=.non/\Q (.ref x) H2) (λc d H'=>W c d σ H'):=by
  intro x dx hx hdx hne
  have sm:wA H (upd (upd H dx (.own x)) x (.ins C0 dx [])):=λb o e=>by rw[z7 (zA e hx),z7 (zA e hdx)];exact e
  have st0:Stp [] H [x] (upd (upd H dx (.own x)) x (.ins C0 dx [])):=⟨⟨[x],rfl,λb hb'=>by rw[List.mem_singleton.mp hb'];exact hx⟩,λb o _ e=>sm b o e,λb e=>by
   cases q:H b with
   |none=>rfl
   |some o=>rw[sm b o q] at e;cases e⟩
  have nx:x∉φ++α:=λz=>(List.mem_append.mp z).elim (zf mr hx) (zh mr hx)
  have ph:∀b∈φ++α,∃o,H b=some o/\noF o=true:=λb hb'=>(List.mem_append.mp hb').elim (mr.phi b) λz=>by
   obtain⟨i,hi⟩:=List.mem_iff_getElem?.mp z
   have hl':i<μ.length:=by rw[←mr.len];exact (List.getElem?_eq_some_iff.mp hi).1
   exact (mr.ob i b μ[i] hi (by simp[hl'])).some
  refine⟨by simp only[List.length_cons,List.append_nil] at hl ⊢;rw[←d.length];exact hl,φ++α,[x],.mut 0::ts,[.obj c []],⟨.ref x,vs++[],rfl,⟨x,rfl,rfl⟩,by rw[List.append_nil];exact (DenL.hide hp d J4).step st0⟩,⟨rfl,by simp,λb hb'=>by rw[List.mem_singleton.mp hb'];exact nx,λb hb'=>let ⟨o,e,n⟩:=ph b hb';⟨o,sm b o e,n⟩,λi a o e1 e2=>?_⟩,?_⟩
  ·cases i with
   |zero=>simp at e1 e2;subst e1 e2;exact⟨C0,dx,[],ad,z8,rfl⟩
   |succ i=>simp at e1
  have back:∀{α2:List Addr} {H3:Hp},Stp [x] (upd (upd H dx (.own x)) x (.ins C0 dx [])) α2 H3->wA H H3:=λst b o e=>st.keep b o (λz=>by rw[List.mem_singleton.mp z,hx] at e;cases e) (sm b o e)
  refine⟨_,_,hg,?_,?_⟩
  ·rintro t μ2 ⟨rfl,fs,h0,hpf,q⟩ α2 H3 st m v dv
   refine⟨dv,?_⟩
   obtain⟨β,rfl,_⟩:=st.ext
   obtain⟨C1,dx1,gs,ad1,e1,lf⟩:=m.ob 0 x _ rfl h0
   have sm3:=back st
   exact hk _ _ q α H3 (Stp.new sm3) (mr.new sm3) _ ⟨x,C1,dx1,gs,rfl,zf mr hx,zh mr hx,ad1,e1,DenF.hide hpf lf y7⟩
  ·rintro e fs μ2 ⟨hpf,q⟩ α2 H3 C1 d1 st m had xd
   have sm3:=back st
   exact hz _ _ _ q α H3 C1 d1 (Stp.new sm3) (mr.new sm3) had (XDict.hide hpf xd y7)
 have hq1:=hq (s.heap.objs.size+1) s.heap.objs.size (I.hok.fresh (Nat.le_succ _)) (I.hok.fresh (Nat.le_refl _)) (Nat.ne_of_lt (Nat.lt_succ_self _))
 have I2:=Inv.made (C:=C0) I
 have r2:Vals (V.ref (s.heap.objs.size+1)::(vs++[])) (Value.ref (s.heap.objs.size+1)::us):=.cons rfl (by rw[List.append_nil];exact r)
 have hlu:(Value.ref (s.heap.objs.size+1)::us++[]).length=ps.length:=by
  rw[List.append_nil,List.length_cons,←r.length,←d.length]
  exact hl
 refine wpAny_call (Wq (f:=fI) I.kIn M.makes M.init (beq_iff_eq.mp M.fn) (codeAny_mono (F.run _ X.stack _ _ ⟨Value.ref (s.heap.objs.size+1)::us,[]⟩ (Value.ref (s.heap.objs.size+1)::us) _ _ (λc d H'=>W c d σ H') (hr.make C0 us [])
  (I2.env0.make C0 us []) (by simpa using hb _ (Value.ref (s.heap.objs.size+1)::us) I2.kIn hlu) r2 hq1) λr s' hq'=>?_))
 cases r with
 |error e=>exact C.xe e s' (Z8 (E:=λc d H'=>W c d σ H') I2 hq' λcls d H' w=>w)
 |ok fl=>
  cases fl with
  |ret u=>
   obtain⟨v,H',I3,rv,ev,q3⟩:=I2.after hq'
   subst ev
   exact⟨rv,⟨V.ref (s.heap.objs.size+1),H',I3,rfl,q3⟩⟩
  |next=>exact False.elim hq'
  |brk=>exact False.elim hq'
  |cont=>exact False.elim hq'
theorem J8(C:Ck D W Γ X k){x:Str}{c:Nat}{g:Fn}{p0:Pos}(hx:x∈Γ.G)(hg:Γ.gl x=.mk c true g)(hc:Γ.calm=true)(ha:EsOk X D W es fs):PE X (.Call (.Name x p0) es [] pos) (rdE D W (eMk c g fs)):=by
 have q:=C.glo x hx
 rw[hg] at q
 obtain⟨C0,fI,fd,ps,kk,ad,hm,M,hb,hkk,Fn,har⟩:=q
 have hr:=(C.rom hc).mono hkk
 have hs:=ha.stars
 have pa:=vL ha
 rintro pins s σ H Q I ⟨φ,α,τ,μ,sr,mr,p⟩
 refine wpAny_Call_Name_kw (qJ I (C.glb x hx) hm ?_ (C.dbG x hx))
 cases es with
 |nil=>
  cases fs with
  |nil=>exact PySem.W.callWith_K0 I.kIn M.kp (run_mk (ts:=[]) C ad M Fn hr hb har I .nil mr rfl p)
  |cons f fs=>exact ha.elim
 |cons e es=>
  simp only[List.all_cons,Bool.and_eq_true] at hs
  refine PySem.W.callWith_K (h₀:=X.base) I.ok.mod.kin M.kp (thn (z0x pa I sr mr p) ?_) (z6 hs.1) (qM hs.2)
  rintro us s1 ⟨vs,H1,ts,μ1,α1,I1,r1,st1,sr1,mr1,d1,_,p1⟩
  exact⟨I1.kIn,run_mk C ad M Fn hr hb har I1 r1 mr1 d1 p1⟩
end
section
variable {X:Cx}{D:DP}{W:XW}{Γ:Cn}{k:Nat}{pins:List (Addr×Obj)}{s:Shared}{σ:St}{H:Hp}{φ α:List Addr}{τ:Sl}{μ:Mem}{f g h:De}{a b c:Expr}{pos:Pos}{es:List Expr}
theorem ZH{B:Prop}(C:Ck D W Γ X k){c:Nat}{C0 dx ad:Addr}{gs:List (Str×V)}(I:Inv X pins σ H s)(e1:D.cad c=some C0)(ea:H ad=some (.ins C0 dx gs))
  (hh:∀tv P,yo D c tv->PySem.W.KitX X.K (.ref ad) tv P->P s.heap->(Value.ref ad)≠.builtin "__main__.__loader__#opaque"->B):B:=by
 have o:=C.ocx c C0 e1
 obtain⟨mA,O,_⟩:=Zc I.hok ea
 obtain⟨od,J,_⟩:=O.look
 exact hh _ _ (.inr (.inr (.inr (.inr (.inr (.inr (.inr (.inr ⟨C0,e1,rfl⟩)))))))) (PySem.W.kitx_own (o.cl.get _) o.cl.hd o.fi o.sp o.tk o.ob) J (λz=>nomatch z)
theorem YN{B:Prop}(C:Ck D W Γ X k){t:T}{v:V}{u:Value}{n:Nat}(I:Inv X pins σ H s)(d:Den D φ α H t v)(r:RelV v u)(ht:tyN t μ=some n)
  (hh:∀tv P,yo D n tv->PySem.W.KitX X.K u tv P->P s.heap->u≠.builtin "__main__.__loader__#opaque"->B):B:=by
 cases t with
 |non=>cases d;cases r;cases ht;exact hh _ _ (.inl ⟨rfl,rfl⟩) PySem.W.kitx_none True.intro (λz=>nomatch z)
 |bl b=>cases d;cases r;cases ht;exact hh _ _ (.inr (.inl ⟨rfl,rfl⟩)) PySem.W.kitx_bool True.intro (λz=>nomatch z)
 |int i=>cases d;obtain⟨t,rfl⟩:=r;cases ht;exact hh _ _ (.inr (.inr (.inl ⟨rfl,rfl⟩))) PySem.W.kitx_int True.intro (λz=>nomatch z)
 |str i=>cases d;obtain⟨t,rfl⟩:=r;cases ht;exact hh _ _ (.inr (.inr (.inr (.inl ⟨rfl,rfl⟩)))) PySem.W.kitx_str True.intro (λz=>nomatch z)
 |tup ts=>
  obtain⟨ad,xs,rfl,_,_,q,_⟩:=d;cases r;cases ht
  obtain⟨its,_,⟨o,h1,h2,_⟩,_⟩:=I.tuple (.inl q)
  exact hh _ _ (.inr (.inr (.inr (.inr (.inl ⟨rfl,rfl⟩))))) PySem.W.kitx_tuple ⟨o,h1,h2⟩ (λz=>nomatch z)
 |lst ts=>
  obtain⟨ad,xs,rfl,_,_,q,_⟩:=d;cases r;cases ht
  obtain⟨its,_,p,_⟩:=I.list (.inl q)
  obtain⟨o,h1,h2,_⟩:=p.isList
  exact hh _ _ (.inr (.inr (.inr (.inr (.inr (.inl ⟨rfl,rfl⟩)))))) PySem.W.kitx_list ⟨o,h1,h2⟩ (λz=>nomatch z)
 |exc c fs=>
  obtain⟨ad,C0,dd,rfl,_,_,e1,e2,xd⟩:=d;cases r;cases ht
  have hx:=C.xcx n C0 e1
  obtain⟨p,_⟩:=(show ObjOk X.prog X.w H s.heap ad (.ext (XcAt ad C0 dd)) from I.hok ad _ e2)
  have xd:XDict D φ α H fs dd:=by cases dd<;>exact xd
  exact hh _ _ (.inr (.inr (.inr (.inr (.inr (.inr (.inl ⟨C0,e1,rfl⟩))))))) (VI hx) ⟨p,xd.ext I⟩ (λz=>nomatch z)
 |dic kvs=>
  obtain⟨ad,gs,rfl,_,_,e,_⟩:=d;cases r;cases ht
  obtain⟨_,_,vs,_,dd⟩:=(show ObjOk X.prog X.w H s.heap ad (.dK gs) from I.hok ad _ e)
  exact hh _ _ (.inr (.inr (.inr (.inr (.inr (.inr (.inr (.inl ⟨rfl,rfl⟩)))))))) PySem.W.kitx_dict dd.typeIs (λz=>nomatch z)
 |obj c fs=>
  obtain⟨ad,C0,dx,gs,rfl,_,_,e1,e2,l⟩:=d;cases r;cases ht
  exact ZH C I e1 e2 hh
 | «mut» i=>cases ht
 |clo j cs=>cases ht
theorem K3{B:Prop}(C:Ck D W Γ X k){i:Nat}{v:V}{u:Value}{o:MO}(I:Inv X pins σ H s)(mr:MRel D φ α H μ)(d:Den D φ α H (.mut i) v)(r:RelV v u)(ht:μ[i]?=some o)(hnt:Kz o=false)
  (hh:∀tv P,yo D (tyO o) tv->PySem.W.KitX X.K u tv P->P s.heap->u≠.builtin "__main__.__loader__#opaque"->B):B:=by
 obtain⟨ad,hi,rfl⟩:=d
 cases r
 have dd:=mr.ob i ad o hi ht
 cases o with
 |lst ts=>
  obtain⟨xs,q,_⟩:=dd
  obtain⟨its,_,p,_⟩:=I.list (.inl (.inl q))
  obtain⟨o,h1,h2,_⟩:=p.isList
  exact hh _ _ (.inr (.inr (.inr (.inr (.inr (.inl ⟨rfl,rfl⟩)))))) PySem.W.kitx_list ⟨o,h1,h2⟩ (λz=>nomatch z)
 |obj c fs=>
  obtain⟨C0,dx,gs,e1,e2,l⟩:=dd
  exact ZH C I e1 e2 hh
 |dic kvs=>
  obtain⟨gs,e,_⟩:=dd
  obtain⟨_,_,vs,_,dd⟩:=(show ObjOk X.prog X.w H s.heap ad (.dK gs) from I.hok ad _ e)
  exact hh _ _ (.inr (.inr (.inr (.inr (.inr (.inr (.inr (.inl ⟨rfl,rfl⟩)))))))) PySem.W.kitx_dict dd.typeIs (λz=>nomatch z)
 |tab j=>cases hnt
 |dct ks=>
  obtain⟨xs,_,_,_,_,q,_⟩:=dd
  obtain⟨⟨o,es,ep,h1,h2,_⟩,_⟩:=(show ObjOk X.prog X.w H s.heap ad (.ext (Ku ad xs)) from I.hok ad _ q)
  exact hh _ _ (.inr (.inr (.inr (.inr (.inr (.inr (.inr (.inl ⟨rfl,rfl⟩)))))))) PySem.W.kitx_dict ⟨o,h1,h2.1⟩ (λz=>nomatch z)
theorem Zs{B:Prop}(C:Ck D W Γ X k){t:T}{v:V}{u:Value}{cs:List Nat}{Q:VK}(I:Inv X pins σ H s)(mr:MRel D φ α H μ)(d:Den D φ α H t v)(r:RelV v u)(q:Post D W φ α H σ (RV D φ Q) (QB cs t μ))
  (hh:∀n tv P,Post D W φ α H σ (RV D φ Q) (.ok (.bl (isAny n cs)) μ)->yo D n tv->PySem.W.KitX X.K u tv P->P s.heap->u≠.builtin "__main__.__loader__#opaque"->B):B:=by
 unfold QB at q
 split at q
 ·obtain⟨o,ho,q⟩:=q.som
  rcases q.br with⟨_,q⟩|⟨hb,q⟩
  ·exact q.elim
  ·exact K3 C I mr d r ho hb λtv P=>hh _ tv P q
 ·split at q
  ·rename_i tn htn
   exact YN C I d r htn λtv P=>hh _ tv P q
  ·exact q.elim
noncomputable def qU(Γ:Cn):List Expr->Option (List Nat)
 |[]=>some []
 |e::r=>match e with
  |.Name x _=>if (idx Γ.N x).isNone&&Γ.G.contains x then (match Γ.cls.lookup x with
   |some c=>(qU Γ r).map (c::·)
   |none=>none) else none
  |_=>none
noncomputable def jU(Γ:Cn)(e:Expr):Option (List Nat):=match e with
 |.Name _ _=>qU Γ [e]
 |.Tuple es _ _=>if decide (es.length<=room) then qU Γ es else none
 |_=>none
theorem lookup_mem{β:Type}{x:Str}{v:β}:∀{l:List (Str×β)},l.lookup x=some v->(x,v)∈l
 |[],h=>by cases h
 |(y,w)::r,h=>by
  rw[List.lookup_cons] at h
  cases q:x == y with
  |true=>rw[q] at h;cases h;rw[beq_iff_eq.mp q];exact List.mem_cons_self
  |false=>rw[q] at h;exact List.mem_cons_of_mem _ (lookup_mem h)
theorem Uj(C:Ck D W Γ X k){x:Str}{c:Nat}(hc:x∈Γ.G)(hl:(x,c)∈Γ.cls):∃u v,QS X x u/\ClsV v u/\∀p0,PE X (.Name x p0) (tC v):=by
 obtain⟨u,v,cv,r⟩:=C.clv x c hl
 refine⟨u,v,cv,r,λp0=>?_⟩
 rcases cv with h|⟨h,hb,hn⟩
 ·exact Z6 (C.glb x hc) h r.rel (C.dbG x hc)
 ·exact Ji (C.glb x hc) h hb r.rel hn (C.dbG x hc)
theorem xJ(C:Ck D W Γ X k):∀{es:List Expr} {cs:List Nat},qU Γ es=some cs->∃us vs,(∀us',Vals vs us'->us'=us)/\vs.length=es.length/\es.all noStar=true/\PA X es (λ_ H Q=>Q vs H)/\∀t tv,yo D t tv->PySem.W.kitAny X.K tv us=some (isAny t cs)
 |[],cs,h=>by
  simp[qU] at h;subst h
  exact⟨[],[],λus' r=>by cases r;rfl,rfl,rfl,λpos pins s σ H Q I q=>qe pos pins s σ H Q I q,λt tv _=>rfl⟩
 |e::es,cs,h=>by
  unfold qU at h
  split at h
  ·rename_i x p0
   split at h
   ·rename_i hc
    simp only[Bool.and_eq_true,List.contains_iff_mem] at hc
    split at h
    ·rename_i c hl
     cases hr:qU Γ es with
     |none=>rw[hr] at h;cases h
     |some cs'=>
      rw[hr] at h
      cases h
      have hm:=lookup_mem hl
      obtain⟨us,vs,rv,hl,hs,hp,hk⟩:=xJ C hr
      obtain⟨u,v,cv,r,pe⟩:=Uj C hc.2 hm
      refine⟨u::us,v::vs,λus' q=>by cases q with|cons q1 q2=>rw[r.only q1,rv _ q2],by simp[hl],by simp[noStar,hs],λpos pins s σ H Q I q=>zt (pe p0) hp (z6 rfl) pos pins s σ H Q I q,λt tv ht=>?_⟩
      have k1:=C.isi t x c hm tv u ht cv
      have k2:=hk t tv ht
      unfold PySem.W.kitAny
      rw[k1]
      rw[ke]
      cases hb:qX t c with
      |true=>rfl
      |false=>exact k2
    ·cases h
   ·cases h
  ·cases h
theorem X9 (C:Ck D W Γ X k) {cs:List Nat} {p0:Pos} (hx:("isinstance":Str)∈Γ.G) (hg:Γ.gl "isinstance"=.none) (hs:noStar a=true) (hcs:jU Γ c=some cs) (ha:PE X a (rdE D W f)):PE X (.Call (.Name "isinstance" p0) [a,c] [] pos) (rdE D W (x_ cs f)):=by
 have hm:=C.glo _ hx
 rw[hg] at hm
 rintro pins s σ H Q I ⟨φ,α,τ,μ,sr,mr,p⟩
 refine wpAny_Call_Name_kw (wK I (C.glb _ hx) hm boot_isinstance ?_ (by decide) (C.dbG _ hx))
 unfold jU at hcs
 split at hcs
 ·rename_i cn pc
  obtain⟨us0,vs0,hu,hl,hst,hp,hk⟩:=xJ C hcs
  refine PyProof.Rows.callWith_builtin1 (thn (zt ha hp (z6 hs) pos pins s σ H (λvs H1=>∃v t μ1 α1,vs=v::vs0/\Stp α H α1 H1/\MRel D φ α1 H1 μ1/\Den D φ α1 H1 t v/\Post D W φ α1 H1 σ (RV D φ Q) (QB cs t μ1)) I ⟨φ,α,τ,μ,sr,mr,p.bind.mono λt μ' α' H' st m q v d=>⟨v,t,μ',α',rfl,st,m,d,q⟩⟩) ?_) (z6 hs) (qM (by rfl))
  rintro us s1 ⟨vs,H1,I1,rv,v,t,μ1,α1,rfl,st,m,d,q⟩
  cases rv with
  | @cons _ u _ us' r1 r2=>
  obtain rfl:=hu us' r2
  have hlu:us'.length=1:=by rw[←r2.length];exact hl
  match us',hlu with
  |[uc],_=>
  refine Zs C I1 m d r1 q λtn tv P q ht kx hP hne=>?_
  have kk:=hk tn tv ht
  have k1:PySem.W.kitOne X.K tv uc=some (isAny tn cs):=by
   unfold PySem.W.kitAny at kk
   split at kk
   ·rename_i hb;rw[hb];exact kk
   ·rename_i hb;rw[hb];exact kk
   ·cases kk
  exact PySem.W.kia_one kx I1.kIn hP k1 hne λtk=>⟨.bl _,H1,I1.tok tk,rfl,q.here m rfl⟩
 ·rename_i ees kk pc
  split at hcs
  case isFalse=>cases hcs
  rename_i hlen
  obtain⟨us0,vs0,hu,hl,hst,hp,hk⟩:=xJ C hcs
  refine PyProof.Rows.callWith_builtin1 (thn (zt ha (zt (VD hp) qe (z6 rfl)) (z6 hs) pos pins s σ H (λvs H2=>∃v tp H1 t μ1 α1,vs=[v,.ref tp]/\H1 tp=none/\H2=upd H1 tp (.tup vs0)/\Stp α H α1 H1/\MRel D φ α1 H1 μ1/\Den D φ α1 H1 t v/\Post D W φ α1 H1 σ (RV D φ Q) (QB cs t μ1)) I ⟨φ,α,τ,μ,sr,mr,p.bind.mono λt μ' α' H' st m q v d=>⟨by rw[hl];exact zv (by simpa using hlen),λtp htp=>⟨v,tp,H',t,μ',α',rfl,htp,rfl,st,m,d,q⟩⟩⟩) ?_) (z6 hs) (qM (by rfl))
  rintro us s1 ⟨vs,H2,I1,rv,v,tp,H1,t,μ1,α1,rfl,htp,rfl,st,m,d,q⟩
  obtain⟨u,ut,rfl,r1,r2⟩:=vals2 rv
  have r2:ut=Value.ref tp:=r2
  subst r2
  have sm:wA H1 (upd H1 tp (.tup vs0)):=zb htp
  refine Zs C I1 (m.new sm) (d.step (Stp.new sm)) r1 (q.step (Stp.new sm)) λtn tv P q ht kx hP hne=>?_
  obtain⟨_,its,rvs,⟨o,ho,hcl,n,hd⟩⟩:=(show ObjOk X.prog X.w _ s1.heap tp (.tup vs0) from I1.hok tp _ z8)
  obtain rfl:=hu its rvs
  obtain⟨oc,odd,odt,osl⟩:=o
  simp only at hcl hd
  subst hcl hd
  exact PySem.W.kia_tup kx I1.kIn hP ho (hk tn tv ht) hne λtk=>⟨.bl _,_,I1.tok tk,rfl,q.here (m.new sm) rfl⟩
 ·cases hcs
end
section
variable {X:Cx}{D:DP}{W:XW}{Γ:Cn}{k:Nat}{pins:List (Addr×Obj)}{s:Shared}{σ:St}{H:Hp}{φ α:List Addr}{τ:Sl}{μ:Mem}{f g h:De}{a b c:Expr}{pos:Pos}{es:List Expr}
noncomputable def B1 (X:Cx)(D:DP)(W:XW)(fv:Value)(op:T->Mem->RE T):Prop:=
 ∀(pins:List (Addr×Obj)) (s:Shared) (σ:St) (H:Hp) (φ α:List Addr) (μ:Mem) (t:T) (v:V) (u:Value) (Q:VK),Inv X pins σ H s->MRel D φ α H μ->Den D φ α H t v->RelV v u->Post D W φ α H σ (RV D φ Q) (op t μ)->
  wpAny (model X.prog X.w) X.A (call fv [u]) (EP X pins σ Q) X.xe s
theorem KZ (C:Ck D W Γ X k) {x:Str} {id:String} {op:T->Mem->RE T} {p0:Pos} (hx:x∈Γ.G) (hg:Γ.gl x=.none) (hv:bootBuiltins x=some (.builtin id)) (hn:x≠"__name__") (hs:noStar a=true) (hb:B1 X D W (.builtin id) op) (ha:PE X a (rdE D W f)) :
  PE X (.Call (.Name x p0) [a] [] pos) (rdE D W (eB1 op f)):=by
 have hm:=C.glo _ hx
 rw[hg] at hm
 rintro pins s σ H Q I ⟨φ,α,τ,μ,sr,mr,p⟩
 refine wpAny_Call_Name_kw (wK I (C.glb _ hx) hm hv ?_ hn (C.dbG _ hx))
 refine PyProof.Rows.callWith_builtin1 (thn (zt ha qe (z6 hs) pos pins s σ H (λvs H1=>∃v t μ1 α1,vs=[v]/\Stp α H α1 H1/\MRel D φ α1 H1 μ1/\Den D φ α1 H1 t v/\Post D W φ α1 H1 σ (RV D φ Q) (op t μ1)) I ⟨φ,α,τ,μ,sr,mr,p.bind.mono λt μ' α' H' st m q v d=>⟨v,t,μ',α',rfl,st,m,d,q⟩⟩) ?_) (z6 hs) (qM (by rfl))
 rintro us s1 ⟨vs,H1,I1,rv,v,t,μ1,α1,rfl,st,m,d,q⟩
 obtain⟨u,rfl,r1⟩:=vals1 rv
 exact hb pins s1 σ H1 φ α1 μ1 t v u Q I1 m d r1 q
theorem Vq (C:Ck D W Γ X k) {x:Str} {id:String} {op:T->Mem->RE T} {p0:Pos} (hx:x∈Γ.G) (hg:Γ.gl x=.none) (hv:bootBuiltins x=some (.type id)) (hn:x≠"__name__") (hs:noStar a=true) (hb:B1 X D W (.type id) op) (ha:PE X a (rdE D W f)) :
  PE X (.Call (.Name x p0) [a] [] pos) (rdE D W (eB1 op f)):=by
 have hm:=C.glo _ hx
 rw[hg] at hm
 rintro pins s σ H Q I ⟨φ,α,τ,μ,sr,mr,p⟩
 refine wpAny_Call_Name_kw (wK I (C.glb _ hx) hm hv ?_ hn (C.dbG _ hx))
 refine PyProof.Rows.callWith_type1 (thn (zt ha qe (z6 hs) pos pins s σ H (λvs H1=>∃v t μ1 α1,vs=[v]/\Stp α H α1 H1/\MRel D φ α1 H1 μ1/\Den D φ α1 H1 t v/\Post D W φ α1 H1 σ (RV D φ Q) (op t μ1)) I ⟨φ,α,τ,μ,sr,mr,p.bind.mono λt μ' α' H' st m q v d=>⟨v,t,μ',α',rfl,st,m,d,q⟩⟩) ?_) (z6 hs) (qM (by rfl))
 rintro us s1 ⟨vs,H1,I1,rv,v,t,μ1,α1,rfl,st,m,d,q⟩
 obtain⟨u,rfl,r1⟩:=vals1 rv
 exact hb pins s1 σ H1 φ α1 μ1 t v u Q I1 m d r1 q
theorem z0q:B1 X D W (.builtin "len") j3:=by
 intro pins s σ H φ α μ t v u Q I mr d r p
 unfold j3 at p
 split at p
 ·obtain⟨ad,xs,rfl,_,_,q,l⟩:=d
  exact qQ pins s σ H _ _ Q I (.cons r .nil) ⟨ad,xs,rfl,.inl (.inl q),by rw[←l.length];exact p.here mr rfl⟩
 ·obtain⟨ad,xs,rfl,_,_,q,l⟩:=d
  exact qQ pins s σ H _ _ Q I (.cons r .nil) ⟨ad,xs,rfl,.inr (.inl q),by rw[←l.length];exact p.here mr rfl⟩
 ·cases d
  obtain⟨hl,p⟩:=p.grd
  exact xK pins s σ H _ _ Q I (.cons r .nil) ⟨_,rfl,zv hl,p.here mr rfl⟩
 ·obtain⟨ts,hj,p⟩:=p.ex1
  obtain⟨ad,hi,rfl⟩:=d
  obtain⟨xs,q,l⟩:=mr.ob _ ad _ hi hj
  exact qQ pins s σ H _ _ Q I (.cons r .nil) ⟨ad,xs,rfl,.inl (.inl (.inl q)),by rw[←l.length];exact Post.here p mr rfl⟩
 ·exact p.elim
theorem Jo:B1 X D W (.type "tuple") jr:=by
 intro pins s σ H φ α μ t v u Q I mr d r p
 unfold jr at p
 split at p
 ·obtain⟨ad,xs,rfl,_,_,q,l⟩:=d
  exact wC pins s σ H _ _ Q I (.cons r .nil) ⟨ad,xs,rfl,.inl ⟨.inl q,λz hz=>p.fresh mr (zb hz) ⟨z,xs,rfl,zf mr hz,zh mr hz,.inl z8,l.step (Stp.new (zb hz))⟩⟩⟩
 ·obtain⟨ts,hj,p⟩:=p.ex1
  obtain⟨ad,hi,rfl⟩:=d
  obtain⟨xs,q,l⟩:=mr.ob _ ad _ hi hj
  exact wC pins s σ H _ _ Q I (.cons r .nil) ⟨ad,xs,rfl,.inl ⟨.inl (.inl q),λz hz=>Post.fresh p mr (zb hz) ⟨z,xs,rfl,zf mr hz,zh mr hz,.inl z8,l.step (Stp.new (zb hz))⟩⟩⟩
 ·exact p.elim
theorem Zw{p:Addr}{o:HO}(hp:H p=none):Stp α H (α++[p]) (upd H p o):=⟨⟨[p],rfl,by simpa using hp⟩,λb u _ e=>zb hp b u e,λb e=>by
 by_cases z:b=p
 ·rw[z,z8] at e;cases e
 ·rw[z7 z] at e;exact e⟩
theorem MRel.lay{p:Addr}{ts:List T}{vs:List V}(m:MRel D φ α H μ)(hp:H p=none)(l:DenL D φ α H ts vs):MRel D φ (α++[p]) (upd H p (.lst vs)) (μ++[.lst ts]):=by
 have st:Stp α H (α++[p]) (upd H p (.lst vs)):=Zw hp
 have hl:=m.len
 refine⟨by simp[hl],?_,λb hb=>?_,λb hb=>?_,λi a o e1 e2=>?_⟩
 ·rw[List.nodup_append]
  refine⟨m.nd,by simp,λa ha b hb=>?_⟩
  rw[List.mem_singleton.mp hb]
  intro z
  exact zh m hp (z▸ha)
 ·rcases List.mem_append.mp hb with h|h
  ·exact m.dis b h
  ·rw[List.mem_singleton.mp h];exact zf m hp
 ·obtain⟨u,e,n⟩:=m.phi b hb
  exact⟨u,zb hp b u e,n⟩
 ·by_cases hi:i<α.length
  ·rw[List.getElem?_append_left hi] at e1
   rw[List.getElem?_append_left (by omega)] at e2
   have d:=m.ob i a o e1 e2
   obtain⟨u,q,_⟩:=d.some
   exact d.step st ((zb hp _ _ q).trans q.symm)
  ·rw[List.getElem?_append_right (by omega)] at e1 e2
   have hi':i-α.length=0:=by
    by_cases z:i-α.length=0
    ·exact z
    ·rw[List.getElem?_eq_none (by simp;omega)] at e1;cases e1
   have hi2:i-μ.length=0:=by omega
   rw[hi'] at e1
   rw[hi2] at e2
   have e1:some p=some a:=e1
   have e2:some (MO.lst ts)=some o:=e2
   cases e1;cases e2
   exact⟨vs,z8,l.step st⟩
theorem Post.lay{Q:VK}{p:Addr}{ts:List T}{vs:List V}(q:Post D W φ α H σ (RV D φ Q) (.ok (.mut μ.length) (μ++[.lst ts])))(m:MRel D φ α H μ)(hp:H p=none)(l:DenL D φ α H ts vs):Q (.ref p) (upd H p (.lst vs)):=
 q.ok (Zw hp) (m.lay hp l) _ ⟨p,by rw[←m.len,List.getElem?_append_right (Nat.le_refl _)];simp,rfl⟩
theorem U8{fs:List De}(hl:es.length<=room)(ha:EsOk X D W es fs):PE X (.List es pos) (rdE D W (Xj fs)):=by
 refine PE.mono (W9 (vL ha)) ?_
 rintro σ H Q ⟨φ,α,τ,μ,sr,mr,p⟩
 refine⟨φ,α,τ,μ,sr,mr,p.bind.mono λts μ1 α1 H1 st m q vs dl hn=>⟨by rw[hn];exact zv hl,λz hz=>q.lay m hz dl⟩⟩
theorem yv:∀{ts:List T} {bs:List Bool} {vs:List V} {us:List Value},bools ts=some bs->DenL D φ α H ts vs->Vals vs us->us=bs.map Value.bool
 |[],bs,vs,us,h,l,r=>by
  simp[bools] at h;subst h
  have l:vs=[]:=l
  subst l;cases r;rfl
 |t::ts,bs,vs,us,h,l,r=>by
  obtain⟨v,w,rfl,d,l⟩:=l
  cases t with
  |bl b=>
   simp only[bools] at h
   cases q:bools ts with
   |none=>rw[q] at h;cases h
   |some cs=>
    rw[q] at h;cases h
    cases r with
    |cons r1 r2=>
     cases d;cases r1
     rw[yv q l r2];rfl
  |_=>simp[bools] at h
theorem z0w(hh:X.calm=true):B1 X D W (.builtin "all") VF:=by
 intro pins s σ H φ α μ t v u Q I mr d r p
 unfold VF at p
 split at p
 case h_2=>exact p.elim
 rename_i xs
 obtain⟨bs,hb,p⟩:=p.som
 obtain⟨ad,vs,rfl,_,_,q,l⟩:=d
 cases r
 obtain⟨its,rv,pl,hz⟩:=I.list (.inl q)
 have eb:=yv hb l rv
 have hl:=pl.isList
 have hlt:ad<s.heap.objs.size:=by obtain⟨_,e,_⟩:=hl;exact Heap.lt_size e
 refine call_all_walk (wpAny_pyIter_list hl ?_)
 refine⟨s.heap.objs.size,[s.heap.objs.size,ad],[s.heap.objs.size],its.toArray.size,_,_,λi=>(bs[i]?).getD true,rfl,Walks.list (A:=X.A.in1) (I.ok.hd hh) _ ad (Nat.ne_of_lt hlt) its.toArray,
  ⟨⟨_,Heap.get?_push_size _ rfl,rfl,rfl⟩,hl.push _⟩,λi v s' Q' E' hP hQ=>?_,λh' tk hk=>?_⟩
 ·have hP':its[i]?=some v:=by simpa using hP
  rw[eb,List.getElem?_map] at hP'
  cases e:bs[i]? with
  |none=>rw[e] at hP';cases hP'
  |some b=>
   rw[e] at hP'
   simp at hP'
   subst hP'
   simp only[e,Option.getD_some] at hQ
   exact wpAny_truthy_bool hQ
 ·have e:((List.range its.toArray.size).all λi=>(bs[i]?).getD true)=bs.all id:=by
   have hn:its.toArray.size=bs.length:=by simp[eb]
   rw[hn]
   rw[Bool.eq_iff_iff]
   simp only[List.all_eq_true,List.mem_range,id_eq]
   constructor
   ·intro h b hb'
    obtain⟨i,hi,rfl⟩:=List.mem_iff_getElem.mp hb'
    have:=h i hi
    simpa[hi] using this
   ·intro h i hi
    have:=h bs[i] (List.getElem_mem hi)
    simpa[hi] using this
  rw[e]
  have kp:∀b x,s.heap.get? b=some x->h'.get? b=some x:=λb x e=>hk b x (λhm=>by rw[List.mem_singleton.mp hm] at e;exact Nat.lt_irrefl _ (Heap.lt_size e)) (Heap.get?_push_of_some _ e)
  exact⟨.bl (bs.all id),H,I.kept (t':=tk) kp,rfl,p.here mr rfl⟩
theorem Stp.turn{x:Addr}{o:HO}(hx:x∈α)(hh:∃o',H x=some o'):Stp α H α (upd H x o):=by
 refine⟨⟨[],by simp,by simp⟩,λb u n e=>?_,λb e=>?_⟩
 ·rw[z7 (λ(z:b=x)=>n (by rw[z];exact hx))];exact e
 ·by_cases z:b=x
  ·rw[z,z8] at e;cases e
  ·rw[z7 z] at e;exact e
theorem MRel.turn{i:Nat}{x:Addr}{o:HO}{mo:MO}(m:MRel D φ α H μ)(hx:α[i]?=some x)(hi:i<μ.length)(st:Stp α H α (upd H x o))(d:DenO D φ α (upd H x o) mo x):MRel D φ α (upd H x o) (μ.set i mo):=by
 refine⟨by simp[m.len],m.nd,m.dis,λb hb=>?_,λj y o' e1 e2=>?_⟩
 ·obtain⟨u,hu,n⟩:=m.phi b hb
  exact⟨u,st.keep b u (λz=>m.dis b z hb) hu,n⟩
 ·by_cases q:i=j
  ·subst q
   rw[hx] at e1;cases e1
   rw[List.getElem?_set_self hi] at e2;cases e2
   exact d
  ·rw[List.getElem?_set_ne q] at e2
   have ne:y≠x:=λz=>by
    subst z
    obtain⟨h1,e1'⟩:=List.getElem?_eq_some_iff.mp e1
    obtain⟨h2,e2'⟩:=List.getElem?_eq_some_iff.mp hx
    exact q ((List.getElem_inj m.nd).mp (e2'.trans e1'.symm))
   exact DenO.step st (z7 ne) (m.ob j y o' e1 e2)
end
structure ItV(D:DP)(J:It)(Ok:List Addr->List Addr->Hp->Prop)(xs:List T):Prop where
 go:∀(i:Nat) φ α H,Ok φ α H->i<xs.length->J.go i H
 yld:∀(i:Nat) φ α H v H' t,Ok φ α H->xs[i]?=some t->J.yld i H v H'->wA H H'/\Den D φ α H' t v
 stop:∀φ α H,Ok φ α H->J.stop xs.length H
noncomputable def OkI (D:DP)(φ α:List Addr)(H:Hp)(xs:List T)(lv:Mem->Prop)(Ok:List Addr->List Addr->Hp->Prop):Prop:=∀φ' α' H' μ',Lk φ α H φ' α' H'->MRel D φ' α' H' μ'->lv μ'->Ok φ' α' H'
noncomputable def rdI (D:DP)(W:XW)(f:Di):TI:=λσ H R=>RdP D H σ λφ α τ μ=>
 Post D W φ α H σ (λp μ' α' H'=>∀J Ok,ItV D J Ok p.1->OkI D φ α' H' p.1 p.2 Ok->p.2 μ'->R J H') (f τ μ).re
theorem Lk.trans{φ φ1 φ2 α α1 α2:List Addr}{H H1 H2:Hp}(a:Lk φ α H φ1 α1 H1)(b:Lk φ1 α1 H1 φ2 α2 H2):Lk φ α H φ2 α2 H2:=
 ⟨λx o n1 n2 e=>let ⟨m1,m2,e1⟩:=a.ob x o n1 n2 e;b.ob x o m1 m2 e1,λi x e=>b.st i x (a.st i x e)⟩
theorem Ze{D:DP}{φ α:List Addr}{H:Hp}{γ:Type}{f:γ->T}{xs:List γ}{i:Nat}{t:T}(h:(xs.map f)[i]?=some t):∃a,xs[i]?=some a/\t=f a:=by
 rw[List.getElem?_map] at h
 cases q:xs[i]? with
 |none=>rw[q] at h;cases h
 |some a=>rw[q] at h;cases h;exact⟨a,rfl,rfl⟩
section
variable {X:Cx}{D:DP}{W:XW}{Γ:Cn}{k:Nat}{pins:List (Addr×Obj)}{s:Shared}{σ:St}{H:Hp}{φ α:List Addr}{τ:Sl}{μ:Mem}{f g h:De}{a b c tg:Expr}{pos:Pos}{es:List Expr}
theorem yd{K:PySem.W.Frag}{ad:Addr}{xs:List T}:ItV D (Itl K ad) (λφ α H=>∃vs,Rd H ad (.lst vs)/\DenL D φ α H xs vs) xs:=
 ⟨λi φ α H ⟨vs,ok,l⟩ hi=>⟨vs,vs[i]'(by rw[←l.length];exact hi),.inl ok,by simp⟩,λi φ α H v H' t ⟨vs,ok,l⟩ hi y=>by
  obtain⟨rfl,y⟩:=y
  obtain⟨x,hx,d⟩:=l.get hi
  have e:=y vs (.inl ok)
  rw[e] at hx;cases hx;exact⟨λ_ _ z=>z,d⟩,λφ α H ⟨vs,ok,l⟩=>⟨vs,.inl ok,by rw[l.length];exact Nat.le_refl _⟩⟩
theorem Jb{K:PySem.W.Frag}{ad:Addr}{xs:List T}:ItV D (Itt K ad) (λφ α H=>∃vs,Rd H ad (.tup vs)/\DenL D φ α H xs vs) xs:=
 ⟨λi φ α H ⟨vs,ok,l⟩ hi=>⟨vs,vs[i]'(by rw[←l.length];exact hi),.inl ok,by simp⟩,λi φ α H v H' t ⟨vs,ok,l⟩ hi y=>by
  obtain⟨rfl,y⟩:=y
  obtain⟨x,hx,d⟩:=l.get hi
  have e:=y vs (.inl ok)
  rw[e] at hx;cases hx;exact⟨λ_ _ z=>z,d⟩,λφ α H ⟨vs,ok,l⟩=>⟨vs,.inl ok,by rw[l.length];exact Nat.le_refl _⟩⟩
theorem Qi{n i j:Nat}(h:(List.range n)[i]?=some j):j=i:=by
 have:=(List.getElem?_eq_some_iff.mp h).2
 simpa using this.symm
noncomputable def ItC(z:Str):It:=⟨λi _=>i<z.cps.toList.length,λi H x H'=>H'=H/\∃c,z.cps.toList[i]?=some c/\x=.str ⟨#[c]⟩,λi _=>z.cps.toList.length<=i⟩
theorem Kh{z:Str}:ItV D (ItC z) (λ_ _ _=>True) (z.cps.toList.map λc=>T.str ⟨#[c]⟩):=
 ⟨λi φ α H _ hi=>by (show i<_);simpa using hi,λi φ α H v H' t _ hi y=>by
  obtain⟨j,hj,rfl⟩:=Ze (D:=D) (φ:=φ) (α:=α) (H:=H) hi
  obtain⟨rfl,c,hc,rfl⟩:=y
  rw[hj] at hc;cases hc;exact⟨λ_ _ z=>z,rfl⟩,λφ α H _=>by show _<=_;simp⟩
theorem Q_ {P:Program} {w:World} {K:PySem.W.Frag} {tg:Expr} {kd:String} (hk:kd="str_ascii_iterator"\/kd="str_iterator") (it:Addr) (z:Str) (t0:Tok):Turn P w K tg (ItC z) [it] it (λi h=>h.IsStrIter it kd z t0 i) where
 mem:=by simp
 obj:=λi h st b hb=>by
  have e:b=it:=by simpa using hb
  subst e
  obtain⟨o,e,c,d⟩:=st
  exact⟨o,e,λv z=>by rw[d] at z;cases z⟩
 keep:=λi h h' st k=>let ⟨o,ho,r⟩:=st;⟨o,k it (by simp) o ho,r⟩
 item:=by
  intro X hP hw hK hc i pins s σ H E I hf st hg
  subst hP hw hK
  obtain⟨f0,f1,f2,f3,f4,f5⟩:=hf it (by simp)
  have hi:i<z.cps.size:=by simpa[ItC] using hg
  have hcx:z.cps[i]?=some z.cps[i]:=Array.getElem?_eq_getElem hi
  have hcl:z.cps.toList[i]?=some z.cps[i]:=by rw[Array.getElem?_toList];exact hcx
  rcases hk with rfl|rfl
  ·refine wpAny_pyNext_ascii_item st hcx λh' st' sb=>?_
   have I1:Inv X pins σ H {s with heap:=h',toks:=s.toks+1}:=I.turned (λb o hb e=>(sb.2 b hb).trans e) f0 f1 f3 f4 f5
   obtain⟨o,e,c,d⟩:=id st'
   exact⟨.str ⟨#[z.cps[i]]⟩ s.toks,rfl,kX (s:={s with heap:=h',toks:=s.toks+1}) e c d (by decide) ⟨.str ⟨#[z.cps[i]]⟩,H,I1,⟨_,rfl⟩,⟨rfl,z.cps[i],hcl,rfl⟩,st',λb hb=>(hf b hb).1⟩⟩
  ·refine wpAny_pyNext_wide_item st hcx λh' st' sb=>?_
   have I1:Inv X pins σ H {s with heap:=h',toks:=s.toks+1}:=I.turned (λb o hb e=>(sb.2 b hb).trans e) f0 f1 f3 f4 f5
   obtain⟨o,e,c,d⟩:=id st'
   exact⟨.str ⟨#[z.cps[i]]⟩ s.toks,rfl,kX (s:={s with heap:=h',toks:=s.toks+1}) e c d (by decide) ⟨.str ⟨#[z.cps[i]]⟩,H,I1,⟨_,rfl⟩,⟨rfl,z.cps[i],hcl,rfl⟩,st',λb hb=>(hf b hb).1⟩⟩
 done:=by
  intro X hP hw hK hc i pins s σ H E I hf st hg
  subst hP hw hK
  obtain⟨f0,f1,f2,f3,f4,f5⟩:=hf it (by simp)
  have hx:z.cps[i]?=none:=Array.getElem?_eq_none (by have:z.cps.toList.length<=i:=hg;simpa using this)
  rcases hk with rfl|rfl
  ·exact wpAny_pyNext_ascii_end (I.ok.hd hc) st hx λh' eb=>⟨rfl,I.turned (t':=s.toks) (λb o hb e=>eb b o hb e) f0 f1 f3 f4 f5⟩
  ·exact wpAny_pyNext_wide_end (I.ok.hd hc) st hx λh' eb=>⟨rfl,I.turned (t':=s.toks) (λb o hb e=>eb b o hb e) f0 f1 f3 f4 f5⟩
 self:=λ_ _ _ _ _ st h=>by
  rcases hk with rfl|rfl
  ·exact wpAny_pyIter_striter_ascii st h
  ·exact wpAny_pyIter_striter_wide st h
theorem Jt(ha:PE X a (rdE D W f)):PI X tg a (rdI D W (iE f)):=by
 rintro pins s σ H R I ⟨φ,α,τ,μ,sr,mr,p⟩
 refine thn (sub ha I sr mr p) ?_
 rintro u s1 ⟨v,H1,t,μ1,α1,I1,r1,st1,sr1,mr1,d1,p1⟩
 cases t with
 |lst ts=>
  obtain⟨ad,vs,rfl,n1,n2,q,l⟩:=d1
  cases r1
  obtain⟨its,rv,pl,hz⟩:=I1.list (.inl q)
  refine wpAny_pyIter_list pl.isList ?_
  refine⟨s1.heap.objs.size,[s1.heap.objs.size],_,_,H1,rfl,I1.kept (t':=s1.toks) λb o e=>Heap.get?_push_of_some _ e,kY ad _,⟨_,Heap.get?_push_size _ rfl,rfl,rfl⟩,λb hb=>?_,?_⟩
  ·have e:b=s1.heap.objs.size:=by simpa using hb
   subst e
   exact I1.fpOk (Nat.le_refl _) (I1.hok.fresh (Nat.le_refl _))
  ·have p2:Post D W φ α1 H1 σ _ (RE.ok (ts,lvT) μ1):=p1
   exact p2.ok (Stp.refl _ _) mr1 _ _ yd (λφ' α' H' μ' lk _ _=>by
    obtain⟨a',ws,e,_,_,q',l'⟩:=Den.lk lk (show Den D φ α1 H1 (.lst ts) (.ref ad) from ⟨ad,vs,rfl,n1,n2,q,l⟩)
    cases e;exact⟨ws,q',l'⟩) trivial
 |tup ts=>
  obtain⟨ad,vs,rfl,n1,n2,q,l⟩:=d1
  cases r1
  obtain⟨its,rv,pl,hz⟩:=I1.tuple (.inl q)
  refine wpAny_pyIter_tuple (show s1.heap.IsTuple ad its.toArray from pl) ?_
  refine⟨s1.heap.objs.size,[s1.heap.objs.size],_,_,H1,rfl,I1.kept (t':=s1.toks) λb o e=>Heap.get?_push_of_some _ e,uW ad _,⟨_,Heap.get?_push_size _ rfl,rfl,rfl⟩,λb hb=>?_,?_⟩
  ·have e:b=s1.heap.objs.size:=by simpa using hb
   subst e
   exact I1.fpOk (Nat.le_refl _) (I1.hok.fresh (Nat.le_refl _))
  ·have p2:Post D W φ α1 H1 σ _ (RE.ok (ts,lvT) μ1):=p1
   exact p2.ok (Stp.refl _ _) mr1 _ _ Jb (λφ' α' H' μ' lk _ _=>by
    obtain⟨a',ws,e,_,_,q',l'⟩:=Den.lk lk (show Den D φ α1 H1 (.tup ts) (.ref ad) from ⟨ad,vs,rfl,n1,n2,q,l⟩)
    cases e;exact⟨ws,q',l'⟩) trivial
 | «mut» j=>
  obtain⟨ad,hj,rfl⟩:=d1
  cases r1
  have p2:Post D W φ α1 H1 σ _ (λK _=>∃xs,μ1[j]?=some (.lst xs)/\K (xs,lvM j xs) μ1):=p1
  obtain⟨xs,hx,p2⟩:=p2.ex1
  obtain⟨vs,q,l⟩:=mr1.ob j ad _ hj hx
  obtain⟨its,rv,pl,hz⟩:=I1.list (.inl (.inl q))
  refine wpAny_pyIter_list pl.isList ?_
  refine⟨s1.heap.objs.size,[s1.heap.objs.size],_,_,H1,rfl,I1.kept (t':=s1.toks) λb o e=>Heap.get?_push_of_some _ e,kY ad _,⟨_,Heap.get?_push_size _ rfl,rfl,rfl⟩,λb hb=>?_,?_⟩
  ·have e:b=s1.heap.objs.size:=by simpa using hb
   subst e
   exact I1.fpOk (Nat.le_refl _) (I1.hok.fresh (Nat.le_refl _))
  ·have p2:Post D W φ α1 H1 σ _ (RE.ok (xs,lvM j xs) μ1):=p2
   exact p2.ok (Stp.refl _ _) mr1 _ _ yd (λφ' α' H' μ' lk m hl=>by
    obtain⟨ws,q',l'⟩:=m.ob j ad _ (lk.st j ad hj) hl
    exact⟨ws,.inl q',l'⟩) hx
 |str z=>
  have d1:v=.str z:=d1
  subst d1
  obtain⟨t0,rfl⟩:=r1
  have fin:∀{kd:String},(kd="str_ascii_iterator"\/kd="str_iterator")->PIE X pins σ tg R (.ref s1.heap.objs.size) {s1 with heap:=s1.heap.push {cls:=.type kd,data:=.fields #[.str z t0,.int 0 0]}}:=λ{kd} hk=>by
   refine⟨s1.heap.objs.size,[s1.heap.objs.size],_,_,H1,rfl,I1.kept (t':=s1.toks) λb o e=>Heap.get?_push_of_some _ e,Q_ hk _ z t0,⟨_,Heap.get?_push_size _ rfl,rfl,rfl⟩,λb hb=>?_,?_⟩
   ·have e:b=s1.heap.objs.size:=by simpa using hb
    subst e
    exact I1.fpOk (Nat.le_refl _) (I1.hok.fresh (Nat.le_refl _))
   ·have p2:Post D W φ α1 H1 σ _ (RE.ok (q_ z,lvT) μ1):=p1
    exact p2.ok (Stp.refl _ _) mr1 _ _ Kh (λ_ _ _ _ _ _ _=>True.intro) trivial
  cases ha:z.cps.all (·<128) with
  |true=>exact wpAny_pyIter_ascii ha (fin (.inl rfl))
  |false=>exact wpAny_pyIter_wide ha (fin (.inr rfl))
 |_=>exact Post.elim p1
theorem VO{x:V}{xs:List V}{us:List Value}(h:Vals (x::xs) us):∃u r,us=u::r/\RelV x u/\Vals xs r:=by
 cases h with
 |cons r q=>exact⟨_,_,rfl,r,q⟩
theorem vals3{x y z:V}{us:List Value}(h:Vals [x,y,z] us):∃u v w,us=[u,v,w]/\RelV x u/\RelV y v/\RelV z w:=by
 obtain⟨u,_,rfl,a,h⟩:=VO h
 obtain⟨v,_,rfl,b,h⟩:=VO h
 obtain⟨w,_,rfl,c,h⟩:=VO h
 cases h
 exact⟨_,_,_,rfl,a,b,c⟩
noncomputable def ItS(lo c:Int)(n:Nat):It:=⟨λi _=>i<n,λi H x H'=>H'=H/\x=.int (lo+i * c),λi _=>n<=i⟩
theorem ye{P:Program}{w:World}{K:PySem.W.Frag}{tg:Expr}(it:Addr)(lo c:Int)(n:Nat):Turn P w K tg (ItS lo c n) [it] it (λi h=>IsRangeIter h it (lo+(i:Nat) * c) ((n:Int)-(i:Nat)) c) where
 mem:=by simp
 obj:=λi h st b hb=>by
  have e:b=it:=by simpa using hb
  subst e
  exact⟨_,st,λv z=>by cases (show Data.fields _=Data.cell v from z)⟩
 keep:=λi h h' st k=>k it (by simp) _ st
 item:=by
  intro X hP hw hK hc i pins s σ H E I hf st hg
  subst hP hw hK
  obtain⟨f0,f1,f2,f3,f4,f5⟩:=hf it (by simp)
  have W:=Walks.range (prog:=X.prog) (w:=X.w) (I.ok.hd hc) it lo c n
  refine W.item i s _ _ hg st λv h' tk hv st' kk=>?_
  obtain⟨t,rfl⟩:=hv
  have I1:Inv X pins σ H {s with heap:=h',toks:=tk}:=I.turned (λb o hb e=>kk b o (by simpa using hb) e) f0 f1 f3 f4 f5
  exact⟨_,rfl,kX (s:={s with heap:=h',toks:=tk}) (n:="range_iterator") st' rfl rfl (by decide) ⟨.int (lo+i * c),H,I1,⟨t,rfl⟩,⟨rfl,rfl⟩,st',λb hb=>(hf b hb).1⟩⟩
 done:=by
  intro X hP hw hK hc i pins s σ H E I hf st hg
  subst hP hw hK
  obtain⟨f0,f1,f2,f3,f4,f5⟩:=hf it (by simp)
  exact wpAny_pyNext_range_end (I.ok.hd hc) st (by have:n<=i:=hg;omega) λh' eb=>⟨rfl,I.turned (t':=s.toks) (λb o hb e=>eb b o hb e) f0 f1 f3 f4 f5⟩
 self:=λ_ _ _ _ _ st h=>wpAny_pyIter_rangeiter st h
theorem yw{P:Program}{w:World}{K:PySem.W.Frag}{tg:Expr}(it:Addr)(lo c:Int)(n:Nat):Turn P w K tg (ItS lo c n) [it] it (λi h=>IsLongIter h it (lo+(i:Nat) * c) ((n:Int)-(i:Nat)) c) where
 mem:=by simp
 obj:=λi h st b hb=>by
  have e:b=it:=by simpa using hb
  subst e
  exact⟨_,st,λv z=>by cases (show Data.fields _=Data.cell v from z)⟩
 keep:=λi h h' st k=>k it (by simp) _ st
 item:=by
  intro X hP hw hK hc i pins s σ H E I hf st hg
  subst hP hw hK
  obtain⟨f0,f1,f2,f3,f4,f5⟩:=hf it (by simp)
  have W:=Walks.longrange (prog:=X.prog) (w:=X.w) (I.ok.hd hc) it lo c n
  refine W.item i s _ _ hg st λv h' tk hv st' kk=>?_
  obtain⟨t,rfl⟩:=hv
  have I1:Inv X pins σ H {s with heap:=h',toks:=tk}:=I.turned (λb o hb e=>kk b o (by simpa using hb) e) f0 f1 f3 f4 f5
  exact⟨_,rfl,kX (s:={s with heap:=h',toks:=tk}) (n:="longrange_iterator") st' rfl rfl (by decide) ⟨.int (lo+i * c),H,I1,⟨t,rfl⟩,⟨rfl,rfl⟩,st',λb hb=>(hf b hb).1⟩⟩
 done:=by
  intro X hP hw hK hc i pins s σ H E I hf st hg
  subst hP hw hK
  obtain⟨f0,f1,f2,f3,f4,f5⟩:=hf it (by simp)
  exact wpAny_pyNext_long_end (I.ok.hd hc) st (by have:n<=i:=hg;omega) λh' eb=>⟨rfl,I.turned (t':=s.toks) (λb o hb e=>eb b o hb e) f0 f1 f3 f4 f5⟩
 self:=λ_ _ _ _ _ st h=>wpAny_pyIter_longiter st h
theorem K5{a b c:Int}(hc:0<c):Builtin.Range.rangeSize a b c=if a<b then (b-a-1) / c+1 else 0:=by
 unfold Builtin.Range.rangeSize
 rw[if_pos hc]
theorem vN{pins:List (Addr×Obj)}{σ:St}{H:Hp}{s:Shared}{R:It->Hp->Prop}{E:Value->Shared->Prop}{lo hi c:Int}{t u v:Tok}{tk:Nat}(I:Inv X pins σ H s)(h3:0<c)
  (q:R (ItS lo c (if lo<hi then (hi-lo-1) / c+1 else 0:Int).toNat) H):wpAny (model X.prog X.w) X.A (pyIter (.ref s.heap.objs.size)) (PIE X pins σ tg R) E {s with heap:=s.heap.push {cls:=.type "range",data:=.fields #[.int lo t,.int hi u,.int c v]},toks:=tk}:=by
 have I1:Inv X pins σ H {s with heap:=s.heap.push {cls:=.type "range",data:=.fields #[.int lo t,.int hi u,.int c v]},toks:=tk}:=I.kept λb o e=>Heap.get?_push_of_some _ e
 have e1:lo+((0:Nat):Int) * c=lo:=by simp
 have e2:(((if lo<hi then (hi-lo-1) / c+1 else 0:Int).toNat:Nat):Int)-((0:Nat):Int)=Builtin.Range.rangeSize lo hi c:=by
  rw[K5 h3]
  have:0<=(if lo<hi then (hi-lo-1) / c+1 else 0):=by
   split
   ·have h1:0<=(hi-lo-1) / c:=Int.ediv_nonneg (by omega) (by omega)
    omega
   ·omega
  omega
 have fr:∀b∈[(s.heap.push {cls:=.type "range",data:=.fields #[.int lo t,.int hi u,.int c v]}).objs.size],b=(s.heap.push {cls:=.type "range",data:=.fields #[.int lo t,.int hi u,.int c v]}).objs.size:=λb hb=>by simpa using hb
 cases hsm:Builtin.Range.small lo hi c with
 |true=>
  refine wpAny_pyIter_range (IsRange.new ..) hsm ?_
  refine⟨(s.heap.push {cls:=.type "range",data:=.fields #[.int lo t,.int hi u,.int c v]}).objs.size,[(s.heap.push {cls:=.type "range",data:=.fields #[.int lo t,.int hi u,.int c v]}).objs.size],_,_,H,rfl,
   I1.kept (t':=tk) λb o e=>Heap.get?_push_of_some _ e,ye _ lo c (if lo<hi then (hi-lo-1) / c+1 else 0:Int).toNat,?_,λb hb=>?_,q⟩
  ·show IsRangeIter _ _ (lo+((0:Nat):Int) * c) ((((if lo<hi then (hi-lo-1) / c+1 else 0:Int).toNat:Nat):Int)-((0:Nat):Int)) c
   rw[e1,e2]
   exact Heap.get?_push_size _ rfl
  ·rw[fr b hb]
   exact I1.fpOk (Nat.le_refl _) (I1.hok.fresh (Nat.le_refl _))
 |false=>
  refine wpAny_pyIter_longrange (IsRange.new ..) hsm ?_
  refine⟨(s.heap.push {cls:=.type "range",data:=.fields #[.int lo t,.int hi u,.int c v]}).objs.size,[(s.heap.push {cls:=.type "range",data:=.fields #[.int lo t,.int hi u,.int c v]}).objs.size],_,_,H,rfl,
   I1.kept (t':=tk) λb o e=>Heap.get?_push_of_some _ e,yw _ lo c (if lo<hi then (hi-lo-1) / c+1 else 0:Int).toNat,?_,λb hb=>?_,q⟩
  ·show IsLongIter _ _ (lo+((0:Nat):Int) * c) ((((if lo<hi then (hi-lo-1) / c+1 else 0:Int).toNat:Nat):Int)-((0:Nat):Int)) c
   rw[e1,e2]
   exact Heap.get?_push_size _ rfl
  ·rw[fr b hb]
   exact I1.fpOk (Nat.le_refl _) (I1.hok.fresh (Nat.le_refl _))
theorem wO{lo c:Int}{n:Nat}:ItV D (ItS lo c n) (λ_ _ _=>True) ((List.range n).map λ(i:Nat)=>T.int (lo+i * c)):=
 ⟨λi φ α H _ hi=>by (show i<n);simpa using hi,λi φ α H v H' t _ hi y=>by
  obtain⟨j,hj,rfl⟩:=Ze (D:=D) (φ:=φ) (α:=α) (H:=H) hi
  rw[Qi hj]
  obtain⟨rfl,rfl⟩:=y
  exact⟨λ_ _ z=>z,rfl⟩,λφ α H _=>by show n<=_;simp⟩
theorem Qq (C:Ck D W Γ X k) {p0:Pos} (hx:("range":Str)∈Γ.G) (hg:Γ.gl "range"=.none) (ha':noStar a=true) (hb':noStar b=true) (hc':noStar c=true) (ha:PE X a (rdE D W f)) (hb:PE X b (rdE D W g)) (hc:PE X c (rdE D W h)) :
  PI X tg (.Call (.Name "range" p0) [a,b,c] [] pos) (rdI D W (Kw f g h)):=by
 have hm:=C.glo _ hx
 rw[hg] at hm
 rintro pins s σ H R I ⟨φ,α,τ,μ,sr,mr,p⟩
 have s3:starEach [a,b,c] X.env=[(false,eval a X.env),(false,eval b X.env),(false,eval c X.env)]:=by
  rw[z6 ha',z6 hb',z6 hc'];rfl
 refine Call_ (wK I (C.glb _ hx) hm boot_range (PyProof.Rows.callWith_type1 (thn (zt ha (zt hb (zt hc qe (z6 hc')) (z6 hb')) (z6 ha') pos pins s σ H (λvs H1=>∃i j l:Int,vs=[.int i,.int j,.int l]/\(0<l/\l<1073741824)/\R (ItS i l (if i<j then (j-i-1) / l+1 else 0:Int).toNat) H1) I ?_) ?_) (z6 ha') (qM (by simp[hb',hc']))))
 ·refine⟨φ,α,τ,μ,sr,mr,p.bind.mono λx μ1 α1 H1 st1 m1 q1 v1 d1=>⟨φ,α1,τ,μ1,sr.step st1,m1,q1.bind.mono λy μ2 α2 H2 st2 m2 q2 v2 d2=>⟨φ,α2,τ,μ2,(sr.step st1).step st2,m2,q2.bind.mono λz μ3 α3 H3 st3 m3 q3 v3 d3=>?_⟩⟩⟩
  cases x with
  |int a=>
   cases y with
   |int b=>
    cases z with
    |int c=>
     have q3:Post D W φ α3 H3 σ _ (RE.grd (inL a/\inL b/\0<c/\c<1073741824) (RE.ok (xV a b c,lvT) μ3)):=q3
     obtain⟨hh,q3⟩:=q3.grd
     have d1:v1=.int _:=d1
     have d2:v2=.int _:=d2
     have d3:v3=.int _:=d3
     subst d1 d2 d3
     exact⟨_,_,_,rfl,hh.2.2,q3.ok (Stp.refl _ _) m3 _ _ wO (λ_ _ _ _ _ _ _=>True.intro) trivial⟩
    |_=>exact Post.elim q3
   |_=>exact Post.elim q3
  |_=>exact Post.elim q3
 ·rintro us s1 ⟨vs,H1,I1,rv,i,j,l,rfl,h3,q⟩
  obtain⟨u1,u2,u3,rfl,r1,r2,r3⟩:=vals3 rv
  obtain⟨t1,rfl⟩:=r1
  obtain⟨t2,rfl⟩:=r2
  obtain⟨t3,rfl⟩:=r3
  exact call_range_3 (by omega) (vN I1 h3.1 q) (.inl (PyProof.noPylong_small (by omega)))
theorem Q4 (C:Ck D W Γ X k) {p0:Pos} (hx:("range":Str)∈Γ.G) (hg:Γ.gl "range"=.none) (ha':noStar a=true) (hb':noStar b=true) (ha:PE X a (rdE D W f)) (hb:PE X b (rdE D W g)) :
  PI X tg (.Call (.Name "range" p0) [a,b] [] pos) (rdI D W (WQ f g)):=by
 have hm:=C.glo _ hx
 rw[hg] at hm
 rintro pins s σ H R I ⟨φ,α,τ,μ,sr,mr,p⟩
 refine Call_ (wK I (C.glb _ hx) hm boot_range (PyProof.Rows.callWith_type1 (thn (zt ha (zt hb qe (z6 hb')) (z6 ha') pos pins s σ H (λvs H1=>∃i j:Int,vs=[.int i,.int j]/\R (ItS i 1 (if i<j then (j-i-1) / 1+1 else 0:Int).toNat) H1) I ?_) ?_) (by rw[z6 ha',z6 hb']) (by rw[z6 hb'];rfl)))
 ·refine⟨φ,α,τ,μ,sr,mr,p.bind.mono λx μ1 α1 H1 st1 m1 q1 v1 d1=>⟨φ,α1,τ,μ1,sr.step st1,m1,q1.bind.mono λy μ2 α2 H2 st2 m2 q2 v2 d2=>?_⟩⟩
  cases x with
  |int i=>
   cases y with
   |int j=>
    have q2:Post D W φ α2 H2 σ _ (RE.grd (inL i/\inL j) (RE.ok (xV i j 1,lvT) μ2)):=q2
    obtain⟨hh,q2⟩:=q2.grd
    have d1:v1=.int _:=d1
    have d2:v2=.int _:=d2
    subst d1 d2
    exact⟨_,_,rfl,q2.ok (Stp.refl _ _) m2 _ _ wO (λ_ _ _ _ _ _ _=>True.intro) trivial⟩
   |_=>exact Post.elim q2
  |_=>exact Post.elim q2
 ·rintro us s1 ⟨vs,H1,I1,rv,i,j,rfl,q⟩
  cases rv with
  |cons r rr=>
   cases rr with
   |cons r' rr=>
    cases rr
    obtain⟨t,rfl⟩:=r
    obtain⟨t',rfl⟩:=r'
    exact call_range_2 (vN I1 (by omega) q)
theorem Wn (C:Ck D W Γ X k) {p0:Pos} (hx:("range":Str)∈Γ.G) (hg:Γ.gl "range"=.none) (hs:noStar a=true) (ha:PE X a (rdE D W f)) :
  PI X tg (.Call (.Name "range" p0) [a] [] pos) (rdI D W (XQ f)):=by
 have hm:=C.glo _ hx
 rw[hg] at hm
 rintro pins s σ H R I ⟨φ,α,τ,μ,sr,mr,p⟩
 refine Call_ (wK I (C.glb _ hx) hm boot_range (PyProof.Rows.callWith_type1 (thn (zt ha qe (z6 hs) pos pins s σ H (λvs H1=>∃j:Int,vs=[.int j]/\R (ItS 0 1 (if 0<j then (j-0-1) / 1+1 else 0:Int).toNat) H1) I ?_) ?_) (z6 hs) rfl))
 ·refine⟨φ,α,τ,μ,sr,mr,p.bind.mono λt μ' α' H' st m q v d=>?_⟩
  cases t with
  |int n=>
   have d:v=.int _:=d
   subst d
   have q:Post D W φ α' H' σ _ (RE.grd (inL n) (RE.ok (rangeT n,lvT) μ')):=q
   obtain⟨hn,q⟩:=q.grd
   have e2:(if 0<n then (n-0-1) / 1+1 else 0:Int).toNat=n.toNat:=by
    split
    ·rw[Int.ediv_one];congr 1;omega
    ·omega
   have e3:((List.range n.toNat).map λ(i:Nat)=>T.int (0+i * 1))=rangeT n:=by
    unfold rangeT
    refine List.map_congr_left λi _=>?_
    simp
   refine⟨n,rfl,?_⟩
   rw[e2]
   exact q.ok (Stp.refl _ _) m _ _ (e3▸wO) (λ_ _ _ _ _ _ _=>True.intro) trivial
  |_=>exact Post.elim q
 ·rintro us s1 ⟨vs,H1,I1,rv,j,rfl,q⟩
  cases rv with
  |cons r rr=>
   cases rr
   obtain⟨t,rfl⟩:=r
   exact call_range_1 (vN I1 (by omega) q)
noncomputable def idxs (N:List Str):List Expr->Option (List Nat)
 |[]=>some []
 |.Name x _::r=>match idx N x,idxs N r with
  |some i,some is=>some (i::is)
  |_,_=>none
 |_::_=>none
noncomputable def qp (N:List Str):Expr->Option Tg
 |.Name x _=>(idx N x).map Tg.one
 |.Tuple es _ _=>(idxs N es).map Tg.tup
 |_=>none
noncomputable def z5:Expr->List Str
 |.Name x _=>[x]
 |.Tuple es _ _=>es.filterMap λe=>match e with|.Name x _=>some x|_=>none
 |_=>[]
noncomputable def Sto (X:Cx)(S:List Str):Prop:=∀x∈S,Loc X.env.scope x/\(X.fn x=true\/X.env.scope.names.lookup x=some .local)
theorem Zl{S N:List Str}(hN:X.N=N)(nd:N.Nodup)(hS:Sto X S):∀{es:List Expr} {is:List Nat} {ts:List T} {τ τ':Sl},(∀e∈es,∀x p,e=.Name x p->x∈S)->idxs N es=some is->yg is ts τ=some τ'->
  ∃t,PGs X es t/\(assignEach es X.env).length=ts.length/\(assignEach es X.env).findIdx? (·.1)=none/\∀{σ:St} {vs:List V} {φ α H} {Q:St->Hp->Prop},SRel D φ α H τ σ->DenL D φ α H ts vs->(∀σ',SRel D φ α H τ' σ'->Q σ' H)->t vs σ H Q
 |[],is,ts,τ,τ',_,h0,h=>by
  simp[idxs] at h0;subst h0
  cases ts with
  |nil=>
   simp[yg] at h;subst h
   exact⟨z0o,JE,rfl,rfl,λsr l q=>⟨l,q _ sr⟩⟩
  |cons _ _=>simp[yg] at h
 |e::es,is,ts,τ,τ',hn,h0,h=>by
  cases e with
  |Name x p0=>
   simp only[idxs] at h0
   split at h0
   ·rename_i i is' hi his
    cases h0
    cases ts with
    |nil=>simp[yg] at h
    |cons t ts=>
     have h:yg is' ts (wU τ i (some t))=some τ':=h
     have hx:=hn _ List.mem_cons_self x p0 rfl
     have pg:PG X (.Name x p0) (ZF i):=ZD (hN▸nd) (by rw[hN];exact qz hi) (hS x hx).1 (hS x hx).2
     obtain⟨u,pgs,hl,hf,hu⟩:=Zl hN nd hS (λe he=>hn e (List.mem_cons_of_mem _ he)) his h
     refine⟨KY (ZF i) u,Wb pg pgs rfl,by simpa[assignEach] using hl,?_,λ{σ vs φ α H Q} sr l k=>?_⟩
     ·have e1:assignEach (.Name x p0::es) X.env=(false,assign (.Name x p0) X.env)::assignEach es X.env:=rfl
      rw[e1,List.findIdx?_cons]
      simp[hf]
     ·obtain⟨v,r,rfl,d,l⟩:=l
      exact⟨v,r,rfl,hu (sr.set d) l k⟩
   ·cases h0
  |_=>simp[idxs] at h0
theorem uv{S N:List Str}(hN:X.N=N)(nd:N.Nodup)(hS:Sto X S)(hc:X.calm=true){e:Expr}{tgt:Tg}{t:T}{τ τ':Sl}(hn:∀x∈z5 e,x∈S)(h0:qp N e=some tgt)(h:asg tgt t τ=some τ'){v:V}{u:Value}(I:Inv X pins σ H s)(sr:SRel D φ α H τ σ)(d:Den D φ α H t v)(r:RelV v u) :
  wpAny (model X.prog X.w) X.A (assign e X.env u) (λ_ s'=>∃σ',Inv X pins σ' H s'/\SRel D φ α H τ' σ') X.xe s:=by
 cases e with
 |Name x p0=>
  simp only[qp] at h0
  cases q:idx N x with
  |none=>rw[q] at h0;cases h0
  |some i=>
   rw[q] at h0;cases h0
   cases (Option.some.inj h:wU τ i (some t)=τ')
   have hx:x∈S:=hn x (by simp[z5])
   refine thn (ZD (i:=i) (hN▸nd) (by rw[hN];exact qz q) (hS x hx).1 (hS x hx).2 pins s σ H v u (λσ' H'=>H'=H/\σ'=σ.set i (some v)) I r ⟨rfl,rfl⟩) ?_
   rintro _ s1 ⟨σ',H',I1,rfl,rfl⟩
   exact⟨_,I1,sr.set d⟩
 |Tuple es kk p0=>
  simp only[qp] at h0
  cases q:idxs N es with
  |none=>rw[q] at h0;cases h0
  |some is=>
   rw[q] at h0;cases h0
   cases t with
   |tup ts=>
    obtain⟨g,pgs,hl,hf,hu⟩:=Zl (D:=D) hN nd hS (λe he x p hx=>hn x (by subst hx;exact List.mem_filterMap.mpr ⟨_,he,rfl⟩)) q h
    obtain⟨ad,xs,rfl,_,_,q,l⟩:=d
    refine thn (Xa (k:=kk) (pos:=p0) hc pgs hl hf pins s σ H (.ref ad) u (λσ' H'=>H'=H/\SRel D φ α H τ' σ') I r ⟨ad,xs,rfl,.inl q,l.length.symm,hu sr l λσ' sr'=>⟨rfl,sr'⟩⟩) ?_
    rintro _ s1 ⟨σ',H',I1,rfl,sr'⟩
    exact⟨σ',I1,sr'⟩
   |_=>cases h
 |_=>simp[qp] at h0
end
theorem Js(env:Env):∀(names:List (Str×NameKind)) (cs:List (Str×Addr)),(∀p∈names,p.2=.free->∃c,env.cells.lookup p.1=some c)->
  ∃cl,(forIn names cs (λ(x:Str×NameKind) r=>if (x.2 == .free)=true then do let a ←cellOf env x.1;pure (ForInStep.yield ((x.1,a)::r)) else pure (ForInStep.yield r)):Sem (List (Str×Addr)))=pure cl/\
   (∀x c,cl.lookup x=some c->cs.lookup x=some c\/(env.cells.lookup x=some c/\∃p∈names,p.1=x/\p.2=.free))/\(∀x c,cs.lookup x=some c->∃c',cl.lookup x=some c')/\∀p∈names,p.2=.free->∃c,cl.lookup p.1=some c:=by
 intro names
 induction names with
 |nil=>intro cs _;exact⟨cs,rfl,λx c h=>.inl h,λx c h=>⟨c,h⟩,λp hp=>absurd hp (by simp)⟩
 |cons p names ih=>
  intro cs h
  rw[List.forIn_cons]
  by_cases hp:p.2=.free
  ·obtain⟨c,hc⟩:=h p List.mem_cons_self hp
   have e:cellOf env p.1=pure c:=by unfold cellOf;rw[hc]
   rw[if_pos (by simp[hp]),e]
   obtain⟨cl,e1,e2,e3,e4⟩:=ih ((p.1,c)::cs) λq hq=>h q (List.mem_cons_of_mem _ hq)
   refine⟨cl,e1,λx c' hx=>?_,λx c' hx=>?_,λq hq hf=>?_⟩
   ·rcases e2 x c' hx with z|⟨z,q,hq,z1,z2⟩
    ·rw[List.lookup_cons] at z
     cases hb:x == p.1 with
     |true=>
      simp[hb] at z
      subst z
      have hb':x=p.1:=by simpa using hb
      exact .inr ⟨by rw[hb'];exact hc,p,List.mem_cons_self,hb'.symm,hp⟩
     |false=>simp[hb] at z;exact .inl z
    ·exact .inr ⟨z,q,List.mem_cons_of_mem _ hq,z1,z2⟩
   ·cases hb:x == p.1 with
    |true=>exact e3 x c (by simp[List.lookup_cons,hb])
    |false=>exact e3 x c' (by simp[List.lookup_cons,hb,hx])
   ·rcases List.mem_cons.mp hq with rfl|hq
    ·exact e3 _ c (by simp[List.lookup_cons])
    ·exact e4 q hq hf
  ·rw[if_neg (by simp[hp])]
   obtain⟨cl,e1,e2,e3,e4⟩:=ih cs λq hq=>h q (List.mem_cons_of_mem _ hq)
   refine⟨cl,e1,λx c' hx=>?_,e3,λq hq hf=>?_⟩
   ·rcases e2 x c' hx with z|⟨z,q,hq,z1,z2⟩
    ·exact .inl z
    ·exact .inr ⟨z,q,List.mem_cons_of_mem _ hq,z1,z2⟩
   ·rcases List.mem_cons.mp hq with rfl|hq
    ·exact absurd hf hp
    ·exact e4 q hq hf
noncomputable def WC(sc:Scope):List Str:=(sc.names.filter λp=>p.2 == .globalImplicit).map (·.1)
noncomputable def frees(sc:Scope):List Str:=(sc.names.filter λp=>p.2 == .free).map (·.1)
theorem wq{sc:Scope}{x:Str}:x∈frees sc↔∃p∈sc.names,p.1=x/\p.2=.free:=by
 unfold frees
 simp only[List.mem_map,List.mem_filter,beq_iff_eq]
 constructor
 ·rintro⟨p,⟨h1,h2⟩,h3⟩;exact⟨p,h1,h3,h2⟩
 ·rintro⟨p,h1,h3,h2⟩;exact⟨p,⟨h1,h2⟩,h3⟩
theorem uS{sc:Scope}{env:Env}(h:∀x∈frees sc,∃c,env.cells.lookup x=some c) :
  ∃cl,closureFor sc env=pure cl/\(∀x c,cl.lookup x=some c->env.cells.lookup x=some c/\x∈frees sc)/\∀x∈frees sc,∃c,cl.lookup x=some c:=by
 obtain⟨cl,e1,e2,e3,e4⟩:=Js env sc.names [] λp hp hf=>h p.1 (wq.mpr ⟨p,hp,rfl,hf⟩)
 refine⟨cl,?_,λx c hx=>?_,λx hx=>?_⟩
 ·rw[←e1]
  unfold closureFor
  simp
 ·rcases e2 x c hx with z|⟨z,p,hp,z1,z2⟩
  ·simp at z
  ·exact⟨z,wq.mpr ⟨p,hp,z1,z2⟩⟩
 ·obtain⟨p,hp,rfl,hf⟩:=wq.mp hx
  exact e4 p hp hf
section
variable {M:Model}{A:Around}{E:Value->Shared->Prop}{s:Shared}{env:Env}
noncomputable def xu(M:Model)(A:Around)(E:Value->Shared->Prop)(use:Option (Value->Sem Unit))(Q:Value->Shared->Prop)(acc:Value)(ce:Env):Result->Shared->Prop
 |.ok _,t=>(match use with
  |none=>∃m,t.heap.Ns ce.locals m/\∀g,Heap.SameBut ce.locals t.heap g->Q acc {t with heap:=g}
  |some u=>wpAny M A (u acc) (λ_ t2=>∃m,t2.heap.Ns ce.locals m/\∀g,Heap.SameBut ce.locals t2.heap g->Q .none {t2 with heap:=g}) E t)
 |.error x,t=>∃m,t.heap.Ns ce.locals m/\∀g,Heap.SameBut ce.locals t.heap g->wpAny M A (passOn "comprehension.variables-let-go" x ce:Sem Value) (λ_ _=>False) E {t with heap:=g}
theorem Kg{e:Expr}{sc:Scope}{pos:Pos}{mk fst:Sem Value}{g:Comprehension}{gs:List Comprehension}{cl:List (Str×Addr)}{use:Option (Value->Sem Unit)}{Q:Value->Shared->Prop}
  (h1:clausesOf e=g::gs) (h2:∀x,foldedSetIterable g.iter env x=pure x) (h3:closureFor sc env=pure cl) (h4:sc.kind=.function) (h5:∀x∈sc.names,x.2=.local->sc.names.lookup x.1=some .local)
  (h:wpAny M A fst (λx t1=>wpAny M A (pyIter x) (λit t2=>wpAny M A mk (λacc t3=>wpAny M A (newFunctionEnv sc env.globals cl [] env.qual none .none (some env)) (λce t4=>
    codeAny M A (.compStart e 0 it acc {ce with scope:=relabel sc env}) (xu M A E use Q acc {ce with scope:=relabel sc env}) t4) E t3) E t2) E t1) E s) :
  wpAny M A (comprehension e sc env pos mk false fst use) Q E s:=by
 unfold comprehension
 rw[h3,h1]
 have id2:∀(x:Value) (t:Shared),E x t->E x t:=λ_ _ z=>z
 refine wpAny_bind (wpAny_mono h (λx t1 q1=>?_) id2)
 refine wpAny_bind (wpAny_standAt (wpAny_bind (wpAny_of_eq (h2 x) (wpAny_bind (wpAny_holding (wpAny_mono q1 (λit t2 q2=>?_) id2))))))
 refine wpAny_standIf (wpAny_bind (wpAny_mono q2 (λacc t3 q3=>?_) id2))
 refine wpAny_bind (wpAny_pure (wpAny_bind (wpAny_mono q3 (λce t4 q4=>?_) id2)))
 dsimp only
 have lc:∀y∈(sc.names.filter λx=>(x.2 == .local || x.2 == .cell)&&x.1 != (".0":Str)),y.2=.local->Env.kindOf {ce with scope:=relabel sc env} y.1=some .local:=
  λy hy hl=>lookup_relabel_local (h5 y (List.mem_filter.mp hy).1 hl)
 have lr:∀y∈(sc.names.filter λx=>(x.2 == .local || x.2 == .cell)&&x.1 != (".0":Str)).reverse,y.2=.local->Env.kindOf {ce with scope:=relabel sc env} y.1=some .local:=
  λy hy=>lc y (List.mem_reverse.mp hy)
 refine wpAny_holding (wpAny_bind (wpAny_attempt (wpAny_holding (wpAny_run (codeAny_mono q4 λr t5 q5=>?_)))))
 cases r with
 |error x=>
  obtain⟨m,hn,q6⟩:=q5
  refine wpAny_bind (wpAny_holding (wpAny_comp_letGo (cenv:={ce with scope:=relabel sc env}) h4 _ t5 m lr hn λg m' _ sb=>?_))
  exact wpAny_mono (q6 g sb) (λ_ _ z=>z.elim) id2
 |ok f=>
  cases use with
  |none=>
   obtain⟨m,hn,q6⟩:=q5
   exact wpAny_bind (wpAny_holding (wpAny_comp_letGo (cenv:={ce with scope:=relabel sc env}) h4 _ t5 m lr hn λg m' _ sb=>wpAny_pure (q6 g sb)))
  |some u=>
   refine wpAny_bind (wpAny_rule (wpAny_bind (wpAny_holding (wpAny_mono q5 (λ_ t6 q6=>?_) id2))))
   obtain⟨m,hn,q6⟩:=q6
   refine wpAny_bind (wpAny_comp_letGo (cenv:={ce with scope:=relabel sc env}) h4 _ t6 m (λy hy=>?_) hn λg m' _ sb=>wpAny_pure (q6 g sb))
   rcases List.mem_append.mp hy with z|z
   ·exact lr y (List.mem_of_mem_drop z)
   ·exact lr y (List.mem_of_mem_take z)
end
section
variable {prog:Program}{w:World}{A:Around}{R:Result->Shared->Prop}{s:Shared}
theorem Wv(elt target iter:Expr)(ifs:List Expr)(scope:Scope)(pos:Pos)(it acc:Value)(env:Env) :
  compTurn (.ListComp elt [⟨target,iter,ifs,0⟩] scope pos) 0 it acc env=(standAt iter.pos >>= λ_=>pyNext it >>= λr=>match r with
   |none=>pure (.done .next)
   |some v=>letOwnedTupleGo target it v >>= λ_=>assign target env v >>= λ_=>
    (forIn ifs true λc s=>if s=true then isTrue c env (eval c env) >>= λok=>pure (ForInStep.yield ok) else pure (ForInStep.yield s)) >>= λok=>
     if ok=true then (eval elt env >>= λx=>call (.builtin "list.append") [acc,x] >>= λ_=>pure ()) >>= λ_=>
      again (.compLoop (.ListComp elt [⟨target,iter,ifs,0⟩] scope pos) 0 it acc env)
     else again (.compLoop (.ListComp elt [⟨target,iter,ifs,0⟩] scope pos) 0 it acc env)):=by rfl
noncomputable def vF(M:Model)(A:Around)(env:Env)(E:Value->Shared->Prop):List Expr->(Bool->Shared->Prop)->Shared->Prop
 |[],Q,s=>Q true s
 |c::cs,Q,s=>wpAny M A (isTrue c env (eval c env)) (λb s1=>if b=true then vF M A env E cs Q s1 else Q false s1) E s
theorem kP{M:Model}{env:Env}{E:Value->Shared->Prop}{Q:Bool->Shared->Prop}:∀(cs:List Expr) {s:Shared},Q false s->
  wpAny M A (forIn cs false λc s=>if s=true then isTrue c env (eval c env) >>= λok=>pure (ForInStep.yield ok) else pure (ForInStep.yield s)) Q E s
 |[],s,h=>wpAny_pure h
 |c::cs,s,h=>by
  rw[List.forIn_cons]
  refine wpAny_bind ?_
  rw[if_neg (by decide)]
  exact wpAny_pure (kP cs h)
theorem yk{M:Model}{env:Env}{E:Value->Shared->Prop}{Q:Bool->Shared->Prop}:∀(cs:List Expr) {s:Shared},vF M A env E cs Q s->
  wpAny M A (forIn cs true λc s=>if s=true then isTrue c env (eval c env) >>= λok=>pure (ForInStep.yield ok) else pure (ForInStep.yield s)) Q E s
 |[],s,h=>wpAny_pure h
 |c::cs,s,h=>by
  rw[List.forIn_cons]
  refine wpAny_bind ?_
  rw[if_pos rfl]
  refine wpAny_bind (thn h λb s1 h1=>wpAny_pure ?_)
  cases b with
  |true=>rw[if_pos rfl] at h1;exact yk cs h1
  |false=>rw[if_neg (by decide)] at h1;exact kP cs h1
theorem ZP{elt target iter:Expr}{ifs:List Expr}{scope:Scope}{pos:Pos}{it acc:Value}{env:Env}(I:Nat->Shared->Prop)
  (turn:∀n s,I n s->wpAny (model prog w) A (pyNext it) (λr s₁=>match r with
   |none=>R (.ok .next) s₁
   |some v=>wpAny (model prog w) A (letOwnedTupleGo target it v) (λ_ s₂=>wpAny (model prog w) A (assign target env v) (λ_ s₃=>vF (model prog w) A env (notedBy (model prog w) A env λx s'=>R (.error x) s') ifs (λb s₄=>
     if b=true then wpAny (model prog w) A (eval elt env) (λx s₅=>wpAny (model prog w) A (call (.builtin "list.append") [acc,x]) (λ_ s₆=>∃m,m<n/\I m s₆) (λ_ _=>False) s₅) (notedBy (model prog w) A env λx s'=>R (.error x) s') s₄ else ∃m,m<n/\I m s₄) s₃) (λ_ _=>False) s₂) (λ_ _=>False) s₁) (λ_ _=>False) s)
  (n:Nat) (h:I n s):codeAny (model prog w) A (.compLoop (.ListComp elt [⟨target,iter,ifs,0⟩] scope pos) 0 it acc env) R s:=by
 refine codeAny_loop rfl I (λn s hI=>?_) n h
 show wpAny _ _ ((compTurn (.ListComp elt [⟨target,iter,ifs,0⟩] scope pos) 0 it acc env).onRaise (λx=>do noteFrame x env;theTreesLotGoes x)) _ _ s
 refine wpAny_noted ?_
 rw[Wv]
 have nx:∀{α:Type} {t:Sem α} {Q:α->Shared->Prop} {s:Shared} {N:Value->Shared->Prop},wpAny (model prog w) A t Q (λ_ _=>False) s->wpAny (model prog w) A t Q N s:=λh=>wpAny_mono h (λ_ _ q=>q) λ_ _ z=>z.elim
 refine wpAny_bind (wpAny_standAt (wpAny_bind (nx (thn (turn n s hI) λr s₁ h₁=>?_))))
 cases r with
 |none=>exact wpAny_pure h₁
 |some v=>
  refine wpAny_bind (nx (thn h₁ λ_ s₂ h₂=>?_))
  refine wpAny_bind (nx (thn h₂ λ_ s₃ h₃=>?_))
  refine wpAny_bind (thn (yk ifs h₃) λb s₄ h₄=>?_)
  cases b with
  |true=>
   rw[if_pos rfl] at h₄ ⊢
   exact wpAny_bind (wpAny_bind (thn h₄ λx s₅ h₅=>wpAny_bind (nx (thn h₅ λ_ s₆ h₆=>wpAny_pure (wpAny_pure ⟨rfl,h₆⟩)))))
  |false=>
   rw[if_neg (by decide)] at h₄ ⊢
   exact wpAny_pure ⟨rfl,h₄⟩
end
noncomputable abbrev noW:XW:=λ_ _ _ _=>False
noncomputable def cxC (X:Cx)(N:List Str)(sc:Scope)(cl:List (Str×Addr))(C0:Addr)(s3:Shared)(H3:Hp)(fp:List Addr):Cx:=
 {X with N:=N,s₀:=s3,H₀:=H3,env:=compEnvC sc cl C0 X.env,outer:=X.stack,ex:=fp,fn:=λ_=>false,pn:=[],xe:=λ_ _=>False}
noncomputable def u9(N cel:List Str)(tg:Expr)(sc:Scope):Bool:=
 (sc.kind == .function)&&sc.names.all (λp=>p.2 != .cell)&&sc.names.all (λp=>p.2 != .local || sc.names.lookup p.1 == some .local)&&
 (z5 tg).all (λx=>sc.names.lookup x == some .local&&x != ("__debug__":Str)&&x != ("__classdict__":Str))&&(frees sc).all (λx=>(idx N x).isSome&&sc.names.lookup x == some .free&&cel.contains x&&x != ("__debug__":Str)&&x != ("__classdict__":Str))&&decide ((z5 tg++frees sc).Nodup)&&
 (WC sc).all (λx=>sc.names.lookup x == some .globalImplicit)
structure CompOk(N cel:List Str)(tg:Expr)(sc:Scope):Prop where
 kind:sc.kind=.function
 noc:∀p∈sc.names,p.2≠.cell
 lcl:∀p∈sc.names,p.2=.local->sc.names.lookup p.1=some .local
 own:∀x∈z5 tg,sc.names.lookup x=some .local/\(x == ("__debug__":Str))=false/\(x == ("__classdict__":Str))=false
 fre:∀x∈frees sc,(∃i,idx N x=some i)/\sc.names.lookup x=some .free/\x∈cel/\(x == ("__debug__":Str))=false/\(x == ("__classdict__":Str))=false
 nd:(z5 tg++frees sc).Nodup
 glb:∀x∈WC sc,sc.names.lookup x=some .globalImplicit
theorem Qm{N cel:List Str}{tg:Expr}{sc:Scope}(h:u9 N cel tg sc=true):CompOk N cel tg sc:=by
 unfold u9 at h
 simp only[Bool.and_eq_true,List.all_eq_true,beq_iff_eq,bne_iff_ne,Bool.or_eq_true,decide_eq_true_eq,List.contains_iff_mem,Option.isSome_iff_exists,ne_eq] at h
 obtain⟨⟨⟨⟨⟨⟨h1,h2⟩,h3⟩,h4⟩,h5⟩,h6⟩,h7⟩:=h
 refine⟨h1,h2,λp hp hl=>?_,λx hx=>?_,λx hx=>?_,h6,h7⟩
 ·rcases h3 p hp with z|z
  ·exact absurd hl z
  ·exact z
 ·obtain⟨⟨a,b⟩,c⟩:=h4 x hx
  exact⟨a,by simpa using b,by simpa using c⟩
 ·obtain⟨⟨⟨⟨a,b⟩,c⟩,d⟩,e⟩:=h5 x hx
  exact⟨a,b,c,by simpa using d,by simpa using e⟩
theorem zC{env:Env}{x:Str}:∀{names:List (Str×NameKind)} {kd:NameKind},names.lookup x=some kd->
  (names.map λ(n,k)=>if (k == NameKind.free&&env.scope.kind == .function&&env.kindOf n == some .cell) then (n,NameKind.cell) else (n,k)).lookup x=some (if (kd == NameKind.free&&env.scope.kind == .function&&env.kindOf x == some .cell) then .cell else kd)
 |[],_,h=>by simp at h
 |(n,k)::r,kd,h=>by
  have ih:=@zC env x r kd
  rw[List.map_cons]
  rw[List.lookup_cons] at h
  cases hx:x == n with
  |true=>
   have hx':x=n:=by simpa using hx
   subst hx'
   simp at h
   subst h
   dsimp only
   split<;>simp_all[List.lookup_cons]
  |false=>
   simp only[hx] at h
   dsimp only
   split
   ·rw[List.lookup_cons];simp only[hx];exact ih h
   ·rw[List.lookup_cons];simp only[hx];exact ih h
section
variable {X:Cx}{D:DP}{W:XW}{Γ:Cn}{k:Nat}{pins:List (Addr×Obj)}{s2:Shared}{σ:St}{H2:Hp}{φ α:List Addr}{τ:Sl}{μ:Mem}{tg:Expr}{sc:Scope}{cl:List (Str×Addr)}{fp:List Addr}
noncomputable def yr (N:List Str)(σ:St)(fs:List Str):St:=fs.map λx=>(idx N x).bind λi=>(σ[i]?).join
noncomputable def ja (N:List Str):List Str->Option (List Nat)
 |[]=>some []
 |x::r=>match idx N x,ja N r with
  |some i,some is=>some (i::is)
  |_,_=>none
theorem xH:∀(n:Nat) {fs:List Nat} {τ:Sl},blk n fs τ=List.replicate n none++ua fs τ
 |0,_,_=>rfl
 |n+1,fs,τ=>by
  show none::blk n fs τ=_
  rw[xH n];rfl
theorem kj:∀{fs:List Nat} {τ:Sl},(ua fs τ).length=fs.length
 |[],_=>rfl
 |i::r,τ=>by show (ua r τ).length+1=_;rw[kj];rfl
theorem kl:∀{N xs:List Str} {fs:List Nat},ja N xs=some fs->fs.length=xs.length
 |N,[],fs,h=>by cases h;rfl
 |N,x::r,fs,h=>by
  simp only[ja] at h
  split at h
  ·rename_i i is h1 h2
   cases h
   simp[kl h2]
  ·cases h
theorem yI{N:List Str}{H:Hp}(sr:SRel D φ α H τ σ):∀{xs:List Str} {fs:List Nat},ja N xs=some fs->∀(j:Nat) (t:T),(ua fs τ)[j]?=some (some t)->∃v,(yr N σ xs)[j]?=some (some v)/\Den D φ α H t v
 |[],fs,h,j,t,e=>by cases h;simp[ua] at e
 |x::r,fs,h,j,t,e=>by
  simp only[ja] at h
  split at h
  ·rename_i i is h1 h2
   cases h
   cases j with
   |zero=>
    have e:some (ZR τ i)=some (some t):=e
    obtain⟨v,hv,d⟩:=sr.get (Option.some.inj e)
    exact⟨v,by simp[yr,h1,hv],d⟩
   |succ j=>
    have e:(ua is τ)[j]?=some (some t):=e
    obtain⟨v,hv,d⟩:=yI sr h2 j t e
    exact⟨v,by simpa[yr] using hv,d⟩
  ·cases h
theorem Jw{N:List Str}{H:Hp}{ns xs:List Str}{fs:List Nat}(sr:SRel D φ α H τ σ)(h:ja N xs=some fs):SRel D φ α H (blk ns.length fs τ) (ns.map (λ_=>none)++yr N σ xs):=by
 rw[xH]
 refine⟨by simp[kj,kl h,yr],λj t e=>?_⟩
 rcases Nat.lt_or_ge j ns.length with hj|hj
 ·rw[List.getElem?_append_left (by simpa using hj),List.getElem?_replicate] at e
  split at e<;>cases e
 ·rw[List.getElem?_append_right (by simpa using hj)] at e
  rw[List.getElem?_append_right (by simpa using hj)]
  simp only[List.length_map,List.length_replicate] at e ⊢
  exact yI sr h _ t e
theorem yQ(C:Ck D W Γ X k)(ok:CompOk Γ.N Γ.cel tg sc)(I2:Inv X pins σ H2 s2)(hf:∀b∈fp,yu X pins H2 b)(hfo:∀b∈fp,∃o,s2.heap.get? b=some o)(hcl:∀x c,cl.lookup x=some c->X.env.cells.lookup x=some c/\x∈frees sc)(hcl2:∀x∈frees sc,∃c,cl.lookup x=some c)
  {h1:Heap} (hns:h1.Ns (s2.heap.objs.size+1) (λ_=>none)) (hsb:Heap.SameBut (s2.heap.objs.size+1) ((s2.heap.push {cls:=.type "list",data:=.seq ([]:List Value).toArray}).push {cls:=.type "dict",data:=.dict #[]}) h1) {tk:Nat} :
  Inv X pins σ (upd H2 s2.heap.objs.size (.lst [])) {s2 with heap:=s2.heap.push {cls:=.type "list",data:=.seq ([]:List Value).toArray}}/\
  Inv (cxC X (z5 tg++frees sc) sc cl (s2.heap.objs.size+1) {s2 with heap:=s2.heap.push {cls:=.type "list",data:=.seq ([]:List Value).toArray}} (upd H2 s2.heap.objs.size (.lst [])) fp) []
   ((z5 tg).map (λ_=>none)++yr Γ.N σ (frees sc)) (upd H2 s2.heap.objs.size (.lst [])) {s2 with heap:=h1,toks:=tk}:=by
 have I3:Inv X pins σ (upd H2 s2.heap.objs.size (.lst [])) {s2 with heap:=s2.heap.push {cls:=.type "list",data:=.seq ([]:List Value).toArray}}:=I2.lnew (its:=[]) (t':=s2.toks) .nil (by simp)
 refine⟨I3,?_⟩
 generalize hA:s2.heap.push {cls:=.type "list",data:=.seq ([]:List Value).toArray}=HA at hsb I3 ⊢
 have szA:HA.objs.size=s2.heap.objs.size+1:=by rw[←hA,Heap.size_push]
 have old:∀b o,HA.get? b=some o->h1.get? b=some o:=λb o e=>hsb.extBut b o (by rw[←szA];exact Nat.ne_of_lt (Heap.lt_size e)) (Heap.get?_push_of_some _ e)
 have fresh:(upd H2 s2.heap.objs.size (.lst [])) (s2.heap.objs.size+1)=none:=by rw[←szA];exact I3.hok.fresh (Nat.le_refl _)
 have kindC:∀x∈frees sc,(cxC X (z5 tg++frees sc) sc cl (s2.heap.objs.size+1) {s2 with heap:=HA} (upd H2 s2.heap.objs.size (.lst [])) fp).env.kindOf x=some .cell\/(cxC X (z5 tg++frees sc) sc cl (s2.heap.objs.size+1) {s2 with heap:=HA} (upd H2 s2.heap.objs.size (.lst [])) fp).env.kindOf x=some .free:=λx hx=>by
  have:=zC (env:=X.env) (ok.fre x hx).2.1
  show (relabel sc X.env).names.lookup x=some .cell\/(relabel sc X.env).names.lookup x=some .free
  unfold relabel
  dsimp only
  rw[this]
  split
  ·exact .inl rfl
  ·exact .inr rfl
 refine⟨⟨I2.ok.mod,ok.kind,I2.ok.glob,I2.ok.blt,?_,?_,?_,λx c h=>absurd h (by simp[cxC]),I2.ok.hd,I2.ok.frames,.inl rfl,?_,?_,?_,?_,?_,?_,?_⟩,rfl,I2.bare,Un.kept old,⟨_,hns,?_⟩,?_,fresh,?_,λp hp=>absurd hp (by simp[cxC]),I3.hok.kept old,?_⟩
 ·show HA.objs.size<=s2.heap.objs.size+1
  omega
 ·intro x y c h1 h2
  exact I2.ok.inj x y c (hcl x c h1).1 (hcl y c h2).1
 ·intro x hx
  have hx':(relabel sc X.env).names.lookup x=some .cell\/(relabel sc X.env).names.lookup x=some .free:=hx
  by_cases hm:x∈frees sc
  ·exact hcl2 x hm
  ·exfalso
   cases q:sc.names.lookup x with
   |none=>
    have:(relabel sc X.env).names.lookup x=none:=by
     unfold relabel
     dsimp only
     rw[List.lookup_eq_none_iff] at q ⊢
     intro p hp
     obtain⟨p0,hp0,rfl⟩:=List.mem_map.mp hp
     have:=q p0 hp0
     try dsimp only
     split<;>exact this
    rw[this] at hx'
    rcases hx' with z|z<;>cases z
   |some kd=>
    have hr:=zC (env:=X.env) q
    have hx2:=hx'
    unfold relabel at hx2
    dsimp only at hx2
    rw[hr] at hx2
    have hmem:(x,kd)∈sc.names:=PySem.mem_of_lookup q
    by_cases hkf:kd=.free
    ·exact hm (wq.mpr ⟨_,hmem,rfl,hkf⟩)
    ·have e:(kd == NameKind.free)=false:=by simpa using hkf
     rw[e] at hx2
     simp only[Bool.false_and,Bool.false_eq_true,if_false,Option.some.injEq] at hx2
     rcases hx2 with z|z
     ·exact ok.noc _ hmem z
     ·exact hkf z
 ·intro b hb
  obtain⟨f0,f1,f2,f3,f4,f5⟩:=hf b hb
  obtain⟨o,ho⟩:=hfo b hb
  refine⟨?_,λx c h=>f4 x c (hcl x c h).1⟩
  show b≠s2.heap.objs.size+1
  exact Nat.ne_of_lt (Nat.lt_succ_of_lt (Heap.lt_size ho))
 ·intro b o e
  exact I3.bs b o e
 ·exact Nat.le_trans I3.ok.bsz I3.sz
 ·intro b o e hb
  obtain⟨f0,f1,f2,f3,f4,f5⟩:=hf b hb
  rcases f3 with z|z
  ·exact I2.ok.noex b o e z
  ·exact absurd (Nat.lt_of_lt_of_le (Heap.lt_size e) (Nat.le_trans I2.ok.bsz z)) (Nat.lt_irrefl _)
 ·intro b hb hfs
  obtain⟨f0,f1,f2,f3,f4,f5⟩:=hf b hb
  rcases List.mem_cons.mp (I2.stkSub b hfs) with z|z
  ·exact f1 z
  ·exact f2 z
 ·exact I3.stack
 ·intro b hb
  exact I3.stkFree b hb
 ·intro i x v hN hσ hv
  obtain⟨m,hn,hl⟩:=I2.loc
  by_cases hi:i<(z5 tg).length
  ·exfalso
   rw[List.getElem?_append_left (by simpa using hi),List.getElem?_map] at hσ
   cases q:(z5 tg)[i]? with
   |none=>rw[q] at hσ;cases hσ
   |some y=>rw[q] at hσ;cases hσ
  ·have hN':(frees sc)[i-(z5 tg).length]?=some x:=by
    have:(z5 tg++frees sc)[i]?=some x:=hN
    rwa[List.getElem?_append_right (by omega)] at this
   rw[List.getElem?_append_right (by simpa using hi)] at hσ
   simp only[List.length_map] at hσ
   unfold yr at hσ
   rw[List.getElem?_map,hN'] at hσ
   simp only[Option.map_some,Option.some.injEq] at hσ
   have hx:x∈frees sc:=List.mem_of_getElem? hN'
   obtain⟨⟨j,hj⟩,_,hcelm,_⟩:=ok.fre x hx
   rw[hj] at hσ
   simp only[Option.bind_some] at hσ
   cases u:σ[j]? with
   |none=>rw[u] at hσ;cases hσ
   |some o=>
    rw[u] at hσ
    simp only[Option.join_some] at hσ
    subst hσ
    obtain⟨w,rw',lk⟩:=hl j x v (by rw[C.hN];exact qz hj) u (C.vis x (qh hj))
    refine⟨w,rw',.inr ⟨kindC x hx,?_⟩⟩
    have kx:=C.cel x hcelm
    rcases lk with⟨z,_⟩|⟨_,c,hc,hcell⟩
    ·rw[z] at kx
     rcases kx with kx|kx<;>cases kx
    ·obtain⟨c',hc'⟩:=hcl2 x hx
     have:=(hcl x c' hc').1
     rw[hc] at this
     cases this
     refine⟨c,hc',?_⟩
     obtain⟨oc,ho,hd⟩:=hcell
     exact⟨oc,old c oc (by rw[←hA];exact Heap.get?_push_of_some _ ho),hd⟩
 ·intro x c h
  obtain⟨v,oc,ho,hd⟩:=I2.cell x c (hcl x c h).1
  exact⟨v,oc,old c oc (by rw[←hA];exact Heap.get?_push_of_some _ ho),hd⟩
 ·intro x c h
  exact (I3.freeC x c (hcl x c h).1).imp id λz=>⟨rfl,z.2⟩
 ·show _=(z5 tg++frees sc).length
  simp[yr]
end
section
variable {X:Cx}{D:DP}{W:XW}{Γ:Cn}{k:Nat}{pins:List (Addr×Obj)}{s:Shared}{σ:St}{H:Hp}{φ α:List Addr}{τ:Sl}{μ:Mem}{tg iter elt:Expr}{sc:Scope}{fp:List Addr}{pos pos':Pos}
noncomputable def inComp(Γ:Cn)(tg:Expr)(sc:Scope):Cn:={Γ with N:=z5 tg++frees sc,G:=(WC sc).filter Γ.U.contains,cel:=frees sc,lam:=none}
theorem JX{W':XW}{pn:List (Addr×Obj)}{xe:Value->Shared->Prop}(C:Ck D W Γ X k)(ok:CompOk Γ.N Γ.cel tg sc){cl:List (Str×Addr)}{C0:Addr}{s3:Shared}{H3:Hp}
  (hxe:∀e s,XP {(cxC X (z5 tg++frees sc) sc cl C0 s3 H3 fp) with pn:=pn,xe:=xe} W' e s->xe e s):Ck D W' (inComp Γ tg sc) {(cxC X (z5 tg++frees sc) sc cl C0 s3 H3 fp) with pn:=pn,xe:=xe} k:=by
 have kindC:∀x∈frees sc,(relabel sc X.env).names.lookup x=some .cell\/(relabel sc X.env).names.lookup x=some .free:=λx hx=>by
  have:=zC (env:=X.env) (ok.fre x hx).2.1
  unfold relabel
  dsimp only
  rw[this]
  split
  ·exact .inl rfl
  ·exact .inr rfl
 have other:∀{x kd},sc.names.lookup x=some kd->kd≠.free->(relabel sc X.env).names.lookup x=some kd:=λ{x kd} h hk=>by
  have:=zC (env:=X.env) h
  unfold relabel
  dsimp only
  rw[this]
  have e:(kd == NameKind.free)=false:=by simpa using hk
  simp[e]
 refine⟨C.hK,rfl,ok.nd,λx hx=>?_,λx hx=>?_,λx hx=>?_,λx hx=>?_,λx hx=>?_,C.glU,kindC,C.isi,C.fld,C.xcx,C.ocx,C.clv,C.clm,C.rom,C.rmh,hxe,?_,LamOk.no rfl,λh=>by cases h⟩
 ·rcases List.mem_append.mp hx with h|h
  ·exact .inl (other (ok.own x h).1 (by decide))
  ·rcases kindC x h with z|z
   ·exact .inr (.inl z)
   ·exact .inr (.inr z)
 ·rcases List.mem_append.mp hx with h|h
  ·exact (ok.own x h).2
  ·exact (ok.fre x h).2.2.2
 ·exact (C.glU x (by have:=(List.mem_filter.mp hx).2;simpa using this)).2
 ·exact other (ok.glb x (List.mem_filter.mp hx).1) (by decide)
 ·exact (C.glU x (by have:=(List.mem_filter.mp hx).2;simpa using this)).1
 ·obtain⟨e0,out,L,F⟩:=C.frm
  exact⟨e0,out,L,⟨F.stk,F.f0,F.fe⟩⟩
theorem Wu(ok:CompOk Γ.N Γ.cel tg sc){cl:List (Str×Addr)}{C0:Addr}{s3:Shared}{H3:Hp}:Sto (cxC X (z5 tg++frees sc) sc cl C0 s3 H3 fp) (z5 tg):=λx hx=>by
 have e:=zC (env:=X.env) (ok.own x hx).1
 have e':(relabel sc X.env).names.lookup x=some .local:=by
  unfold relabel
  dsimp only
  rw[e]
  rfl
 exact⟨.inl e',.inr e'⟩
theorem uD{M:List Str}{x:Str}:∀{L:List Str} {i:Nat},x∈L->idx (L++M) x=some i->i<L.length
 |[],_,h,_=>absurd h (by simp)
 |y::L,i,h,e=>by
  rw[List.cons_append] at e
  simp only[idx] at e
  split at e
  ·cases e;simp
  ·rename_i hn
   have hm:x∈L:=(List.mem_cons.mp h).resolve_left λz=>hn z.symm
   cases q:idx (L++M) x with
   |none=>rw[q] at e;cases e
   |some j=>rw[q] at e;cases e;simpa using uD hm q
theorem xa{n i:Nat}{t:Option T}{τ:Sl}(h:i<n):∀j,n<=j->(wU τ i t)[j]?=τ[j]?:=λj hj=>by
 rw[jf,List.getElem?_set_ne (by omega)]
theorem kW{L M:List Str}:∀{es:List Expr} {is:List Nat} {ts:List T} {τ τ':Sl},(∀e∈es,∀x p,e=.Name x p->x∈L)->idxs (L++M) es=some is->yg is ts τ=some τ'->∀j,L.length<=j->τ'[j]?=τ[j]?
 |[],is,ts,τ,τ',_,h0,h=>by
  cases h0
  cases ts with
  |nil=>cases h;exact λ_ _=>rfl
  |cons _ _=>cases h
 |e::es,is,ts,τ,τ',hn,h0,h=>by
  cases e with
  |Name x p0=>
   simp only[idxs] at h0
   split at h0
   ·rename_i i is' hi his
    cases h0
    cases ts with
    |nil=>cases h
    |cons t ts=>
     intro j hj
     rw[kW (λe he=>hn e (List.mem_cons_of_mem _ he)) his (show yg is' ts (wU τ i (some t))=some τ' from h) j hj]
     exact xa (uD (hn _ List.mem_cons_self x p0 rfl) hi) j hj
   ·cases h0
  |_=>simp[idxs] at h0
theorem Va{M:List Str}{e:Expr}{tgt:Tg}{t:T}{τ τ':Sl}(h0:qp (z5 e++M) e=some tgt)(h:asg tgt t τ=some τ'):∀j,(z5 e).length<=j->τ'[j]?=τ[j]?:=by
 cases e with
 |Name x p0=>
  simp only[qp] at h0
  cases q:idx (z5 (.Name x p0)++M) x with
  |none=>rw[q] at h0;cases h0
  |some i=>
   rw[q] at h0;cases h0
   cases (Option.some.inj h:wU τ i (some t)=τ')
   exact xa (uD (by simp[z5]) q)
 |Tuple es kk p0=>
  simp only[qp] at h0
  cases q:idxs (z5 (.Tuple es kk p0)++M) es with
  |none=>rw[q] at h0;cases h0
  |some is=>
   rw[q] at h0;cases h0
   cases t with
   |tup ts=>exact kW (λe he x p hx=>by subst hx;exact List.mem_filterMap.mpr ⟨_,he,rfl⟩) q h
   |_=>cases h
 |_=>simp[qp] at h0
noncomputable def uy (X:Cx)(D:DP)(W:XW):List Expr->List Dt->Prop
 |[],[]=>True
 |e::es,f::fs=>PT X e (rdT D W f)/\uy X D W es fs
 |_,_=>False
theorem V1{M:Model}{A:Around}{β:Type}{R:β->Mem->List Addr->Hp->Prop}{fe:De}{kk:Option T->Mem->RE β}{Qf:Bool->Shared->Prop}:∀{cs:List Expr} {fs:List Dt} {s:Shared} {H:Hp} {α:List Addr} {μ:Mem},uy X D W cs fs->Inv X pins σ H s->SRel D φ α H τ σ->MRel D φ α H μ->Post D W φ α H σ R ((j5 fs fe τ μ).bind kk)->
  (∀s' H' α' μ',Inv X pins σ H' s'->Stp α H α' H'->SRel D φ α' H' τ σ->MRel D φ α' H' μ'->Post D W φ α' H' σ R ((fe τ μ').bind λy μ1=>kk (some y) μ1)->Qf true s')->
  (∀s' H' α' μ',Inv X pins σ H' s'->Stp α H α' H'->SRel D φ α' H' τ σ->MRel D φ α' H' μ'->Post D W φ α' H' σ R (kk none μ')->Qf false s')->
  vF (model X.prog X.w) X.A X.env X.xe cs Qf s
 |[],[],s,H,α,μ,_,I,sr,mr,p,h1,_=>h1 s H α μ I (Stp.refl _ _) sr mr p
 |[],_::_,_,_,_,_,h,_,_,_,_,_,_=>h.elim
 |_::_,[],_,_,_,_,h,_,_,_,_,_,_=>h.elim
 |c::cs,f::fs,s,H,α,μ,h,I,sr,mr,p,h1,h2=>by
  have p:Post D W φ α H σ R ((f τ μ).bind λb μ1=>(RE.br b (j5 fs fe τ μ1) (.ok none μ1)).bind kk):=p
  refine thn (UM h.1 I sr mr p) ?_
  rintro b s1 ⟨H1,μ1,α1,I1,st1,sr1,mr1,p1⟩
  cases b with
  |true=>
   rw[if_pos rfl]
   exact V1 (M:=M) (A:=A) h.2 I1 sr1 mr1 p1 (λs' H' α' μ' a b=>h1 s' H' α' μ' a (st1.trans b)) (λs' H' α' μ' a b=>h2 s' H' α' μ' a (st1.trans b))
  |false=>
   rw[if_neg (by decide)]
   exact h2 s1 H1 α1 μ1 I1 st1 sr1 mr1 p1
end
section
variable {X:Cx}{D:DP}{W:XW}{Γ:Cn}{k:Nat}{pins:List (Addr×Obj)}{s:Shared}{σ:St}{H:Hp}{φ α:List Addr}{τ:Sl}{μ:Mem}{tg iter elt:Expr}{sc:Scope}{fp:List Addr}{pos pos':Pos}
theorem vW{M:Model}{A:Around}{env:Env}{E E':Value->Shared->Prop}{Q:Bool->Shared->Prop}(h:∀e s,E e s->E' e s):∀{cs:List Expr} {s:Shared},vF M A env E cs Q s->vF M A env E' cs Q s
 |[],_,q=>q
 |c::cs,s,q=>wpAny_mono q (λb s1 q1=>by
  cases b with
  |true=>rw[if_pos rfl] at q1 ⊢;exact vW h q1
  |false=>rw[if_neg (by decide)] at q1 ⊢;exact q1) h
theorem XTr.but{C0 x T:Addr}{cls fl:Value}{d:Option Addr}{h g:Heap}(t:XTr h x T cls d fl)(sb:Heap.SameBut C0 h g)(hx:x≠C0)(hT:T≠C0):XTr g x T cls d fl:=by
 obtain⟨oe,vs,a0,oT,ts,ho,hc,hd,hv0,hv1,hTx,hoT,hdT,h3⟩:=t
 exact⟨oe,vs,a0,oT,ts,sb.extBut x oe hx ho,hc,hd,hv0,hv1,hTx,sb.extBut T oT hT hoT,hdT,h3⟩
theorem jd{C0:Addr}{h':Heap}(I:Inv X pins σ H s)(xo:XOk X H C0)(hp:∀q∈pins,q.1≠C0)(sb:Heap.SameBut C0 s.heap h'):Inv X pins σ H {s with heap:=h'}:=
 yj (ch:=[C0]) I (λb hb=>by rw[List.mem_singleton.mp hb];exact⟨xo,hp⟩) (λb o _ hc e=>sb.extBut b o (λz=>hc (by simp[z])) e) λb o _ hc e=>⟨o.slots,sb.extBut b o (λz=>hc (by simp[z])) e⟩
inductive CompI(D:DP)(Xb:Cx)(tn:Nat->Heap->Prop)(fp φ1 α1:List Addr)(H2:Hp)(acc:Addr)(bl:Sl)(xs:List T)(P:Nat->List T->Mem->Prop)(n:Nat)(s':Shared):Prop where
 |mk (i:Nat) (σ':St) (H':Hp) (α':List Addr) (μ':Mem) (yT:List T) (yV:List V) (e:n=xs.length-i) (hi:i<=xs.length) (iv:Inv Xb [] σ' H' s') (t:tn i s'.heap) (fr:∀b∈fp,H' b=none) (st:Stp α1 H2 α' H') (mr:MRel D φ1 α' H' μ') (sr:SRel D φ1 α' H' bl σ') (ac:H' acc=some (.lst yV)) (dl:DenL D φ1 α' H' yT yV) (hy:yT.length<=i) (q:P i yT μ')
inductive CompX(D:DP)(φ1 α1:List Addr)(H2:Hp)(Z0:Xp)(cls:Value)(d:Option Addr)(_:St)(He:Hp):Prop where
 |mk (c:Nat) (fs':List (Nat×T)) (μ':Mem) (α':List Addr) (Cc:Addr) (z:Z0 c fs' μ') (st:Stp α1 H2 α' He) (m:MRel D φ1 α' He μ') (ad:D.adr c=some Cc) (e:cls=.ref Cc) (xd:XDict D φ1 α' He fs' d)
structure XbOk(Xb X:Cx)(env:Env)(N:List Str):Prop where
 pr:Xb.prog=X.prog
 w:Xb.w=X.w
 K:Xb.K=X.K
 A:Xb.A=X.A
 en:Xb.env=env
 ca:Xb.calm=X.calm
 st:Xb.stack=X.stack
 N:Xb.N=N
theorem vA{β:Type}{R:β->Mem->List Addr->Hp->Prop}{fi:Di}{fs:List Nat}{tgt:Tg}{ifs:List Expr}{cs:List Dt}{fe:De}{kk:List T->Mem->RE β}{use:Option (Value->Sem Unit)}{Qf:Value->Shared->Prop}
  (C:Ck D W Γ X k) (hc:Γ.calm=true) (ok:CompOk Γ.N Γ.cel tg sc) (hfs:ja Γ.N (frees sc)=some fs) (htg:qp (z5 tg++frees sc) tg=some tgt) (hi:PI X tg iter (rdI D W fi)) (hel:∀X' W',Ck D W' (inComp Γ tg sc) X' k->PE X' elt (rdE D W' fe)) (hts:∀X' W',Ck D W' (inComp Γ tg sc) X' k->uy X' D W' ifs cs) (hs:∀x,foldedSetIterable iter X.env x=pure x)
  (I:Inv X pins σ H s) (sr:SRel D φ α H τ σ) (mr:MRel D φ α H μ)
  (p:Post D W φ α H σ R ((fi τ μ).go λxs o μ1=>.grd (xs.length<=room) ((zx tgt (j5 cs fe) o (blk (z5 tg).length fs τ) xs μ1).bind kk)))
  (Kq:∀acc C0 s' α1 H1 H' α' ys vs μ',Inv X pins σ H' s'->Stp α H α1 H1->Stp α1 H1 α' H'->H1 acc=none->acc∉φ->acc∉α1->SRel D (φ++[acc]) α' H' τ σ->MRel D (φ++[acc]) α' H' μ'->H' acc=some (.lst vs)->DenL D (φ++[acc]) α' H' ys vs->Post D W φ α1 H1 σ R (kk ys μ')->XOk X H' C0->(∀q∈pins,q.1≠C0)->(∃m,s'.heap.Ns C0 m)->
   (match use with
    |none=>∃m,s'.heap.Ns C0 m/\∀g,Heap.SameBut C0 s'.heap g->Qf (.ref acc) {s' with heap:=g}
    |some u=>wpAny (model X.prog X.w) X.A (u (.ref acc)) (λ_ t2=>∃m,t2.heap.Ns C0 m/\∀g,Heap.SameBut C0 t2.heap g->Qf .none {t2 with heap:=g}) X.xe s')) :
  wpAny (model X.prog X.w) X.A (comprehension (.ListComp elt [⟨tg,iter,ifs,0⟩] sc pos) sc X.env pos' (newList []) false (eval iter X.env) use) Qf X.xe s:=by
 obtain⟨cl,hclos,hcl,hcl2⟩:=uS (sc:=sc) (env:=X.env) λx hx=>I.ok.has x (C.cel x (ok.fre x hx).2.2.1)
 refine Kg (use:=use) rfl hs hclos ok.kind ok.lcl (thn (hi pins s σ H (λJ H2=>∃xs o μ1 α1 Ok,ItV D J Ok xs/\OkI D φ α1 H2 xs o Ok/\o μ1/\Stp α H α1 H2/\MRel D φ α1 H2 μ1/\
  Post D W φ α1 H2 σ R (.grd (xs.length<=room) ((zx tgt (j5 cs fe) o (blk (z5 tg).length fs τ) xs μ1).bind kk))) I
  ⟨φ,α,τ,μ,sr,mr,(show Post D W φ α H σ R ((fi τ μ).re.bind λpr μ1=>.grd (pr.1.length<=room) ((zx tgt (j5 cs fe) pr.2 (blk (z5 tg).length fs τ) pr.1 μ1).bind kk)) from p).bind.mono λpr μ' α' H' st m q J Ok iv okk lv=>⟨pr.1,pr.2,μ',α',Ok,iv,okk,lv,st,m,q⟩⟩) λv s1 h1=>thn h1 λitv s2 h2=>?_)
 obtain⟨it,fp,tn,J,H2,rfl,I2,Tn,tn0,f2,xs,Lv,μ1,α1,Ok,iv,okk,lv1,st1,mr1,p1⟩:=h2
 obtain⟨hroom,K0,Z0,q0,hk0,hz0⟩:=p1.grd
 have fo:∀b∈fp,∃o,s2.heap.get? b=some o:=λb hb=>let ⟨o,e,_⟩:=Tn.obj 0 _ tn0 b hb;⟨o,e⟩
 refine wpAny_newObj_type (wpAny_newFunctionEnv ok.noc (by intro y hy;simp at hy) (λh₁ hns₁ hsb₁=>?_) ok.kind)
 have sz:(s2.heap.push {cls:=.type "list",dict:=none,data:=.seq ([]:List Value).toArray}).objs.size=s2.heap.objs.size+1:=Heap.size_push ..
 dsimp only at hns₁ hsb₁ ⊢
 rw[sz] at hns₁ hsb₁ ⊢
 have hns:h₁.Ns (s2.heap.objs.size+1) (λ_=>none):=by simpa using hns₁
 obtain⟨I3,J0⟩:=yQ (tk:=s2.toks+([]:List (Str×Value)).length) C ok I2 f2 fo hcl hcl2 hns hsb₁
 have hD:H2 s2.heap.objs.size=none:=I2.hok.fresh (Nat.le_refl _)
 have nph:s2.heap.objs.size∉φ:=zf mr1 hD
 have nal:s2.heap.objs.size∉α1:=zh mr1 hD
 have old:∀b o,s2.heap.get? b=some o->h₁.get? b=some o:=λb o e=>hsb₁.extBut b o (Nat.ne_of_lt (Nat.lt_succ_of_lt (Heap.lt_size e))) (Heap.get?_push_of_some _ (Heap.get?_push_of_some _ e))
 have n3:({s2 with heap:=s2.heap.push {cls:=.type "list",data:=.seq ([]:List Value).toArray}}:Shared).heap.get? (s2.heap.objs.size+1)=none:=Heap.get?_none_of_le (by show (s2.heap.push _).objs.size<=_;rw[Heap.size_push];exact Nat.le_refl _)
 have xo0:=wg I3 n3
 have pn3:∀q∈pins,q.1≠s2.heap.objs.size+1:=λq hq z=>by
  have:=(I3.pin q (List.mem_append_right _ hq)).1
  rw[z,n3] at this;cases this
 generalize hS3:({s2 with heap:=s2.heap.push {cls:=.type "list",data:=.seq ([]:List Value).toArray}}:Shared)=S3 at I3 J0 n3
 generalize hH3:upd H2 s2.heap.objs.size (.lst [])=H3 at I3 J0 xo0
 generalize hXb:cxC X (z5 tg++frees sc) sc cl (s2.heap.objs.size+1) S3 H3 fp=Xb at J0
 have hXb':XbOk Xb X (compEnvC sc cl (s2.heap.objs.size+1) X.env) (z5 tg++frees sc):=by subst hXb;exact⟨rfl,rfl,rfl,rfl,rfl,rfl,rfl,rfl⟩
 have sto:Sto Xb (z5 tg):=by subst hXb;exact Wu (Γ:=Γ) ok
 have cm:Xb.calm=true:=by rw[hXb'.ca];exact C.clm hc
 have back:∀{s4:Shared} {σ4:St} {H4:Hp} {pp:List (Addr×Obj)},Inv Xb pp σ4 H4 s4->Inv X pins σ H4 s4:=λ{s4 σ4 H4 pp} I4=>by
  subst hXb
  exact I3.call' (ch:=fp) I4.os I4.base I4.hok I4.bare λb hb=>by
   obtain⟨f0,f1,f2',f3,f4,f5⟩:=f2 b hb
   exact⟨f3,f1,f4,f5⟩
 have fpk:∀{H':Hp},(∀b∈fp,H' b=none)->∀b∈fp,yu Xb [] H' b:=λhn b hb=>by
  obtain⟨f0,f1,f2',f3,f4,f5⟩:=f2 b hb
  obtain⟨o,ho⟩:=fo b hb
  subst hXb
  refine⟨hn b hb,Nat.ne_of_lt (Nat.lt_succ_of_lt (Heap.lt_size ho)),λz=>?_,.inl hb,λx c h=>f4 x c (hcl x c h).1,λq hq=>absurd hq (by simp[cxC])⟩
  rcases List.mem_cons.mp (I2.stkSub b z) with z|z
  ·exact f1 z
  ·exact f2' z
 have TnI:=Tn.item Xb hXb'.pr hXb'.w hXb'.K cm
 have TnD:=Tn.done Xb hXb'.pr hXb'.w hXb'.K cm
 obtain⟨e0,out,L,F⟩:=C.frm
 have ce:(compEnvC sc cl (s2.heap.objs.size+1) X.env).frame=some L:=F.fe
 obtain⟨NB,hNB⟩:∃NB:Value->Shared->Prop,NB=notedBy (model X.prog X.w) X.A (compEnvC sc cl (s2.heap.objs.size+1) X.env) (λx s'=>xu (model X.prog X.w) X.A X.xe use Qf (.ref s2.heap.objs.size) (compEnvC sc cl (s2.heap.objs.size+1) X.env) (.error x) s'):=⟨_,rfl⟩
 have leave:∀{pp:List (Addr×Obj)} {e:Value} {t:Shared},(∀b∈fp,∃o,(b,o)∈pp)->XP (Cx.pin' Xb pp) (CompX D (φ++[s2.heap.objs.size]) α1 H2 Z0) e t->
   NB e t:=λ{pp e t} hpp xp=>by
  have Fb:Frm (Cx.pin' Xb pp) e0 out L:=⟨by show Xb.stack=_;rw[hXb'.st];exact F.stk,F.f0,by show Xb.env.frame=_;rw[hXb'.en];exact ce⟩
  have hfr:X.A.frames=some (Cx.pin' Xb pp).stack:=by show _=some Xb.stack;rw[hXb'.st];exact I.ok.frames
  rw[hNB]
  unfold notedBy
  rw[show compEnvC sc cl (s2.heap.objs.size+1) X.env=(Cx.pin' Xb pp).env from hXb'.en.symm]
  refine ji (X:=Cx.pin' Xb pp) Fb hfr xp λx cls d σe He T h' ee Ie ox oT tr w=>?_
  subst ee
  have en:(Cx.pin' Xb pp).env=compEnvC sc cl (s2.heap.objs.size+1) X.env:=hXb'.en
  rw[en]
  have Iu:Inv Xb pp σe He {t with heap:=h'}:=zz Ie
  have IX:=back Iu
  have nw:∀b,XOk (Cx.pin' Xb pp) He b->XOk X He b/\b≠s2.heap.objs.size+1:=λb o=>by
   have hb:b∉fp:=λz=>by
    obtain⟨ob,hm⟩:=hpp b z
    exact o.pin (b,ob) (List.mem_append_right _ hm) rfl
   have h3:S3.heap.get? b=none:=by
    have:=o.new
    subst hXb
    exact this.resolve_left hb
   have q:=wg I3 h3
   refine⟨⟨o.free,q.loc,q.nfs,q.new,q.cel,q.pin⟩,?_⟩
   have:=o.loc
   have e2:(Cx.pin' Xb pp).env.locals=s2.heap.objs.size+1:=by rw[en];rfl
   rw[e2] at this;exact this
  have xoC:XOk X He (s2.heap.objs.size+1):=⟨by have:=Iu.free;rw[hXb'.en] at this;exact this,xo0.loc,xo0.nfs,xo0.new,xo0.cel,xo0.pin⟩
  obtain⟨m,hm,_⟩:=Iu.loc
  rw[hXb'.en] at hm
  refine⟨m,hm,λg sb=>?_⟩
  have sb':Heap.SameBut (s2.heap.objs.size+1) h' g:=sb
  have Ig:Inv X [] σ He {t with heap:=g}:=(jd IX xoC pn3 sb').pins_of λp hp=>absurd hp (by simp)
  have tg':=tr.but sb' (nw x ox).2 (nw T oT).2
  unfold PySem.passOn
  obtain⟨oe,vs',a0,oT',ts,ho,hcc,hd,hv0,hv1,hT,hoT,hdT,h3⟩:=id tg'
  refine wpAny_bind (wpAny_field ho hd hv1 ?_)
  rw[if_neg (show ¬((Value.ref T == Value.none)=true) from by simp)]
  have go:∀{t2:Shared},XP X W (.ref x) t2->wpAny (model X.prog X.w) X.A (throw (Value.ref x):Sem Value) (λ_ _=>False) X.xe t2:=λ{t2} xp=>wpAny_throw (C.xe _ _ xp)
  have fin:wpAny (model X.prog X.w) X.A (setFlight (.ref x) (compEnvC sc cl (s2.heap.objs.size+1) X.env).frame) (λ_ t2=>XP X W (.ref x) t2) X.xe {t with heap:=g}:=by
   refine zY (s:={t with heap:=g}) Ig (nw x ox).1 (nw T oT).1 tg' λh4 I4 tr4=>?_
   obtain⟨c,fs',μ',α',Cc,z,stp,m',ad,rfl,xd⟩:=w
   refine⟨x,.ref Cc,d,σ,He,some T,rawInt L,rfl,I4,(nw x ox).1,λt ht=>?_,?_,.inr ⟨L,F.fe,rfl⟩,?_⟩
   ·have:t=T:=by simpa using ht
    rw[this];exact (nw T oT).1
   ·rw[ce] at tr4;exact tr4
   ·refine hz0 c fs' μ' z α' He Cc d stp (m'.lk zR (λa ha=>⟨rfl,λz=>m'.dis a ha (List.mem_append_left _ z)⟩) λb hb=>m'.phi b (List.mem_append_left _ hb)) ad (xd.lk zR)
  first
   |exact wpAny_bind (thn fin λ_ t2 xp=>go xp)
   |exact wpAny_bind (wpAny_pure (wpAny_bind (thn fin λ_ t2 xp=>go xp)))
 have loop:codeAny (model X.prog X.w) X.A (.compLoop (.ListComp elt [⟨tg,iter,ifs,0⟩] sc pos) 0 (.ref it) (.ref s2.heap.objs.size) (compEnvC sc cl (s2.heap.objs.size+1) X.env)) (xu (model X.prog X.w) X.A X.xe use Qf (.ref s2.heap.objs.size) (compEnvC sc cl (s2.heap.objs.size+1) X.env)) {s2 with heap:=h₁,toks:=s2.toks+([]:List (Str×Value)).length}:=by
  obtain⟨LI,hLI⟩:∃LI:Nat->Shared->Prop,LI=CompI D Xb tn fp (φ++[s2.heap.objs.size]) α1 H2 s2.heap.objs.size (blk (z5 tg).length fs τ) xs (λi yT μ'=>Lv μ'/\zx tgt (j5 cs fe) Lv (blk (z5 tg).length fs τ) (xs.drop i) μ' (λrest μ2=>kk (yT++rest) μ2 K0 Z0) Z0):=⟨_,rfl⟩
  refine ZP LI ?_ xs.length ?_
  ·intro n s' h0
   rw[hLI] at h0
   obtain⟨i,σ',H',α',μ',yT,yV,rfl,hi',Iv,tni,fr,stp,mr',sr',hacc,dly,hyl,lv',hcmi⟩:=h0
   have okH:Ok (φ++[s2.heap.objs.size]) α' H':=okk _ α' H' μ' ((vI hD).trans stp.lk) mr' lv'
   by_cases hlt:i<xs.length
   ·have TI:=TnI i [] s' σ' H' (λ_ _=>False) Iv (fpk fr) tni (iv.go i _ _ H' okH (by omega))
    rw[hXb'.A] at TI
    refine thn TI ?_
    rintro r s4 ⟨u,rfl,h4⟩
    refine thn h4 ?_
    rintro _ s5 ⟨x,H5,I5,r5,y5,tn5,fr5⟩
    obtain⟨sm5,dx'⟩:=iv.yld i _ _ H' x H5 xs[i] okH (by simp[hlt]) y5
    have stp:=stp.trans (Stp.new (α:=α') sm5)
    have sr':=sr'.step (Stp.new (α:=α') sm5)
    have mr':=mr'.new sm5
    have hacc:=sm5 _ _ hacc
    have dly:=dly.step (Stp.new (α:=α') sm5)
    have hdr:xs.drop i=xs[i]::xs.drop (i+1):=List.drop_eq_getElem_cons hlt
    rw[hdr] at hcmi
    obtain⟨τ',ha,hfe⟩:=hcmi
    have I5':=I5.pinned (fpk fr5) (Tn.obj _ _ tn5)
    have A6:=uv (S:=z5 tg) (X:=Xb) hXb'.N ok.nd sto cm (λx h=>h) htg ha I5' sr' dx' r5
    rw[hXb'.pr,hXb'.w,hXb'.A,hXb'.en,show Xb.xe=λ_ _=>False by subst hXb;rfl] at A6
    refine thn A6 ?_
    rintro _ s6 ⟨σ6,I6,sr6⟩
    generalize hpp:([]++jl fp s5.heap:List (Addr×Obj))=pp at I6
    have hppm:∀b∈fp,∃o,(b,o)∈pp:=λb hb=>by
     obtain⟨o,e,_⟩:=Tn.obj _ _ tn5 b hb
     exact⟨o,by rw[←hpp];exact List.mem_append_right _ (qI hb e)⟩
    generalize hW1:CompX D (φ++[s2.heap.objs.size]) α1 H2 Z0=W1
    have lv:∀e t,XP (Cx.pin' Xb pp) W1 e t->NB e t:=λe t xp=>by
     rw[←hW1] at xp;exact leave hppm xp
    have ck:Ck D W1 (inComp Γ tg sc) ((Cx.pin' Xb pp).wish (XP (Cx.pin' Xb pp) W1)) k:=by
     subst hXb
     exact JX (W':=W1) (pn:=[]++pp) (xe:=XP (Cx.pin' (cxC X (z5 tg++frees sc) sc cl (s2.heap.objs.size+1) S3 H3 fp) pp) W1) C ok λe s p=>vJ (X:=Cx.pin' (cxC X (z5 tg++frees sc) sc cl (s2.heap.objs.size+1) S3 H3 fp) pp) p
    have I6':Inv ((Cx.pin' Xb pp).wish (XP (Cx.pin' Xb pp) W1)) [] σ6 H5 s6:=(y2 I6).wish _
    have next:∀{s7:Shared} {H7:Hp} {α7:List Addr} {μ7:Mem} {yT':List T} {yV':List V},Inv ((Cx.pin' Xb pp).wish (XP (Cx.pin' Xb pp) W1)) [] σ6 H7 s7->Stp α1 H2 α7 H7->MRel D (φ++[s2.heap.objs.size]) α7 H7 μ7->SRel D (φ++[s2.heap.objs.size]) α7 H7 τ' σ6->H7 s2.heap.objs.size=some (.lst yV')->DenL D (φ++[s2.heap.objs.size]) α7 H7 yT' yV'->yT'.length<=i+1->
      Lv μ7->zx tgt (j5 cs fe) Lv (blk (z5 tg).length fs τ) (xs.drop (i+1)) μ7 (λrest μ2=>kk (yT'++rest) μ2 K0 Z0) Z0->
      ∃m,m<xs.length-i/\LI m s7:=λ{s7 H7 α7 μ7 yT' yV'} I7 st7 m7 sr7 ac7 dy7 hy7 lv7 q7=>by
     have I7u:Inv Xb pp σ6 H7 s7:=zz I7.unwish
     have pinned:∀b∈fp,∃o,s5.heap.get? b=some o/\s7.heap.get? b=some o/\H7 b=none:=λb hb=>by
      obtain⟨o,e,_⟩:=Tn.obj _ _ tn5 b hb
      have:=I7u.pin (b,o) (List.mem_append_right _ (by rw[←hpp];exact List.mem_append_right _ (qI hb e)))
      exact⟨o,e,this.1,this.2.1⟩
     refine⟨xs.length-(i+1),by omega,?_⟩
     rw[hLI]
     refine⟨i+1,σ6,H7,α7,μ7,yT',yV',rfl,hlt,I7u.pins_of (λp hp=>absurd hp (by simp)),Tn.keep _ _ _ tn5 (λb hb o e=>?_),λb hb=>(pinned b hb).choose_spec.2.2,st7,m7,⟨?_,λj t e=>?_⟩,ac7,dy7,hy7,lv7,q7⟩
     ·obtain⟨o',e1,e2,_⟩:=pinned b hb
      rw[e] at e1;cases e1;exact e2
     ·have:=I7u.len
      rw[hXb'.N] at this
      rw[xH,this]
      simp[kj,kl hfs]
     ·have hj:(z5 tg).length<=j:=by
       rcases Nat.lt_or_ge j (z5 tg).length with h|h
       ·rw[xH,List.getElem?_append_left (by simpa using h),List.getElem?_replicate] at e
        split at e<;>cases e
       ·exact h
      exact sr7.val j t (by rw[Va htg ha j hj];exact e)
    have P0:Post D W1 (φ++[s2.heap.objs.size]) α' H5 σ6 (λ(o:Option T) μ7 α7 H7=>match o with
      |some y=>∀v,Den D (φ++[s2.heap.objs.size]) α7 H7 y v->Lv μ7/\zx tgt (j5 cs fe) Lv (blk (z5 tg).length fs τ) (xs.drop (i+1)) μ7 (λys μ2=>kk (yT++y::ys) μ2 K0 Z0) Z0
      |none=>Lv μ7/\zx tgt (j5 cs fe) Lv (blk (z5 tg).length fs τ) (xs.drop (i+1)) μ7 (λys μ2=>kk (yT++ys) μ2 K0 Z0) Z0) ((j5 cs fe τ' μ').bind λo μ7=>RE.ok o μ7):=by
     refine⟨_,Z0,hfe,λo μ7 e α7 H7 st m=>?_,λc fs' μ7 z α7 H7 Cc d st m ad xd=>?_⟩
     ·cases o with
      |some y=>exact λv _=>e
      |none=>exact e
     ·rw[←hW1];exact⟨c,fs',μ7,α7,Cc,z,stp.trans st,m,ad,rfl,xd⟩
    have ep:((Cx.pin' Xb pp).wish (XP (Cx.pin' Xb pp) W1)).prog=X.prog:=hXb'.pr
    have ew:((Cx.pin' Xb pp).wish (XP (Cx.pin' Xb pp) W1)).w=X.w:=hXb'.w
    have eA:((Cx.pin' Xb pp).wish (XP (Cx.pin' Xb pp) W1)).A=X.A:=hXb'.A
    have ee:((Cx.pin' Xb pp).wish (XP (Cx.pin' Xb pp) W1)).env=compEnvC sc cl (s2.heap.objs.size+1) X.env:=hXb'.en
    have nD:s2.heap.objs.size∉α':=λz=>mr'.dis _ z (by simp)
    have G:=V1 (X:=(Cx.pin' Xb pp).wish (XP (Cx.pin' Xb pp) W1)) (M:=model X.prog X.w) (A:=X.A) (Qf:=λb s₄=>if b=true then wpAny (model X.prog X.w) X.A (eval elt (compEnvC sc cl (s2.heap.objs.size+1) X.env)) (λx s₅=>wpAny (model X.prog X.w) X.A (call (.builtin "list.append") [.ref s2.heap.objs.size,x]) (λ_ s₆=>∃m,m<xs.length-i/\LI m s₆) (λ_ _=>False) s₅) NB s₄ else ∃m,m<xs.length-i/\LI m s₄) (hts _ W1 ck) I6' sr6 mr' P0 (λs7 H7 α7 μ7 I7 st7 sr7 m7 p7=>?_) (λs7 H7 α7 μ7 I7 st7 sr7 m7 p7=>?_)
    ·rw[ep,ew,eA,ee] at G
     rw[←hNB]
     exact vW (λe t h=>lv e t h) G
    ·rw[if_pos rfl]
     have E7:=sub (hel _ W1 ck) I7 sr7 m7 p7
     rw[ep,ew,eA,ee] at E7
     refine wpAny_mono E7 (λx8 s8 h8=>?_) λe t h=>lv e t h
     obtain⟨v8,H8,y8,μ8,α8,I8,r8,st8,sr8,m8,d8,p8⟩:=h8
     have q8:=p8.ok (Stp.refl _ _) m8 v8 d8
     have acc8:H8 s2.heap.objs.size=some (.lst yV):=st8.keep _ _ (λz=>m7.dis _ z (by simp)) (st7.keep _ _ nD hacc)
     have hyv:yV.length<=i:=by rw[←dly.length];exact hyl
     have AP:=ZQ (X:=Cx.pin' Xb pp) [] s8 σ6 H8 (.ref s2.heap.objs.size) [v8] (.ref s2.heap.objs.size) [x8] (λ_ H9=>H9=upd H8 s2.heap.objs.size (.lst (yV++[v8]))) I8.unwish rfl (.cons r8 .nil) ⟨_,yV,v8,rfl,rfl,acc8,Nat.lt_of_le_of_lt hyv (Nat.lt_of_lt_of_le hlt (zv hroom)),rfl⟩
     rw[show (Cx.pin' Xb pp).prog=X.prog from hXb'.pr,show (Cx.pin' Xb pp).w=X.w from hXb'.w,show (Cx.pin' Xb pp).A=X.A from hXb'.A,show (Cx.pin' Xb pp).xe=λ_ _=>False by subst hXb;rfl] at AP
     refine thn AP ?_
     rintro x9 s9 ⟨v9,H9,I9,r9,rfl⟩
     have inphi:s2.heap.objs.size∈φ++[s2.heap.objs.size]:=by simp
     have t:=(stp.trans st7).trans st8
     have one:DenL D (φ++[s2.heap.objs.size]) α8 H8 [y8] [v8]:=⟨v8,[],rfl,d8,rfl⟩
     refine next (I9.wish _) ⟨t.ext,λb o n e=>?_,λb e=>t.live b ?_⟩ (m8.lk (vn inphi) (λa ha'=>⟨by rw[z7 (λz=>m8.dis a ha' (by rw[z];simp))],m8.dis a ha'⟩) (λb hb=>?_)) (sr8.lk (vn inphi)) z8 ((((dly.step st7).step st8).append one).lk (vn inphi)) (by simp;omega) q8.1 (by simpa using q8.2)
     ·rw[z7 (zA e hD)];exact t.keep b o n e
     ·by_cases hb:b=s2.heap.objs.size
      ·rw[hb,z8] at e;cases e
      ·rw[z7 hb] at e;exact e
     ·by_cases hb':b=s2.heap.objs.size
      ·rw[hb',z8];exact⟨_,rfl,rfl⟩
      ·rw[z7 hb'];exact m8.phi b hb
    ·rw[if_neg (by decide)]
     exact next I7 (stp.trans st7) m7 sr7 (st7.keep _ _ nD hacc) (dly.step st7) (by omega) (p7.ok (Stp.refl _ _) m7).1 (p7.ok (Stp.refl _ _) m7).2
   ·have hie:i=xs.length:=by omega
    have TD:=TnD i [] s' σ' H' (λ_ _=>False) Iv (fpk fr) tni (by rw[hie];exact iv.stop _ _ H' okH)
    rw[hXb'.A] at TD
    refine thn TD ?_
    rintro r s4 ⟨rfl,I4⟩
    have hdr:xs.drop i=[]:=by rw[hie];simp
    rw[hdr] at hcmi
    have q4:kk yT μ' K0 Z0:=by
     have:kk (yT++[]) μ' K0 Z0:=hcmi
     simpa using this
    have I5:=back I4
    obtain⟨m,hm,_⟩:=I4.loc
    rw[hXb'.en] at hm
    exact Kq s2.heap.objs.size (s2.heap.objs.size+1) s4 α1 H2 H' α' yT yV μ' I5 st1 stp hD nph nal (((sr.step st1).lk (vI hD)).step stp) mr' hacc dly ⟨K0,Z0,q4,hk0,hz0⟩ ⟨by have:=I4.free;rw[hXb'.en] at this;exact this,xo0.loc,xo0.nfs,xo0.new,xo0.cel,xo0.pin⟩ pn3 ⟨m,hm⟩
  ·have sm:wA H2 H3:=by rw[←hH3];exact zb hD
   rw[hLI]
   refine⟨0,_,_,α1,μ1,[],[],rfl,Nat.zero_le _,J0,Tn.keep _ _ _ tn0 λb hb o e=>old b o e,λb hb=>?_,Stp.new sm,?_,?_,by rw[←hH3];exact z8,rfl,Nat.le_refl _,lv1,by simpa using q0⟩
   ·obtain⟨o,ho⟩:=fo b hb
    rw[←hH3,z7 (Nat.ne_of_lt (Heap.lt_size ho))]
    exact (f2 b hb).1
   ·refine mr1.lk (jA hD sm) (λa ha=>?_) λb hb=>?_
    ·have na:a≠s2.heap.objs.size:=λz=>nal (z▸ha)
     exact⟨by rw[←hH3];exact z7 na,λz=>(List.mem_append.mp z).elim (mr1.dis a ha) λz=>na (List.mem_singleton.mp z)⟩
    ·rcases List.mem_append.mp hb with z|z
     ·obtain⟨o,e,n⟩:=mr1.phi b z
      exact⟨o,sm b o e,n⟩
     ·rw[List.mem_singleton.mp z,←hH3,z8];exact⟨_,rfl,rfl⟩
   ·exact (Jw (sr.step st1) hfs).lk (jA hD sm)
 exact codeAny_compStart_list loop (wpAny_mono (Tn.self _ 0 _ _ _ (Tn.keep _ _ _ tn0 λb hb o e=>old b o e) loop) (λ_ _ q=>q) λ_ _ q=>q)
end
section
variable {X:Cx}{D:DP}{W:XW}{Γ:Cn}{k:Nat}{pins:List (Addr×Obj)}{s:Shared}{σ:St}{H:Hp}{φ α:List Addr}{τ:Sl}{μ:Mem}{tg iter elt:Expr}{sc:Scope}{pos:Pos}{fi:Di}{fs:List Nat}{tgt:Tg}{ifs:List Expr}{cs:List Dt}{fe:De}
theorem y1{β:Type}{R:β->Mem->List Addr->Hp->Prop}{kk:T->Mem->RE β}{acc:Addr}{α1 α':List Addr}{H1 H':Hp}{ys:List T}{vs:List V}{μ':Mem}(st:Stp α1 H1 α' H')(hn:H1 acc=none)(nph:acc∉φ)(mr:MRel D (φ++[acc]) α' H' μ')(ha:H' acc=some (.lst vs))(dl:DenL D (φ++[acc]) α' H' ys vs)(p:Post D W φ α1 H1 σ R (kk (.lst ys) μ')) :
  MRel D φ α' H' μ'/\Den D φ α' H' (.lst ys) (.ref acc)/\Post D W φ α' H' σ R (kk (.lst ys) μ'):=
 ⟨mr.lk zR (λa ha=>⟨rfl,λz=>mr.dis a ha (List.mem_append_left _ z)⟩) λb hb=>mr.phi b (List.mem_append_left _ hb),⟨acc,vs,rfl,nph,λz=>mr.dis _ z (by simp),.inl ha,dl.lk zR⟩,p.step st⟩
theorem wR{acc:Addr}{α':List Addr}{H':Hp}:Lk (φ++[acc]) α' H' φ (α'++[acc]) H':=⟨λa o n1 n2 e=>⟨λz=>n1 (List.mem_append_left _ z),λz=>(List.mem_append.mp z).elim n2 λz=>n1 (by rw[List.mem_singleton.mp z];simp),e⟩,λi a e=>by
 rw[List.getElem?_append_left (List.getElem?_eq_some_iff.mp e).1];exact e⟩
theorem xf{acc:Addr}{α1 α':List Addr}{H1 H':Hp}{ys:List T}{vs:List V}{μ':Mem}(st:Stp α1 H1 α' H')(hn:H1 acc=none)(nph:acc∉φ)(mr:MRel D (φ++[acc]) α' H' μ')(ha:H' acc=some (.lst vs))(dl:DenL D (φ++[acc]) α' H' ys vs) :
  Stp α1 H1 (α'++[acc]) H'/\MRel D φ (α'++[acc]) H' (μ'++[.lst ys])/\Den D φ (α'++[acc]) H' (.mut μ'.length) (.ref acc):=by
 have nal:acc∉α':=λz=>mr.dis _ z (by simp)
 refine⟨?_,⟨by simp[mr.len],?_,λb hb=>?_,λb hb=>mr.phi b (List.mem_append_left _ hb),λi a o e1 e2=>?_⟩,acc,by rw[←mr.len,List.getElem?_append_right (Nat.le_refl _)];simp,rfl⟩
 ·obtain⟨β,e,hβ⟩:=st.ext
  exact⟨⟨β++[acc],by rw[e];simp,λb hb=>(List.mem_append.mp hb).elim (hβ b) λz=>by rw[List.mem_singleton.mp z];exact hn⟩,st.keep,st.live⟩
 ·rw[List.nodup_append]
  exact⟨mr.nd,by simp,λa ha b hb z=>nal (by rw[List.mem_singleton.mp hb] at z;exact z▸ha)⟩
 ·rcases List.mem_append.mp hb with h|h
  ·exact λz=>mr.dis b h (List.mem_append_left _ z)
  ·rw[List.mem_singleton.mp h];exact nph
 ·by_cases hi:i<α'.length
  ·rw[List.getElem?_append_left hi] at e1
   rw[List.getElem?_append_left (by rw[←mr.len];exact hi)] at e2
   exact (mr.ob i a o e1 e2).lk wR rfl
  ·have hl:=mr.len
   rw[List.getElem?_append_right (by omega)] at e1 e2
   have hi':i-α'.length=0:=by
    by_cases z:i-α'.length=0
    ·exact z
    ·rw[List.getElem?_eq_none (by simp;omega)] at e1;cases e1
   have hi2:i-μ'.length=0:=by omega
   rw[hi'] at e1
   rw[hi2] at e2
   have e1:some acc=some a:=e1
   have e2:some (MO.lst ys)=some o:=e2
   cases e1;cases e2
   exact⟨vs,ha,dl.lk wR⟩
theorem Zh(C:Ck D W Γ X k)(hc:Γ.calm=true)(ok:CompOk Γ.N Γ.cel tg sc)(hfs:ja Γ.N (frees sc)=some fs)(htg:qp (z5 tg++frees sc) tg=some tgt)(hi:PI X tg iter (rdI D W fi))(hel:∀X' W',Ck D W' (inComp Γ tg sc) X' k->PE X' elt (rdE D W' fe))(hts:∀X' W',Ck D W' (inComp Γ tg sc) X' k->uy X' D W' ifs cs)(hs:∀x,foldedSetIterable iter X.env x=pure x) :
  PE X (.ListComp elt [⟨tg,iter,ifs,0⟩] sc pos) (rdE D W (qf (z5 tg).length fs tgt fi cs fe)):=by
 rintro pins s σ H Q I ⟨φ,α,τ,μ,sr,mr,p⟩
 rw[eval_ListComp]
 refine vA (kk:=λys μ=>RE.ok (T.lst ys) μ) (use:=none) (Qf:=EP X pins σ Q) C hc ok hfs htg hi hel hts hs I sr mr p ?_
 rintro acc C0 s' α1 H1 H' α' ys vs μ' I' st1 st hn nph nal sr' m ha dl post xo hp ⟨mm,hm⟩
 obtain⟨m2,d,post⟩:=y1 (kk:=λt μ=>RE.ok t μ) st hn nph m ha dl post
 exact⟨mm,hm,λg sb=>⟨.ref acc,H',jd I' xo hp sb,rfl,post.here m2 d⟩⟩
theorem QD(C:Ck D W Γ X k)(hc:Γ.calm=true)(ok:CompOk Γ.N Γ.cel tg sc)(hfs:ja Γ.N (frees sc)=some fs)(htg:qp (z5 tg++frees sc) tg=some tgt)(hi:PI X tg iter (rdI D W fi))(hel:∀X' W',Ck D W' (inComp Γ tg sc) X' k->PE X' elt (rdE D W' fe))(hts:∀X' W',Ck D W' (inComp Γ tg sc) X' k->uy X' D W' ifs cs)(hs:∀x,foldedSetIterable iter X.env x=pure x) :
  PE X (.ListComp elt [⟨tg,iter,ifs,0⟩] sc pos) (rdE D W (wW (z5 tg).length fs tgt fi cs fe)):=by
 rintro pins s σ H Q I ⟨φ,α,τ,μ,sr,mr,p⟩
 rw[eval_ListComp]
 refine vA (kk:=λys μ=>RE.ok (T.mut μ.length) (μ++[MO.lst ys])) (use:=none) (Qf:=EP X pins σ Q) C hc ok hfs htg hi hel hts hs I sr mr p ?_
 rintro acc C0 s' α1 H1 H' α' ys vs μ' I' st1 st hn nph nal sr' m ha dl post xo hp ⟨mm,hm⟩
 obtain⟨st2,m2,d⟩:=xf st hn nph m ha dl
 exact⟨mm,hm,λg sb=>⟨.ref acc,H',jd I' xo hp sb,rfl,post.ok st2 m2 _ d⟩⟩
theorem qO{x:Str}{g:GM}(h:Γ.look x=g)(hg:g≠.bad):x∈Γ.G/\Γ.gl x=g:=by
 unfold Cn.look at h
 split at h
 ·rename_i hm
  exact⟨by simpa using hm,h⟩
 ·exact absurd h.symm hg
theorem yn{iter:Expr}(h:qt iter=true):∀x,foldedSetIterable iter X.env x=pure x:=by
 intro x
 cases iter<;>first|rfl|(simp[qt] at h)
end
structure PostH(D:DP)(W:XW)(φ α:List Addr)(H:Hp)(E:Ends)(Q:En):Prop where
 nx:∀τ μ,Q.nx τ μ->∀α' H' σ',Stp α H α' H'->MRel D φ α' H' μ->SRel D φ α' H' τ σ'->E.nx σ' H'
 bk:∀τ μ,Q.bk τ μ->∀α' H' σ',Stp α H α' H'->MRel D φ α' H' μ->SRel D φ α' H' τ σ'->E.bk σ' H'
 ct:∀τ μ,Q.ct τ μ->∀α' H' σ',Stp α H α' H'->MRel D φ α' H' μ->SRel D φ α' H' τ σ'->E.ct σ' H'
 rt:∀t μ,Q.rt t μ->∀α' H' v,Stp α H α' H'->MRel D φ α' H' μ->Den D φ α' H' t v->E.rt v H'
 ex:∀c fs τ μ,Q.ex c fs τ μ->∀α' H' σ' C d,Stp α H α' H'->MRel D φ α' H' μ->SRel D φ α' H' τ σ'->D.adr c=some C->XDict D φ α' H' fs d->W (.ref C) d σ' H'
inductive PostS(D:DP)(W:XW)(φ α:List Addr)(H:Hp)(E:Ends)(o:Out):Prop where
 |mk (Q:En) (q:o Q) (h:PostH D W φ α H E Q)
noncomputable def rdS (D:DP)(W:XW)(f:Ds):TS:=λE σ H=>RdP D H σ λφ α τ μ=>PostS D W φ α H E (f τ μ)
structure Sk(D:DP)(W:XW)(Γ:Cn)(X:Cx)(k:Nat):Prop extends Ck D W Γ X k where
 sto:Sto X Γ.sto
 lcl:∀x∈Γ.N,Γ.cel.contains x=false->X.env.scope.names.lookup x=some .local
 pso:PassesOwn (model X.prog X.w) X.A X.env X.xe
 xmt:∀t x c,(x,c)∈Γ.cls->c<40->∀Ct Cc,D.adr t=some Ct->X.mg x=some (.ref Cc)->PySem.W.exmOne X.K (.ref Ct) (.ref Cc)=some (qX t c)
section
variable {X:Cx}{D:DP}{W:XW}{Γ:Cn}{k:Nat}{pins:List (Addr×Obj)}{s:Shared}{σ:St}{H:Hp}{φ α:List Addr}{τ:Sl}{μ:Mem}{f g:De}{a b c e:Expr}{pos:Pos}{E:Ends}{u v:Ds}
theorem PostS.step{α':List Addr}{H':Hp}{o:Out}(p:PostS D W φ α H E o)(st:Stp α H α' H'):PostS D W φ α' H' E o:=by
 obtain⟨Q,q,h1,h2,h3,h4,h5⟩:=p
 exact⟨Q,q,λτ μ z α2 H2 σ2 s2=>h1 τ μ z α2 H2 σ2 (st.trans s2),λτ μ z α2 H2 σ2 s2=>h2 τ μ z α2 H2 σ2 (st.trans s2),λτ μ z α2 H2 σ2 s2=>h3 τ μ z α2 H2 σ2 (st.trans s2),λτ μ z α2 H2 σ2 s2=>h4 τ μ z α2 H2 σ2 (st.trans s2),λc fs τ μ z α2 H2 σ2 C d s2=>h5 c fs τ μ z α2 H2 σ2 C d (st.trans s2)⟩
theorem PostS.elim{C:Prop}(p:PostS D W φ α H E Out.st):C:=by obtain⟨_,q,_⟩:=p;exact q.elim
theorem PostS.nx{τ:Sl}{μ:Mem}(p:PostS D W φ α H E (.nx τ μ)){α':List Addr}{H':Hp}{σ':St}(s:Stp α H α' H')(m:MRel D φ α' H' μ)(r:SRel D φ α' H' τ σ'):E.nx σ' H':=by
 obtain⟨Q,q,h1,_⟩:=p
 exact h1 τ μ q α' H' σ' s m r
theorem PostS.rt{t:T}{μ:Mem}(p:PostS D W φ α H E (.rt t μ)){α':List Addr}{H':Hp}{v:V}(s:Stp α H α' H')(m:MRel D φ α' H' μ)(r:Den D φ α' H' t v):E.rt v H':=by
 obtain⟨Q,q,_,_,_,h,_⟩:=p
 exact h t μ q α' H' v s m r
theorem PostS.ex{c:Nat}{fs:List (Nat×T)}{τ:Sl}{μ:Mem}(p:PostS D W φ α H E (.ex c fs τ μ)){α':List Addr}{H':Hp}{σ':St}{C:Addr}{d:Option Addr}(s:Stp α H α' H')(m:MRel D φ α' H' μ)(r:SRel D φ α' H' τ σ')(ad:D.adr c=some C)(x:XDict D φ α' H' fs d):W (.ref C) d σ' H':=by
 obtain⟨Q,q,_,_,_,_,h⟩:=p
 exact h c fs τ μ q α' H' σ' C d s m r ad x
theorem PostS.grd{c:Prop}{o:Out}(p:PostS D W φ α H E (Out.grd c o)):c/\PostS D W φ α H E o:=by
 obtain⟨Q,q,h⟩:=p
 exact⟨q.1,Q,q.2,h⟩
theorem PostS.som{γ:Type}{o:Option γ}{k:γ->Out}(p:PostS D W φ α H E (Out.som o k)):∃a,o=some a/\PostS D W φ α H E (k a):=by
 obtain⟨Q,⟨a,e,q⟩,h⟩:=p
 exact⟨a,e,Q,q,h⟩
theorem PostS.br{b:Bool}{r s:Out}(p:PostS D W φ α H E (Out.br b r s)):(b=true/\PostS D W φ α H E r)\/(b=false/\PostS D W φ α H E s):=by
 obtain⟨Q,q,h⟩:=p
 cases b with
 |true=>exact .inl ⟨rfl,Q,q,h⟩
 |false=>exact .inr ⟨rfl,Q,q,h⟩
theorem PostS.ex2{δ1 δ2:Type}{P P2:δ1->δ2->Prop}{r:δ1->δ2->Out}(p:PostS D W φ α H E (λQ=>∃x y,P x y/\P2 x y/\r x y Q)):∃x y,P x y/\P2 x y/\PostS D W φ α H E (r x y):=by
 obtain⟨Q,⟨x,y,h1,h2,q⟩,h⟩:=p
 exact⟨x,y,h1,h2,Q,q,h⟩
theorem PostS.ex1{δ1:Type}{P P2:δ1->Prop}{r:δ1->Out}(p:PostS D W φ α H E (λQ=>∃x,P x/\P2 x/\r x Q)):∃x,P x/\P2 x/\PostS D W φ α H E (r x):=by
 obtain⟨Q,⟨x,h1,h2,q⟩,h⟩:=p
 exact⟨x,h1,h2,Q,q,h⟩
theorem PostS.out{β:Type}{r:RE β}{kk:β->Mem->Out}(sr:SRel D φ α H τ σ)(p:PostS D W φ α H E (r.out τ kk)):Post D W φ α H σ (λt μ' α' H'=>PostS D W φ α' H' E (kk t μ')) r:=by
 obtain⟨Q,q,h⟩:=p
 refine⟨_,_,q,λa μ' e α' H' st m=>PostS.step ⟨Q,e,h⟩ st,λc fs μ' e α' H' C d st m ad xd=>?_⟩
 exact h.ex c fs τ μ' e α' H' σ C d st m (sr.step st) ad xd
theorem Xw(ha:PE X a (rdE D W f)):PS X (.Return (some a) pos) (rdS D W (zu f)):=by
 rintro pins s σ H E I ⟨φ,α,τ,μ,sr,mr,p⟩
 refine Yh ha pins s σ H E I ⟨φ,α,τ,μ,sr,mr,(PostS.out sr p).mono λt μ' α' H' st m q v d=>PostS.rt q (Stp.refl _ _) m d⟩
theorem VX:PS X (.Return none pos) (rdS D W KO):=by
 rintro pins s σ H E I ⟨φ,α,τ,μ,sr,mr,p⟩
 exact J6 pins s σ H E I (PostS.rt p (Stp.refl _ _) mr rfl)
theorem Ki(hs:swapsWith a none pos.line X.env=pure false)(ha:PE X a (rdE D W f)):PS X (.Expr a pos) (rdS D W (W6 f)):=by
 rintro pins s σ H E I ⟨φ,α,τ,μ,sr,mr,p⟩
 refine Zy ha hs pins s σ H E I ⟨φ,α,τ,μ,sr,mr,(PostS.out sr p).mono λt μ' α' H' st m q v d=>PostS.nx q (Stp.refl _ _) m (sr.step st)⟩
theorem VU:PSs X [] (rdS D W (zO [])):=by
 rintro pins s σ H E I ⟨φ,α,τ,μ,sr,mr,p⟩
 exact Zd pins s σ H E I (PostS.nx p (Stp.refl _ _) mr sr)
theorem QN{st:Stmt}{r:List Stmt}{fs:List Ds}(h1:PS X st (rdS D W u))(h2:PSs X r (rdS D W (zO fs))):PSs X (st::r) (rdS D W (zO (u::fs))):=by
 rintro pins s σ H E I ⟨φ,α,τ,μ,sr,mr,Q,q,h3,h4,h5,h6,h7⟩
 refine yt h1 h2 pins s σ H E I ⟨φ,α,τ,μ,sr,mr,_,q,λτ1 μ1 e α' H' σ' st m sr'=>?_,h4,h5,h6,h7⟩
 exact⟨φ,α',τ1,μ1,sr',m,PostS.step ⟨Q,e,h3,h4,h5,h6,h7⟩ st⟩
noncomputable def ko (X:Cx)(D:DP)(W:XW):List Stmt->List Ds->Prop
 |[],[]=>True
 |e::es,f::fs=>PS X e (rdS D W f)/\ko X D W es fs
 |_,_=>False
theorem qB:∀{sts:List Stmt} {fs:List Ds},ko X D W sts fs->PSs X sts (rdS D W (zO fs))
 |[],[],_=>VU
 |st::r,f::fs,h=>QN h.1 (qB h.2)
 |[],_::_,h=>h.elim
 |_::_,[],h=>h.elim
theorem z0h{ft:Dt}{as bs:List Stmt}{us vs:List Ds}(hc:PT X c (rdT D W ft))(ha:ko X D W as us)(hb:ko X D W bs vs):PS X (.If c as bs pos) (rdS D W (sIf ft us vs)):=by
 rintro pins s σ H E I ⟨φ,α,τ,μ,sr,mr,p⟩
 refine z0v hc (qB ha) (qB hb) pins s σ H E I ⟨φ,α,τ,μ,sr,mr,(PostS.out sr p).mono λb μ' α' H' st m q=>?_⟩
 rcases PostS.br q with⟨rfl,q⟩|⟨rfl,q⟩
 ·exact⟨φ,α',τ,μ',sr.step st,m,q⟩
 ·exact⟨φ,α',τ,μ',sr.step st,m,q⟩
noncomputable def nFz (Γ:Cn)(tg:Expr):Bool:=(z5 tg).all λx=>!Γ.fz.contains x
theorem xF{tg:Expr}(h:nFz Γ tg=true)(m:∀x∈z5 tg,x∈Γ.N):∀x∈z5 tg,x∈Γ.sto:=λx hx=>List.mem_filter.mpr ⟨m x hx,List.all_eq_true.mp h x hx⟩
theorem V2(C:Sk D W Γ X k){x:Str}{i:Nat}{p0:Pos}(hi:idx Γ.N x=some i)(hz:nFz Γ (.Name x p0)=true)(hs:swapsWith a (some (.Name x p0)) pos.line X.env=pure false)(ha:PE X a (rdE D W f)):PS X (.Assign [.Name x p0] a pos) (rdS D W (zo i f)):=by
 rintro pins s σ H E I ⟨φ,α,τ,μ,sr,mr,p⟩
 have hx:=xF hz (λy hy=>by rw[List.mem_singleton.mp hy];exact qh hi) x (List.mem_singleton.mpr rfl)
 refine Xy (i:=i) (X:=X) (by rw[C.hN];exact C.nd) (by rw[C.hN];exact qz hi) (C.sto x hx).1 ha hs (C.sto x hx).2 pins s σ H E I ⟨φ,α,τ,μ,sr,mr,(PostS.out sr p).mono λt μ' α' H' st m q v d=>?_⟩
 exact PostS.nx q (Stp.refl _ _) m ((sr.step st).set d)
theorem ya{N:List Str}:∀{es:List Expr} {is:List Nat},idxs N es=some is->∀e∈es,∀x p,e=.Name x p->x∈N
 |[],_,_,e,he,_,_,_=>absurd he (by simp)
 |e0::es,is,h,e,he,x,p,hx=>by
  cases e0 with
  |Name y p0=>
   simp only[idxs] at h
   split at h
   ·rename_i i is' hi his
    rcases List.mem_cons.mp he with rfl|he
    ·cases hx;exact qh hi
    ·exact ya his e he x p hx
   ·cases h
  |_=>simp[idxs] at h
theorem Vp{N:List Str}{e:Expr}{tgt:Tg}(h:qp N e=some tgt):∀x∈z5 e,x∈N:=by
 intro x hx
 cases e with
 |Name y p=>
  simp[z5] at hx
  subst hx
  simp only[qp] at h
  cases q:idx N x with
  |none=>rw[q] at h;cases h
  |some i=>exact qh q
 |Tuple es kk p=>
  obtain⟨e,he,q⟩:=List.mem_filterMap.mp hx
  simp only[qp] at h
  cases q2:idxs N es with
  |none=>rw[q2] at h;cases h
  |some is=>
   cases e with
   |Name y p0=>
    have q:some y=some x:=q
    cases q
    exact ya q2 _ he x p0 rfl
   |_=>cases q
 |_=>simp[z5] at hx
theorem Kl(C:Sk D W Γ X k)(hc:X.calm=true){tg:Expr}{tgt:Tg}(ht:qp Γ.N tg=some tgt)(hz:nFz Γ tg=true):PG X tg (λv σ H Q=>∃φ α τ t τ',SRel D φ α H τ σ/\Den D φ α H t v/\asg tgt t τ=some τ'/\∀σ',SRel D φ α H τ' σ'->Q σ' H):=by
 rintro pins s σ H v u Q I r ⟨φ,α,τ,t,τ',sr,d,ha,q⟩
 refine thn (uv (S:=Γ.sto) C.hN C.nd C.sto hc (xF hz (Vp ht)) ht ha I sr d r) ?_
 rintro _ s1 ⟨σ',I1,sr'⟩
 exact⟨σ',H,I1,q σ' sr'⟩
noncomputable def vo:Expr->Bool
 |.Call _ _ _ _=>true
 |.Name _ _=>true
 |.Subscript _ _ _=>true
 |.Attribute _ _ _=>true
 |_=>false
theorem Yi(C:Sk D W Γ X k)(hc:Γ.calm=true){es:List Expr}{is:List Nat}{kk:Nat}{p0:Pos}(hp:vo a=true)(hn:idxs Γ.N es=some is)(hz:nFz Γ (.Tuple es kk p0)=true)(ha:PE X a (rdE D W f)):PS X (.Assign [.Tuple es kk p0] a pos) (rdS D W (UG is f)):=by
 rintro pins s σ H E I ⟨φ,α,τ,μ,sr,mr,p⟩
 have h1:swapsWithSole [.Tuple es kk p0] a pos.line X.env=pure false:=by cases a<;>first|(simp[vo] at hp;done)|rfl
 have h2:swappedStores [.Tuple es kk p0] a X.env=pure none:=by cases a<;>first|(simp[vo] at hp;done)|rfl
 refine VM ha (Kl C (C.clm hc) (tg:=.Tuple es kk p0) (tgt:=.tup is) (by simp[qp,hn]) hz) h1 h2 rfl pins s σ H E I ⟨φ,α,τ,μ,sr,mr,(PostS.out sr p).mono λt μ' α' H' st m q v d=>?_⟩
 obtain⟨τ',h,q⟩:=PostS.som q
 exact⟨φ,α',τ,t,τ',sr.step st,d,h,λσ' sr'=>PostS.nx q (Stp.refl _ _) m sr'⟩
theorem Y7(C:Sk D W Γ X k){o:Expr}{x:Str}{n:Nat}{p1:Pos}{go:De}(hn:(x,n)∈Γ.fld)(ha:PE X a (rdE D W f))(ho:PE X o (rdE D W go)) :
  PS X (.Assign [.Attribute o x p1] a pos) (rdS D W (V_ go n f)):=by
 rintro pins s σ H E I ⟨φ,α,τ,μ,sr,mr,p⟩
 have hs:swapsWith a (some (.Attribute o x p1)) pos.line X.env=pure false:=by cases a<;>rfl
 refine XR ho ha hs pins s σ H E I ⟨φ,α,τ,μ,sr,mr,(PostS.out sr p).mono λt μ1 α1 H1 st1 m1 q v d=>?_⟩
 have sr1:=sr.step st1
 refine⟨φ,α1,τ,μ1,sr1,m1,(PostS.out sr1 q).mono λot μ2 α2 H2 st2 m2 q2 ov dv=>?_⟩
 split at q2
 case h_2=>exact PostS.elim q2
 rename_i i
 obtain⟨c,fs,hμ,hl,q2⟩:=PostS.ex2 q2
 obtain⟨y,hx,rfl⟩:=dv
 obtain⟨C0,dx,gs,ad,hH,df⟩:=m2.ob i y _ hx hμ
 obtain⟨fx,cl,na⟩:=C.fld c C0 x n ad hn
 refine⟨y,C0,dx,gs,rfl,hH,cl,na,by rw[←df.length];omega,?_⟩
 have st3:Stp α2 H2 α2 (upd H2 y (.ins C0 dx (qG x v gs))):=Stp.turn (List.mem_of_getElem? hx) ⟨_,hH⟩
 have hi:i<μ2.length:=(List.getElem?_eq_some_iff.mp hμ).1
 exact PostS.nx q2 st3 (m2.turn hx hi st3 ⟨C0,dx,_,ad,z8,DenF.put fx (df.step st3) ((d.step st2).step st3)⟩) ((sr1.step st2).step st3)
theorem set_list:z03 X (λo i v H Q=>∃l k xs,o=.ref l/\i=.int k/\H l=some (.lst xs)/\0<=k/\k<xs.length/\k<9223372036854775808/\Q (upd H l (.lst (xs.set k.toNat v)))):=by
 intro pins s σ H o i v ov iv u Q I ro ri rv h
 obtain⟨l,k,xs,rfl,rfl,hH,h0,h1,h2,q⟩:=h
 cases ro
 obtain⟨t,rfl⟩:=ri
 obtain⟨z,its,n,r,hl,e⟩:=I.lstM hH
 refine PySem.W.ki_setAt (n:=n) (items:=its.toArray) e h0 (by simpa using h2) (by rw[List.size_toArray,←hl];exact h1) ?_
 exact⟨_,I.lset (t':=s.toks) (ys:=xs.set k.toNat v) (its':=its.set k.toNat u) (f:=λa=>a.setIfInBounds k.toNat u) hH e (by simp) (Vals.set rv _ r) (by rw[List.length_set];exact z),q⟩
theorem YK(C:Sk D W Γ X k){o:Expr}{p1:Pos}{fo fb:De}(hb':qr b=true)(ha:PE X a (rdE D W f))(ho:PE X o (rdE D W fo))(hb:PE X b (rdE D W fb)) :
  PS X (.Assign [.Subscript o b p1] a pos) (rdS D W (Ww fo fb f)):=by
 rintro pins s σ H E I ⟨φ,α,τ,μ,sr,mr,p⟩
 have h1:swapsWithSole [.Subscript o b p1] a pos.line X.env=pure false:=by cases a<;>rfl
 have h2:swappedStores [.Subscript o b p1] a X.env=pure none:=by cases a<;>rfl
 refine VM ha (Yl ho hb set_list (λv=>by cases b<;>first|(simp[qr] at hb';done)|rfl)) h1 h2 rfl pins s σ H E I ⟨φ,α,τ,μ,sr,mr,(PostS.out sr p).mono λt μ1 α1 H1 st1 m1 q v d=>?_⟩
 have sr1:=sr.step st1
 refine⟨φ,α1,τ,μ1,sr1,m1,(PostS.out sr1 q).mono λot μ2 α2 H2 st2 m2 q2 ov dv=>?_⟩
 have sr2:=sr1.step st2
 refine⟨φ,α2,τ,μ2,sr2,m2,(PostS.out sr2 q2).mono λit μ3 α3 H3 st3 m3 q3 iv di=>?_⟩
 have d3:=(d.step st2).step st3
 split at q3
 case h_2=>exact PostS.elim q3
 rename_i i kk
 have dv:=dv.step st3
 obtain⟨ts,hμ,hk,q3⟩:=PostS.ex1 q3
 obtain⟨x,hx,rfl⟩:=dv
 have di:iv=.int kk:=di
 subst di
 obtain⟨xs,hH,l⟩:=m3.ob i x _ hx hμ
 have st4:Stp α3 H3 α3 (upd H3 x (.lst (xs.set kk.toNat v))):=Stp.turn (List.mem_of_getElem? hx) ⟨_,hH⟩
 have hi:i<μ3.length:=(List.getElem?_eq_some_iff.mp hμ).1
 exact⟨x,kk,xs,rfl,rfl,hH,hk.1,by rw[←l.length];exact hk.2.1,hk.2.2,PostS.nx q3 st4 (m3.turn hx hi st4 ⟨_,z8,DenL.set (l.step st4) (d3.step st4)⟩) ((sr2.step st3).step st4)⟩
theorem Uq(C:Sk D W Γ X k)(hc:Γ.calm=true){tg iter:Expr}{tgt:Tg}(ht:qp Γ.N tg=some tgt)(hz:nFz Γ tg=true){fi:Di}{body:List Stmt}{vs:List Ds}(hi:PI X tg iter (rdI D W fi))(hb:ko X D W body vs)(hs:∀x,foldedSetIterable iter X.env x=pure x) :
  PS X (.For tg iter body [] pos) (rdS D W (Yb tgt fi vs)):=by
 rintro pins s σ H E I ⟨φ,α,τ,μ,sr,mr,p⟩
 refine Yq C.pso (C.clm hc) hi (Kl C (C.clm hc) ht hz) (qB hb) hs pins s σ H E I ⟨φ,α,τ,μ,sr,mr,(PostS.out sr (show PostS D W φ α H E ((fi τ μ).re.out τ λpr μ1=>forM tgt (zO vs) pr.2 pr.1 τ μ1) from p)).mono λpr μ1 α1 H1 st1 m1 q J Ok iv okk lv1=>?_⟩
 obtain⟨xs,o⟩:=pr
 obtain⟨Q,q,h1,h2,h3,h4,h5⟩:=q
 refine⟨λi m σ' H'=>m=xs.length-i/\i<=xs.length/\∃α' τ' μ',Stp α1 H1 α' H'/\MRel D φ α' H' μ'/\SRel D φ α' H' τ' σ'/\o μ'/\forM tgt (zO vs) o (xs.drop i) τ' μ' Q,⟨xs.length,by simp,Nat.zero_le _,α1,τ,μ1,Stp.refl _ _,m1,sr.step st1,lv1,by simpa using q⟩,?_⟩
 rintro i m σ' H' ⟨rfl,hi',α',τ',μ',stp,mr',sr',lv',pf⟩
 have okH:Ok φ α' H':=okk _ α' H' μ' stp.lk mr' lv'
 by_cases hlt:i<xs.length
 ·refine .inr ⟨iv.go i _ _ H' okH hlt,λσ2 H2=>∃α2 τ2 μ2,Stp α1 H1 α2 H2/\MRel D φ α2 H2 μ2/\SRel D φ α2 H2 τ2 σ2/\o μ2/\forM tgt (zO vs) o (xs.drop (i+1)) τ2 μ2 Q,λσ2 H2 h2=>⟨xs.length-(i+1),by omega,rfl,hlt,h2⟩,λx H2 y=>?_⟩
  obtain⟨sm,dx⟩:=iv.yld i _ _ H' x H2 xs[i] okH (by simp[hlt]) y
  have stp:=stp.trans (Stp.new (α:=α') sm)
  have sr':=sr'.step (Stp.new (α:=α') sm)
  have mr':=mr'.new sm
  rw[List.drop_eq_getElem_cons hlt] at pf
  obtain⟨τ3,ha,pf⟩:=pf
  refine⟨φ,α',τ',xs[i],τ3,sr',dx,ha,λσ3 sr3=>⟨φ,α',τ3,μ',sr3,mr',_,pf,?_,?_,?_,?_,?_⟩⟩
  ·exact λτ4 μ4 e α4 H4 σ4 st4 m4 sr4=>⟨α4,τ4,μ4,stp.trans st4,m4,sr4,e⟩
  ·exact λτ4 μ4 e α4 H4 σ4 st4 m4 sr4=>h1 τ4 μ4 e α4 H4 σ4 (stp.trans st4) m4 sr4
  ·exact λτ4 μ4 e α4 H4 σ4 st4 m4 sr4=>⟨α4,τ4,μ4,stp.trans st4,m4,sr4,e⟩
  ·exact λt μ4 e α4 H4 v st4 m4 d4=>h4 t μ4 e α4 H4 v (stp.trans st4) m4 d4
  ·exact λc fs τ4 μ4 e α4 H4 σ4 Cc d st4 m4 sr4=>h5 c fs τ4 μ4 e α4 H4 σ4 Cc d (stp.trans st4) m4 sr4
 ·have hie:i=xs.length:=by omega
  rw[hie,List.drop_length] at pf
  exact .inl ⟨by rw[hie];exact iv.stop _ _ H' okH,h1 τ' μ' pf α' H' σ' stp mr' sr'⟩
theorem J9(C:Sk D W Γ X k)(hc:Γ.calm=true){tg iter elt:Expr}{sc:Scope}{fi:Di}{fs:List Nat}{tgt:Tg}{ifs:List Expr}{cs:List Dt}{fe:De}{x:Str}{ix:Nat}{p0 p1:Pos}(hix:idx Γ.N x=some ix)(hz:nFz Γ (.Name x p0)=true)(ok:CompOk Γ.N Γ.cel tg sc)(hfs:ja Γ.N (frees sc)=some fs)(htg:qp (z5 tg++frees sc) tg=some tgt)(hi:PI X tg iter (rdI D W fi))(hel:∀X' W',Ck D W' (inComp Γ tg sc) X' k->PE X' elt (rdE D W' fe))(hts:∀X' W',Ck D W' (inComp Γ tg sc) X' k->uy X' D W' ifs cs)(hs:∀x,foldedSetIterable iter X.env x=pure x)
  (own:Bool) (hsw:swapsWith (.ListComp elt [⟨tg,iter,ifs,0⟩] sc p1) (some (.Name x p0)) pos.line X.env=pure true) :
  PS X (.Assign [.Name x p0] (.ListComp elt [⟨tg,iter,ifs,0⟩] sc p1) pos) (rdS D W (zo ix (match own with|true=>wW (z5 tg).length fs tgt fi cs fe|false=>qf (z5 tg).length fs tgt fi cs fe))):=by
 rintro pins s σ H E I ⟨φ,α,τ,μ,sr,mr,p⟩
 rw[exec_Assign_Name_used _ _ _ _ hsw]
 refine wpAny_bind (wpAny_standAt (wpAny_bind ?_))
 show wpAny _ _ (do let _ ←comprehension (.ListComp elt [⟨tg,iter,ifs,0⟩] sc p1) sc X.env _ (newList []) false (eval iter X.env) (some (assign (.Name x p0) X.env))) _ _ s
 refine wpAny_bind (thn (vA (kk:=λys μ=>match own with|true=>RE.ok (T.mut μ.length) (μ++[MO.lst ys])|false=>RE.ok (T.lst ys) μ) (use:=some (assign (.Name x p0) X.env)) (Qf:=λ_ s'=>∃σ' H',Inv X pins σ' H' s'/\E.nx σ' H') C.toCk hc ok hfs htg hi hel hts hs I sr mr (PostS.out sr (by cases own<;>exact p)) ?_) λ_ s' hq=>wpAny_pure (wpAny_pure hq))
 rintro acc C0 s' α1 H1 H' α' ys vs μ' I' st1 st hn nph nal sr' m ha dl post xo hp ⟨mm,hm⟩
 have hx:=qh hix
 obtain⟨oc,es,ep,hoc,hdc,hrest⟩:=hm
 have I2:Inv X (pins++[(C0,oc)]) σ H' s':=I'.pins_of λp hp'=>(List.mem_append.mp hp').elim (λz=>I'.pin p (List.mem_append_right _ z)) λz=>by
  rw[List.mem_singleton.mp z]
  exact⟨hoc,xo.free,xo.loc,xo.nfs,λv e=>by rw[hdc] at e;cases e⟩
 have fin:∀{α'':List Addr} {t:T} {μ2:Mem},SRel D φ α'' H' τ σ->Den D φ α'' H' t (.ref acc)->(∀σ',SRel D φ α'' H' (wU τ ix (some t)) σ'->E.nx σ' H')->wpAny (model X.prog X.w) X.A (assign (.Name x p0) X.env (.ref acc)) (λ_ t2=>∃m,t2.heap.Ns C0 m/\∀g,Heap.SameBut C0 t2.heap g->∃σ' H',Inv X pins σ' H' {t2 with heap:=g}/\E.nx σ' H') X.xe s':=λ{α'' t μ2} sr2 d q=>by
  refine thn (uv (e:=.Name x p0) (S:=Γ.sto) (tgt:=.one ix) (t:=t) (τ:=τ) C.hN C.nd C.sto (C.clm hc) (xF hz λy hy=>by rw[List.mem_singleton.mp hy];exact hx) (by simp[qp,hix]) rfl I2 sr2 d (show RelV (.ref acc) (.ref acc) from rfl)) ?_
  rintro _ s2 ⟨σ',I3,sr3⟩
  have hpin:=(I3.pin (C0,oc) (List.mem_append_right _ (List.mem_append_right _ (List.mem_singleton.mpr rfl)))).1
  refine⟨mm,⟨oc,es,ep,hpin,hdc,hrest⟩,λg sb=>⟨σ',H',?_,q σ' sr3⟩⟩
  exact jd (I3.pins_of λp hp'=>I3.pin p (List.mem_append_right _ (List.mem_append_left _ hp'))) xo hp sb
 cases own with
 |false=>
  obtain⟨m2,d,post⟩:=y1 (kk:=λt μ=>RE.ok t μ) st hn nph m ha dl post
  exact fin (μ2:=μ') (sr'.lk zR) d λσ' sr3=>PostS.nx (post.ok (Stp.refl _ _) m2) (Stp.refl _ _) m2 sr3
 |true=>
  obtain⟨st2,m2,d⟩:=xf st hn nph m ha dl
  exact fin (μ2:=μ') (sr'.lk wR) d λσ' sr3=>PostS.nx (post.ok st2 m2) (Stp.refl _ _) m2 sr3
end
noncomputable def UC(C:Addr)(h:Heap):Prop:=∃tl N nm q bs hd sn sub ab col dd k0 k1 k2 k3 k5 mN,h.get? C=some (excClassObj nm q C N bs tl hd sn sub ab col dd k0 k1 k2 k3 k5 "ValueError.__new__")/\h.Ns N mN/\mN "__init__"=none/\OwnTail h zX tl
theorem Qz {K:PySem.W.Frag} {h:Heap} {C:Addr} (kin:K.In h) (e:PySem.W.excIn K C zX "ValueError.__new__"=true):UC C h:=by
 simp only[PySem.W.excIn] at e
 revert e
 cases hk:K.lookup C with
 |none=>intro e;cases e
 |some o=>
  intro e
  split at e
  case h_2=>cases e
  rename_i dd cd sl ho
  cases ho
  split at e
  case h_2=>cases e
  rename_i C' tl k0 k1 k2 k3 n k5 hm hs
  simp only[Bool.and_eq_true,beq_iff_eq,Bool.not_eq_true'] at e
  obtain⟨⟨⟨⟨⟨e1,e2⟩,e3⟩,e4⟩,e5⟩,e6⟩:=e
  cases cd
  rename_i nm bs mro ns qn hd sn sub ab col del
  simp only at hm e3 e5 e6
  cases e1;cases e2;cases hm;cases e3
  have hsl:sl=#[k0,k1,k2,k3,some (.builtin "ValueError.__new__"),k5]:=by
   cases sl;simp only at hs;rw[hs]
  cases hsl
  exact⟨tl,ns,nm,qn,bs,hd,sn,sub,ab,col,dd,k0,k1,k2,k3,k5,h.nsMap ns,kin _ _ hk,.of_isNs (PySem.W.isNs_of_in kin e5),PySem.W.nsMap_none_of_in kin e5 e6,PySem.W.tail_of_in kin e4⟩
section
variable {X:Cx}{pins:List (Addr×Obj)}{s:Shared}{σ:St}{H:Hp}
theorem ZK{i:Nat}{x:Str}{m:Str->Option Value}{h':Heap}{u:Option Value}{tk:Nat}(I:Inv X pins σ H s)(hN:X.N.Nodup)(hi:X.N[i]?=some x)
  (hm:∀(i:Nat) (x:Str) (v:V),X.N[i]?=some x->σ[i]?=some (some v)->Vis X.env.scope x->∃u,RelV v u/\Look X.env s.heap m x u)
  (hn:h'.Ns X.env.locals λy=>if y=x then u else m y) (hs:Heap.SameBut X.env.locals s.heap h'):Inv X pins (σ.set i none) H {s with heap:=h',toks:=tk}:=by
 have cne:=I.cne
 have low:∀b o,X.s₀.heap.get? b=some o->b≠X.env.locals:=λb o e=>Nat.ne_of_lt (Nat.lt_of_lt_of_le (Heap.lt_size e) I.ok.above)
 refine⟨I.ok,I.os,I.bare,⟨λb o e n hb hx=>?_,λb o e n hb hx=>?_,I.base.free,λb o e hx=>?_,I.base.tups,I.base.frzs,I.base.tbls⟩,⟨_,hn,λj y v e1 e2 e3=>?_⟩,λy c e=>?_,I.free,I.freeC,λp hp=>?_,λb ob e=>?_,by simpa using I.len⟩
 ·exact (hs.2 b (low b o e)).trans (I.base.keep b o e n hb hx)
 ·obtain⟨sl,e1⟩:=I.base.slot b o e n hb hx
  exact⟨sl,(hs.2 b (low b o e)).trans e1⟩
 ·obtain⟨o',e1⟩:=I.base.there b o e hx
  exact⟨o',(hs.2 b (low b o e)).trans e1⟩
 ·by_cases hj:j=i
  ·subst hj
   rw[List.getElem?_set_self'] at e2
   cases q:σ[j]? with
   |none=>rw[q] at e2;cases e2
   |some w=>rw[q] at e2;cases e2
  ·rw[List.getElem?_set_ne (Ne.symm hj)] at e2
   obtain⟨w,r,q⟩:=hm j y v e1 e2 e3
   refine⟨w,r,?_⟩
   rcases q with⟨k,e⟩|⟨k,c,e,z⟩
   ·have:y≠x:=λz=>hj (vd hN e1 (by rw[z];exact hi))
    exact .inl ⟨k,by simp[this,e]⟩
   ·exact .inr ⟨k,c,e,z.sameBut hs (cne y c e)⟩
 ·obtain⟨w,z⟩:=I.cell y c e
  exact⟨w,z.sameBut hs (cne y c e)⟩
 ·obtain⟨e,n,ne,nf,d⟩:=I.pin p hp
  exact⟨(hs.2 p.1 ne).trans e,n,ne,nf,d⟩
 ·refine (I.hok b ob e).stay (λc w hc q=>(hs.2 c ?_).trans q) (λ_ q=>q) λ_ _ q=>q
  rintro rfl
  rcases hc with rfl|hc
  ·rw[I.free] at e;cases e
  ·rw[I.free] at hc;cases hc
theorem ZZ{x C:Addr}{d:Option Addr}(I:Inv X pins σ H s)(ox:XOk X H x)(hp:∀p∈pins,p.1≠x)(hx:XcAt x C d s.heap):Inv X pins σ (upd H x (.ext (XcAt x C d))) s:=by
 have ne:∀b,H b≠none->b≠x:=λb h z=>h (by rw[z];exact ox.free)
 refine⟨I.ok,I.os,I.bare,⟨I.base.keep,I.base.slot,λb o e n hx'=>?_,I.base.there,λb xs e=>?_,λb o u e=>?_,λb ps e=>?_⟩,I.loc,I.cell,?_,λy c e=>?_,λp hp'=>?_,λb ob e=>?_,I.len⟩
 ·have:b≠x:=λz=>by
   rcases ox.new with q|q
   ·exact hx' (by rw[z];exact q)
   ·rw[←z,e] at q;cases q
  rw[z7 this];exact I.base.free b o e n hx'
 ·have q:=I.base.tups b xs e
  rw[z7 (ne b (by rw[q];simp))];exact q
 ·have q:=I.base.frzs b o u e
  rw[z7 (ne b (by rw[q];simp))];exact q
 ·obtain⟨more,q⟩:=I.base.tbls b ps e
  exact⟨more,by rw[z7 (ne b (by rw[q];simp))];exact q⟩
 ·rw[z7 (Ne.symm ox.loc)];exact I.free
 ·rw[z7 (ox.cel y c e)];exact I.freeC y c e
 ·obtain⟨e,n,r⟩:=I.pin p hp'
  have:p.1≠x:=(List.mem_append.mp hp').elim (ox.pin p) (hp p)
  exact⟨e,by rw[z7 this];exact n,r⟩
 ·by_cases z:b=x
  ·subst z
   rw[z8] at e
   cases e
   obtain⟨oe,vs,h1,h2⟩:=id hx
   refine⟨hx,⟨oe,h1⟩,λg1 g2 p k=>?_⟩
   obtain⟨oe',vs',h1',h2'⟩:=p
   exact⟨oe',vs',k _ h1',h2'⟩
  ·rw[z7 z] at e
   have sm:∀c o,H c=some o->upd H x (.ext (XcAt x C d)) c=some o:=λc o q=>by rw[z7 (ne c (by rw[q];simp))];exact q
   exact (I.hok b ob e).stay (λ_ _ _ q=>q) (λc q=>sm c _ q) λc xs q=>sm c _ q
end
section
variable {X:Cx}{D:DP}{W:XW}{Γ:Cn}{k:Nat}{pins:List (Addr×Obj)}{s:Shared}{σ:St}{H:Hp}{φ α:List Addr}{τ:Sl}{μ:Mem}{a b c e:Expr}{pos:Pos}{E:Ends}{es:List Expr}{fs:List De}
theorem XTr.at{h:Heap}{x T C:Addr}{d:Option Addr}{fl:Value}(t:XTr h x T (.ref C) d fl):XcAt x C d h:=by
 obtain⟨oe,vs,a0,oT,ts,h1,⟨h2,h3⟩,h4,_⟩:=t
 exact⟨oe,vs,h1,h2,h4,h3⟩
theorem XcAt.ty{M:Model}{h:Heap}{x C:Addr}{d:Option Addr}(t:XcAt x C d h):PySem.W.Looks M h (typeOf (.ref x)) (.ref C):=by
 obtain⟨oe,vs,h1,h2,h3,h4⟩:=t
 exact h2▸(PySem.W.Looks.ld h1).andThen .now
noncomputable def HcOk (Γ:Cn)(x:Str)(c:Nat):Prop:=x∈Γ.G/\(x,c)∈Γ.cls/\((∃f,Γ.gl x=.xcf c f)\/Γ.gl x=.xcl c)/\c<40
noncomputable def z0W (Γ:Cn):Option Str->Option Nat->Prop
 |none,none=>True
 |some e,some j=>idx Γ.N e=some j/\Γ.cel.contains e=false
 |_,_=>False
noncomputable def Ka (D:DP)(Γ:Cn)(k:Nat):List ExceptHandler->List (List Nat×Option Nat×List Ds)->Prop
 |[],[]=>True
 |h::hs,g::r=>(∃x p nm b0 suite pp c i vs,h=.ExceptHandler (some (.Name x p)) nm (b0::suite) pp/\g=([c],i,vs)/\HcOk Γ x c/\z0W Γ nm i/\∀X',Sk D noW {Γ with calm:=false} X' k->ko X' D noW (b0::suite) vs)/\Ka D Γ k hs r
 |_,_=>False
theorem HcOk.mg(C:Sk D W Γ X k){x:Str}{c:Nat}(h:HcOk Γ x c):∃Cc,X.mg x=some (.ref Cc):=by
 have q:=C.glo x h.1
 rcases h.2.2.1 with⟨f,g⟩|g
 ·rw[g] at q
  obtain⟨Cc,_,hm⟩:=q
  exact⟨Cc,hm⟩
 ·rw[g] at q
  obtain⟨Cc,_,hm,_⟩:=q
  exact⟨Cc,hm⟩
theorem QJ(C:Sk D W Γ X k){x Tt Ck:Addr}{d:Option Addr}{kk:Nat}{xfs:List (Nat×T)}(ad:D.adr kk=some Ck):∀{hs:List ExceptHandler} {r:List (List Nat×Option Nat×List Ds)} {s1:Shared} {σ1:St} {H1:Hp} {α1:List Addr} {τ1:Sl} {μ1:Mem},Ka D Γ k hs r->Inv (Cx.pin' X pins) [] σ1 H1 s1->XOk (Cx.pin' X pins) H1 x->XOk (Cx.pin' X pins) H1 Tt->XTr s1.heap x Tt (.ref Ck) d .none->
  XDict D φ α1 H1 xfs d->MRel D φ α1 H1 μ1->SRel D φ α1 H1 τ1 σ1->PostS D W φ α1 H1 E (JN r kk xfs τ1 μ1)->wpAny (model X.prog X.w) X.A (handleBy (.ref x) X.env hs) (SP X pins E) X.xe s1
 |[],[],s1,σ1,H1,α1,τ1,μ1,_,I1,ox,oT,tr,xd,m1,sr1,p=>by
  obtain⟨e0,out,L,F⟩:=C.frm
  refine wpAny_handleBy_nil ?_
  unfold PySem.passOn
  obtain⟨oe,vs',a0,oT',ts,ho,hcc,hd,hv0,hv1,hT,hoT,hdT,h3⟩:=id tr
  refine wpAny_bind (wpAny_field ho hd hv1 ?_)
  rw[if_neg (show ¬((Value.ref Tt == Value.none)=true) from by simp)]
  have go:∀{t2:Shared},XP X W (.ref x) t2->wpAny (model X.prog X.w) X.A (throw (Value.ref x):Sem Flow) (SP X pins E) X.xe t2:=λ{t2} xp=>wpAny_throw (C.xe _ _ xp)
  have un:∀b,XOk (Cx.pin' X pins) H1 b->XOk X H1 b:=λb o=>⟨o.free,o.loc,o.nfs,o.new,o.cel,λp hp=>o.pin p (List.mem_append_left _ hp)⟩
  have fin:wpAny (model X.prog X.w) X.A (setFlight (.ref x) X.env.frame) (λ_ t2=>XP X W (.ref x) t2) X.xe s1:=by
   refine zY ((zz I1).pins_of λp hp=>absurd hp (by simp)) (un x ox) (un Tt oT) tr λh4 I4 tr4=>?_
   refine⟨x,.ref Ck,d,σ1,H1,some Tt,rawInt L,rfl,I4,un x ox,λt ht=>?_,?_,.inr ⟨L,F.fe,rfl⟩,PostS.ex p (Stp.refl _ _) m1 sr1 ad xd⟩
   ·have:t=Tt:=by simpa using ht
    rw[this];exact un Tt oT
   ·rw[F.fe] at tr4;exact tr4
  first
   |exact wpAny_bind (thn fin λ_ t2 xp=>go xp)
   |exact wpAny_bind (wpAny_pure (wpAny_bind (thn fin λ_ t2 xp=>go xp)))
 |[],_::_,_,_,_,_,_,_,h,_,_,_,_,_,_,_,_=>h.elim
 |_::_,[],_,_,_,_,_,_,h,_,_,_,_,_,_,_,_=>h.elim
 |hd::hs',g::r',s1,σ1,H1,α1,τ1,μ1,h,I1,ox,oT,tr,xd,m1,sr1,p=>by
   obtain⟨⟨x0,p0,nm,b0,suite',pp,c,i,vs,rfl,rfl,hcx,hnm,hsu⟩,hrest⟩:=h
   obtain⟨Cc,hmc⟩:=hcx.mg C
   have IX:Inv (Cx.han (Cx.pin' X pins) x) [] σ1 H1 s1:=xS I1
   have hexm:=C.xmt kk x0 c hcx.2.1 hcx.2.2.2 Ck Cc ad hmc
   refine wpAny_handleBy_cons (codeAny_handlers_test (qJ (X:=Cx.han (Cx.pin' X pins) x) IX (C.glb x0 hcx.1) hmc ?_ (C.dbG x0 hcx.1))) (λq=>by cases q)
   refine (PySem.W.exm_one (M:=model X.prog X.w) IX.kIn (XcAt.ty (XTr.at tr)) hexm).at ?_
   have hio:isAny kk [c]=qX kk c:=by
    rw[ke];show bOr _ false=_
    cases qX kk c<;>rfl
   have p:PostS D W φ α1 H1 E (.br (qX kk c) (z0m i vs kk xfs τ1 μ1) (JN r' kk xfs τ1 μ1)):=by rw[←hio];exact p
   rcases PostS.br p with⟨hb,p⟩|⟨hb,p⟩
   ·rw[hb]
    obtain⟨Q,q,h1,h2,h3,h4,h5⟩:=p
    have C2:∀{X':Cx},X'=Cx.han (Cx.pin' X pins) x->Sk D noW {Γ with calm:=false} X' k:=λ{X'} hX'=>by
     subst hX'
     obtain⟨e0,out,L,F⟩:=C.frm
     exact {hK:=C.hK,hN:=C.hN,nd:=C.nd,vis:=C.vis,dbg:=C.dbg,dbG:=C.dbG,glb:=C.glb,glo:=C.glo,glU:=C.glU,cel:=C.cel,isi:=C.isi,fld:=C.fld,xcx:=C.xcx,ocx:=C.ocx,clv:=C.clv,clm:=(λz=>by cases z),rom:=(λz=>by cases z),rmh:=⟨C.rmh.dp,C.rmh.un⟩,xe:=(λe s p=>by obtain⟨_,_,_,_,_,_,_,_,_,_,_,_,_,z⟩:=p;exact z),frm:=⟨e0,out,L,F.stk,F.f0,F.fe⟩,lam:=C.lam,kfz:=C.kfz,sto:=C.sto,lcl:=C.lcl,pso:=PassesOwn.never,xmt:=C.xmt}
    have okX:X.Ok:=yG I1.ok
    cases nm with
    |none=>
     cases i with
     |some j=>exact False.elim hnm
     |none=>
      refine codeAny_handlers_suite (zY (X:=Cx.pin' X pins) I1 ox oT tr λh3' I3 tr3=>?_)
      have S:=qB (hsu _ (C2 rfl)) [] _ _ _ {nx:=E.nx,rt:=E.rt} (xS (x:=x) I3) ⟨φ,α1,τ1,μ1,sr1,m1,_,q,h1,(λ_ _ z=>z.elim),(λ_ _ z=>z.elim),h4,(λ_ _ _ _ z=>z.elim)⟩
      refine wpAny_mono S (λf s6 h6=>?_) (λ_ _ z=>z.elim)
      cases f with
      |next=>obtain⟨σ',H',I',q'⟩:=h6;exact⟨σ',H',zz (vM I1.ok I'),q'⟩
      |brk=>obtain⟨σ',H',I',q'⟩:=h6;exact q'.elim
      |cont=>obtain⟨σ',H',I',q'⟩:=h6;exact q'.elim
      |ret w=>obtain⟨y,σ',H',I',r,q'⟩:=h6;exact⟨y,σ',H',zz (vM I1.ok I'),r,q'⟩
    |some e=>
     cases i with
     |none=>exact False.elim hnm
     |some j=>
      obtain⟨hidx,hce⟩:=hnm
      refine codeAny_handlers_suite_as (zY (X:=Cx.pin' X pins) I1 ox oT tr λh3' I3 tr3=>?_)
      have I4:=ZZ (C:=Ck) (d:=d) I3 ox (λp hp=>absurd hp (by simp)) (XTr.at tr3)
      have st2:Stp α1 H1 α1 (upd H1 x (.ext (XcAt x Ck d))):=Stp.new (zb ox.free)
      have hloc:X.env.scope.names.lookup e=some .local:=C.lcl e (qh hidx) hce
      have hNd:X.N.Nodup:=by rw[C.hN];exact C.nd
      have hNi:X.N[j]?=some e:=by rw[C.hN];exact qz hidx
      refine js (X:=Cx.han (Cx.pin' X pins) x) (i:=j) (v:=.ref x) (xS I4) hNd hNi (.inl hloc) rfl (λs5 I5=>?_) (.inr hloc)
      have xd5:=xd.lk (st2.lk (φ:=φ))
      have den:Den D φ α1 (upd H1 x (.ext (XcAt x Ck d))) (.exc kk xfs) (.ref x):=⟨x,Ck,d,rfl,zf m1 ox.free,zh m1 ox.free,ad,z8,by cases d<;>exact xd5⟩
      have sr5:=(sr1.step st2).set (i:=j) den
      have m5:=m1.new (zb (o:=HO.ext (XcAt x Ck d)) ox.free)
      have S:=qB (hsu _ (C2 rfl)) [] s5 _ _ {nx:=λσ' H'=>E.nx (σ'.set j none) H',rt:=E.rt} I5 ⟨φ,α1,_,μ1,sr5,m5,_,q,(λτ2 μ2 z α' H' σ' st m r=>h1 _ μ2 z α' H' _ (st2.trans st) m r.unset),(λ_ _ z=>z.elim),(λ_ _ z=>z.elim),(λt μ2 z α' H' v st m dd=>h4 t μ2 z α' H' v (st2.trans st) m dd),(λ_ _ _ _ z=>z.elim)⟩
      have hkf:(X.env.scope.kind == .class || (X.env.scope.kind == .module&&X.env.locals != X.env.globals))=false:=by rw[okX.kind];rfl
      refine wpAny_mono S (λf s6 h6=>?_) (λ_ _ z=>z.elim)
      have fin:∀{σ6 H6},Inv (Cx.han (Cx.pin' X pins) x) [] σ6 H6 s6->(∀s7,Inv X pins (σ6.set j none) H6 s7->SP X pins E f s7)->wpAny (model X.prog X.w) X.A (do bindName X.env e .none;unbindBehindTheSuite X.env e pp) (λ_ s7=>SP X pins E f s7) X.xe s6:=λ{σ6 H6} I6 q=>by
       have I7:Inv X pins σ6 H6 s6:=zz (vM (Vk okX) I6)
       obtain⟨m,hn,hl⟩:=I7.loc
       refine wpAny_nameGoes_keeps hloc hn hkf λh7 u7 hn7 hs7=>?_
       exact q _ (ZK I7 hNd hNi hl hn7 hs7)
      cases f with
      |next=>obtain⟨σ',H',I',q'⟩:=h6;exact fin I' λs7 I7=>⟨_,H',I7,q'⟩
      |brk=>obtain⟨σ',H',I',q'⟩:=h6;exact q'.elim
      |cont=>obtain⟨σ',H',I',q'⟩:=h6;exact q'.elim
      |ret w=>obtain⟨y,σ',H',I',r,q'⟩:=h6;exact fin I' λs7 I7=>⟨y,_,H',I7,r,q'⟩
   ·rw[hb]
    exact QJ C ad hrest I1 ox oT tr xd m1 sr1 p
theorem XJ(C:Sk D W Γ X k)(hc:Γ.calm=true){body:List Stmt}{us:List Ds}{h0:ExceptHandler}{hs:List ExceptHandler}{r:List (List Nat×Option Nat×List Ds)}(hb:∀X' W',Sk D W' Γ X' k->ko X' D W' body us)(hh:Ka D Γ k (h0::hs) r) :
  PS X (.Try body (h0::hs) [] [] pos) (rdS D W (X5 us r)):=by
 rintro pins s σ H E I ⟨φ,α,τ,μ,sr,mr,Q,q,h1,h2,h3,h4,h5⟩
 obtain⟨e0,out,L,F⟩:=C.frm
 have F0:Frm (Cx.pin' X pins) e0 out L:=⟨F.stk,F.f0,F.fe⟩
 generalize hW:(λ(cls:Value) (d:Option Addr) (σ':St) (H':Hp)=>∃kk fs τ1 μ1 α1 Ck,JN r kk fs τ1 μ1 Q/\D.adr kk=some Ck/\cls=.ref Ck/\Stp α H α1 H'/\MRel D φ α1 H' μ1/\SRel D φ α1 H' τ1 σ'/\XDict D φ α1 H' fs d:XW)=W1
 have C1:Sk D W1 Γ ((Cx.pin' X pins).wish (XP (Cx.pin' X pins) W1)) k:={hK:=C.hK,hN:=C.hN,nd:=C.nd,vis:=C.vis,dbg:=C.dbg,dbG:=C.dbG,glb:=C.glb,glo:=C.glo,glU:=C.glU,cel:=C.cel,isi:=C.isi,fld:=C.fld,xcx:=C.xcx,ocx:=C.ocx,clv:=C.clv,clm:=C.clm,rom:=C.rom,rmh:=⟨C.rmh.dp,C.rmh.un⟩,xe:=λe s p=>vJ p,frm:=⟨e0,out,L,F.stk,F.f0,F.fe⟩,lam:=C.lam,kfz:=C.kfz,sto:=C.sto,lcl:=C.lcl,pso:=xt F0 I.ok.frames,xmt:=C.xmt}
 have B:=qB (hb _ W1 C1) [] s σ H E ((y2 I).wish _) ⟨φ,α,τ,μ,sr,mr,_,q,h1,h2,h3,h4,λkk fs τ1 μ1 z α' H' σ' Ck d st m sr' ad xd=>by rw[←hW];exact⟨kk,fs,τ1,μ1,α',Ck,z,ad,rfl,st,m,sr',xd⟩⟩
 refine wpAny_Try_except (wpAny_mono B (λf s1 h1=>?_) (λe1 s1 hx=>?_))
 ·cases f with
  |next=>obtain⟨σ',H',I',q⟩:=h1;exact Zd pins s1 σ' H' E (zz I'.unwish) q
  |brk=>obtain⟨σ',H',I',q⟩:=h1;exact⟨σ',H',zz I'.unwish,q⟩
  |cont=>obtain⟨σ',H',I',q⟩:=h1;exact⟨σ',H',zz I'.unwish,q⟩
  |ret w=>obtain⟨y,σ',H',I',r,q⟩:=h1;exact⟨y,σ',H',zz I'.unwish,r,q⟩
 have hx:XP (Cx.pin' X pins) W1 e1 s1:=hx
 refine ji (X:=Cx.pin' X pins) F0 I.ok.frames hx λx cls d σ1 H1 Tt h' ee I1 ox oT tr w=>?_
 subst ee
 refine zY (X:=Cx.pin' X pins) (s:={s1 with heap:=h'}) I1 ox oT tr λh2' I2 tr2=>?_
 rw[←hW] at w
 obtain⟨kk,fs,τ1,μ1,α1,Ck,z,ad,rfl,st1,m1,sr1,xd⟩:=w
 exact QJ C ad hh I2 ox oT tr2 xd m1 sr1 (PostS.step ⟨Q,z,h1,h2,h3,h4,h5⟩ st1)
end
structure Rec where
 e:Cn->Expr->Option De
 t:Cn->Expr->Option Dt
 w:Cn->Expr->Option Dt
 i:Cn->Expr->Option Di
 o:Cn->Expr->Option De
 s:Cn->Stmt->Option Ds
noncomputable abbrev ER:=Rec->Cn->Expr->Option De
noncomputable abbrev TR:=Rec->Cn->Expr->Option Dt
noncomputable abbrev IR:=Rec->Cn->Expr->Option Di
noncomputable abbrev SR:=Rec->Cn->Stmt->Option Ds
structure Rules where
 e:List ER
 t:List TR
 w:List TR
 i:List IR
 o:List ER
 s:List SR
noncomputable def xy {α β:Type}:List (Rec->Cn->α->Option β)->Rec->Cn->α->Option β
 |[],_,_,_=>none
 |f::fs,r,Γ,e=>match f r Γ e with
  |some d=>some d
  |none=>xy fs r Γ e
noncomputable def comp (R:Rules):Nat->Rec
 |0=>⟨λ_ _=>none,λ_ _=>none,λ_ _=>none,λ_ _=>none,λ_ _=>none,λ_ _=>none⟩
 |n+1=>⟨xy R.e (comp R n),xy R.t (comp R n),xy R.w (comp R n),xy R.i (comp R n),xy R.o (comp R n),xy R.s (comp R n)⟩
noncomputable def V3(tg e:Expr):Bool:=match e with
 |.Call (.Name x _) _ _ _=>(x != ("enumerate":Str)&&x != ("zip":Str)) || (match tg with|.Tuple _ _ _=>true|_=>false)
 |_=>true
structure RecOk(D:DP)(r:Rec):Prop where
 e:∀{X W Γ k e f},Ck D W Γ X k->r.e Γ e=some f->PE X e (rdE D W f)
 t:∀{X W Γ k e f},Ck D W Γ X k->r.t Γ e=some f->PT X e (rdT D W f)
 w:∀{X W Γ k e f},Ck D W Γ X k->r.w Γ e=some f->PW X e (rdT D W f)
 i:∀{X W Γ k tg e f},Ck D W Γ X k->V3 tg e=true->r.i Γ e=some f->PI X tg e (rdI D W f)
 o:∀{X W Γ k e f},Ck D W Γ X k->r.o Γ e=some f->PE X e (rdE D W f)
 s:∀{X W Γ k e f},Sk D W Γ X k->r.s Γ e=some f->PS X e (rdS D W f)
noncomputable def EOk (D:DP)(f:ER):Prop:=∀r,RecOk D r->∀{X W Γ k e d},Ck D W Γ X k->f r Γ e=some d->PE X e (rdE D W d)
noncomputable def TOk (D:DP)(f:TR):Prop:=∀r,RecOk D r->∀{X W Γ k e d},Ck D W Γ X k->f r Γ e=some d->PT X e (rdT D W d)
noncomputable def WOk (D:DP)(f:TR):Prop:=∀r,RecOk D r->∀{X W Γ k e d},Ck D W Γ X k->f r Γ e=some d->PW X e (rdT D W d)
noncomputable def IOk (D:DP)(f:IR):Prop:=∀r,RecOk D r->∀{X W Γ k tg e d},Ck D W Γ X k->V3 tg e=true->f r Γ e=some d->PI X tg e (rdI D W d)
noncomputable def SOk (D:DP)(f:SR):Prop:=∀r,RecOk D r->∀{X W Γ k e d},Sk D W Γ X k->f r Γ e=some d->PS X e (rdS D W d)
noncomputable def vV{α:Type}(P:α->Prop):List α->Prop
 |[]=>True
 |f::fs=>P f/\vV P fs
structure RulesOk(D:DP)(R:Rules):Prop where
 e:vV (EOk D) R.e
 t:vV (TOk D) R.t
 w:vV (WOk D) R.w
 i:vV (IOk D) R.i
 o:vV (EOk D) R.o
 s:vV (SOk D) R.s
theorem qV{α β:Type}{P:(Rec->Cn->α->Option β)->Prop}{C:Prop}{r:Rec}{Γ:Cn}{e:α}{d:β}:∀{fs:List (Rec->Cn->α->Option β)},vV P fs->(∀f,P f->f r Γ e=some d->C)->xy fs r Γ e=some d->C
 |[],_,_,h=>by cases h
 |f::fs,a,k,h=>by
  unfold xy at h
  cases q:f r Γ e with
  |some d'=>rw[q] at h;cases h;exact k f a.1 q
  |none=>rw[q] at h;exact qV a.2 k h
theorem qw{D:DP}{R:Rules}(H:RulesOk D R):∀n,RecOk D (comp R n)
 |0=>⟨λ_ h=>(by cases h),λ_ h=>(by cases h),λ_ h=>(by cases h),λ_ _ h=>(by cases h),λ_ h=>(by cases h),λ_ h=>(by cases h)⟩
 |n+1=>⟨λC h=>qV H.e (λf p q=>p _ (qw H n) C q) h,λC h=>qV H.t (λf p q=>p _ (qw H n) C q) h,λC h=>qV H.w (λf p q=>p _ (qw H n) C q) h,λC ht h=>qV H.i (λf p q=>p _ (qw H n) C ht q) h,λC h=>qV H.o (λf p q=>p _ (qw H n) C q) h,λC h=>qV H.s (λf p q=>p _ (qw H n) C q) h⟩
noncomputable def gd{α:Type}(b:Bool)(o:Option α):Option α:=match b with
 |true=>o
 |false=>none
theorem zm{α:Type}{b:Bool}{o:Option α}{x:α}(h:gd b o=some x):b=true/\o=some x:=by
 cases b with
 |true=>exact⟨rfl,h⟩
 |false=>cases h
theorem bnd{α β:Type}{o:Option α}{f:α->Option β}{x:β}(h:o.bind f=some x):∃a,o=some a/\f a=some x:=Option.bind_eq_some_iff.mp h
noncomputable def zD {α β:Type}(f:α->Option β):List α->Option (List β)
 |[]=>some []
 |a::r=>(f a).bind λb=>(zD f r).bind λbs=>some (b::bs)
noncomputable def cEs (r:Rec)(Γ:Cn)(es:List Expr):Option (List De):=zD (λe=>gd (noStar e) (r.e Γ e)) es
section
variable {D:DP}{r:Rec}{X:Cx}{W:XW}{Γ:Cn}{k:Nat}
theorem vO(h:RecOk D r)(C:Ck D W Γ X k):∀{es:List Expr} {fs:List De},cEs r Γ es=some fs->EsOk X D W es fs
 |[],fs,e=>by cases e;trivial
 |a::es,fs,e=>by
  obtain⟨f,h1,e⟩:=bnd e
  obtain⟨gs,h2,e⟩:=bnd e
  cases e
  obtain⟨h3,h4⟩:=zm h1
  exact⟨h3,h.e C h4,vO h C h2⟩
theorem vi(h:RecOk D r)(C:Ck D W Γ X k):∀{es:List Expr} {fs:List Dt},zD (r.t Γ) es=some fs->uy X D W es fs
 |[],fs,e=>by cases e;trivial
 |a::es,fs,e=>by
  obtain⟨f,h1,e⟩:=bnd e
  obtain⟨gs,h2,e⟩:=bnd e
  cases e
  exact⟨h.t C h1,vi h C h2⟩
theorem qi(h:RecOk D r)(C:Sk D W Γ X k):∀{es:List Stmt} {fs:List Ds},zD (r.s Γ) es=some fs->ko X D W es fs
 |[],fs,e=>by cases e;trivial
 |a::es,fs,e=>by
  obtain⟨f,h1,e⟩:=bnd e
  obtain⟨gs,h2,e⟩:=bnd e
  cases e
  exact⟨h.s C h1,qi h C h2⟩
end
noncomputable def z0B:ER:=λ_ _ e=>match e with
 |.Constant c _ _=>(match c with
  |.int i=>some (eC (.int i))
  |.bool b=>some (eC (.bl b))
  |.none=>some (eC .non)
  |.str x=>some (eC (.str x))
  |_=>none)
 |_=>none
theorem JI{D:DP}:EOk D z0B:=by
 intro r H X W Γ k e d C h
 cases e with
 |Constant c j p=>
  cases c with
  |int i=>cases h;exact YU
  |bool i=>cases h;exact z0u
  |none=>cases h;exact XX
  |str i=>cases h;exact YR
  |_=>cases h
 |_=>cases h
noncomputable def Xm:ER:=λ_ Γ e=>match e with
 |.Name x _=>(match idx Γ.N x with
  |some i=>some (eV i)
  |none=>(match Γ.look x with
   |.cst t=>some (eC t)
   |_=>none))
 |_=>none
theorem VY{D:DP}:EOk D Xm:=by
 intro r H X W Γ k e d C h
 cases e with
 |Name x p=>
  simp only[Xm] at h
  cases q:idx Γ.N x with
  |some i=>rw[q] at h;cases h;exact YZ C q
  |none=>
   rw[q] at h
   cases hl:Γ.look x with
   |cst t=>
    simp only[hl] at h
    cases h
    obtain⟨hx,hg⟩:=qO hl (by intro z;cases z)
    exact XD C hx hg
   |_=>simp[hl] at h
 |_=>cases h
noncomputable def z0z:ER:=λr Γ e=>match e with
 |.BinOp a op b _=>(r.e Γ a).bind λf=>(r.e Γ b).bind λg=>some (zi op f g)
 |_=>none
theorem Jd{D:DP}:EOk D z0z:=by
 intro r H X W Γ k e d C h
 cases e with
 |BinOp a op b p=>
  obtain⟨f,h1,h⟩:=bnd h
  obtain⟨g,h2,h⟩:=bnd h
  cases h
  exact YF (H.e C h1) (H.e C h2)
 |_=>cases h
noncomputable def rUn:ER:=λr Γ e=>match e with
 |.UnaryOp op a _=>(r.e Γ a).bind λf=>(match op with
  |.USub=>some (QU f)
  |.Not=>some (UR f)
  |_=>none)
 |_=>none
theorem Xd{D:DP}:EOk D rUn:=by
 intro r H X W Γ k e d C h
 cases e with
 |UnaryOp op a p=>
  obtain⟨f,h1,h⟩:=bnd h
  cases op with
  |USub=>cases h;exact Yk (H.e C h1)
  |Not=>cases h;exact YO (H.e C h1)
  |_=>cases h
 |_=>cases h
noncomputable def KD:ER:=λr Γ e=>match e with
 |.BoolOp op es p=>(match es with
  |[a]=>r.e Γ a
  |a::b::l=>(r.e Γ a).bind λf=>(r.e Γ (.BoolOp op (b::l) p)).bind λg=>some (match op with|.And=>XC f g|.Or=>eOr f g)
  |[]=>none)
 |_=>none
theorem Qx{D:DP}:EOk D KD:=by
 intro r H X W Γ k e d C h
 cases e with
 |BoolOp op es p=>
  match es with
  |[]=>cases h
  |[a]=>exact YW (H.e C h)
  |a::b::l=>
   obtain⟨f,h1,h⟩:=bnd h
   obtain⟨g,h2,h⟩:=bnd h
   cases h
   cases op with
   |And=>exact U1 (H.e C h1) (H.e C h2)
   |Or=>exact UX (H.e C h1) (H.e C h2)
 |_=>cases h
noncomputable def chs (r:Rec)(Γ:Cn):List CmpOp->List Expr->Option (List (CmpOp×De))
 |[],[]=>some []
 |op::ops,e::es=>gd (wY op) ((r.e Γ e).bind λf=>(chs r Γ ops es).bind λps=>some ((op,f)::ps))
 |_,_=>none
theorem VE{D:DP}{r:Rec}{X:Cx}{W:XW}{Γ:Cn}{k:Nat}(H:RecOk D r)(C:Ck D W Γ X k):∀{ops:List CmpOp} {es:List Expr} {ps:List (CmpOp×De)},chs r Γ ops es=some ps->Qa X D W es ps/\ps.map (·.1)=ops/\ps.all (λp=>wY p.1)=true
 |[],[],ps,h=>by cases h;exact⟨trivial,rfl,rfl⟩
 |[],_::_,ps,h=>by cases h
 |_::_,[],ps,h=>by cases h
 |op::ops,e::es,ps,h=>by
  obtain⟨hb,h⟩:=zm h
  obtain⟨f,h1,h⟩:=bnd h
  obtain⟨qs,h2,h⟩:=bnd h
  cases h
  obtain⟨k1,k2,k3⟩:=VE H C h2
  exact⟨⟨H.e C h1,k1⟩,by simp[k2],by simp[hb,k3]⟩
noncomputable def Xc (r:Rec)(Γ:Cn)(a:Expr)(ops:List CmpOp)(es:List Expr):Option De:=(r.e Γ a).bind λf=>(match ops,es with
 |[op],[b]=>gd (wI op b) ((r.e Γ b).bind λg=>some (zp op f g))
 |_::_::_,_::_::_=>(chs r Γ ops es).bind λps=>some (eCh f ps)
 |_,_=>none)
theorem Za{D:DP}{r:Rec}{X:Cx}{W:XW}{Γ:Cn}{k:Nat}(H:RecOk D r)(C:Ck D W Γ X k){a:Expr}{ops:List CmpOp}{es:List Expr}{p:Pos}{d:De}(h:Xc r Γ a ops es=some d):PE X (.Compare a ops es p) (rdE D W d)/\PT X (.Compare a ops es p) (rdT D W (tE d)):=by
 obtain⟨f,h1,h⟩:=bnd h
 match ops,es with
 |[op],[b]=>
  obtain⟨ho,h⟩:=zm h
  obtain⟨g,h2,h⟩:=bnd h
  cases h
  exact⟨Yr C ho (H.e C h1) (H.e C h2),ub C ho (H.e C h1) (H.e C h2)⟩
 |op::op'::ops,e::e'::es=>
  obtain⟨ps,h2,h⟩:=bnd h
  cases h
  obtain⟨k1,k2,k3⟩:=VE H C h2
  match ps with
  |[]=>cases k2
  |[p1]=>simp at k2
  |p1::p2::ps=>
   simp only[List.map_cons,List.cons.injEq] at k2
   obtain⟨rfl,rfl,rfl⟩:=k2
   exact⟨VC C k3 (H.e C h1) k1,yE C k3 (H.e C h1) k1⟩
 |[],es=>cases h
 |[_],[]=>cases h
 |[_],_::_::_=>cases h
 |_::_::_,[]=>cases h
 |_::_::_,[_]=>cases h
noncomputable def UZ:ER:=λr Γ e=>match e with
 |.Compare a ops es _=>Xc r Γ a ops es
 |_=>none
theorem JQ{D:DP}:EOk D UZ:=by
 intro r H X W Γ k e d C h
 cases e with
 |Compare a ops es p=>exact (Za H C h).1
 |_=>cases h
noncomputable def z0b:ER:=λr Γ e=>match e with
 |.IfExp c a b _=>(r.t Γ c).bind λt=>(r.e Γ a).bind λf=>(r.e Γ b).bind λg=>some (eIf t f g)
 |_=>none
theorem JW{D:DP}:EOk D z0b:=by
 intro r H X W Γ k e d C h
 cases e with
 |IfExp c a b p=>
  obtain⟨t,h0,h⟩:=bnd h
  obtain⟨f,h1,h⟩:=bnd h
  obtain⟨g,h2,h⟩:=bnd h
  cases h
  exact z01 (H.t C h0) (H.e C h1) (H.e C h2)
 |_=>cases h
noncomputable def z1k:ER:=λr Γ e=>match e with
 |.Attribute a x _=>gd (zM a) ((r.e Γ a).bind λf=>(Γ.fld.lookup x).bind λn=>some (z0Z f n))
 |_=>none
noncomputable def prt (r:Rec)(Γ:Cn):Option Expr->Option Dp
 |none=>some pN
 |some e=>(r.e Γ e).bind λf=>some (pS f)
theorem Wa{D:DP}{r:Rec}{X:Cx}{W:XW}{Γ:Cn}{k:Nat}(H:RecOk D r)(C:Ck D W Γ X k){o:Option Expr}{d:Dp}(h:prt r Γ o=some d):PO X o (rdO D W d):=by
 cases o with
 |none=>cases h;exact Kf
 |some e=>
  obtain⟨f,h1,h⟩:=bnd h
  cases h
  exact Jz (H.e C h1)
noncomputable def Ub:ER:=λr Γ e=>match e with
 |.Subscript a b _=>(match b with
  |.Slice lo hi st _=>(match st with
   |none=>(r.e Γ a).bind λf=>(prt r Γ lo).bind λl=>(prt r Γ hi).bind λu=>some (eSl f l u)
   |some _=>none)
  |b=>gd (qr b) ((r.e Γ a).bind λf=>(r.e Γ b).bind λg=>some (eIx f g)))
 |_=>none
theorem J2{D:DP}:EOk D Ub:=by
 intro r H X W Γ k e d C h
 cases e with
 |Subscript a b p=>
  have gen:∀{b},gd (qr b) ((r.e Γ a).bind λf=>(r.e Γ b).bind λg=>some (eIx f g))=some d->PE X (.Subscript a b p) (rdE D W d):=λ{b} h=>by
   obtain⟨hp,h⟩:=zm h
   obtain⟨f,h1,h⟩:=bnd h
   obtain⟨g,h2,h⟩:=bnd h
   cases h
   exact Uy hp C.hK (H.e C h1) (H.e C h2)
  cases b with
  |Slice lo hi st p2=>
   cases st with
   |some _=>cases h
   |none=>
    obtain⟨f,h1,h⟩:=bnd h
    obtain⟨l,h2,h⟩:=bnd h
    obtain⟨u,h3,h⟩:=bnd h
    cases h
    exact WI (H.e C h1) (Wa H C h2) (Wa H C h3)
  |_=>exact gen h
 |_=>cases h
noncomputable def z04:ER:=λr Γ e=>match e with
 |.List es _=>gd (decide (es.length<=room)) ((cEs r Γ es).bind λfs=>some (qm fs))
 |.Tuple es _ _=>gd (decide (es.length<=room)) ((cEs r Γ es).bind λfs=>some (vC fs))
 |_=>none
theorem Jf{D:DP}:EOk D z04:=by
 intro r H X W Γ k e d C h
 cases e with
 |List es p=>
  obtain⟨hl,h⟩:=zm h
  obtain⟨fs,h1,h⟩:=bnd h
  cases h
  exact YX (of_decide_eq_true hl) (vO H C h1)
 |Tuple es kk p=>
  obtain⟨hl,h⟩:=zm h
  obtain⟨fs,h1,h⟩:=bnd h
  cases h
  exact XA (of_decide_eq_true hl) (vO H C h1)
 |_=>cases h
noncomputable def Um:ER:=λr Γ e=>match e with
 |.Call (.Name x _) es [] _=>gd ((idx Γ.N x).isNone&&Γ.calm) ((cEs r Γ es).bind λfs=>(match Γ.look x with
  |.fn g=>some (za g fs)
  |.mk c true g=>some (eMk c g fs)
  |_=>none))
 |_=>none
theorem Jk{D:DP}:EOk D Um:=by
 intro r H X W Γ k e d C h
 unfold Um at h
 split at h
 ·rename_i x p0 es pos
  obtain⟨hb,h⟩:=zm h
  simp only[Bool.and_eq_true] at hb
  obtain⟨fs,h1,h⟩:=bnd h
  cases hl:Γ.look x with
  |fn g=>
   simp only[hl] at h
   cases h
   obtain⟨hx,hg⟩:=qO hl (by intro z;cases z)
   exact K9 C hx hg hb.2 (vO H C h1)
  |mk c z g=>
   cases z with
   |true=>
    simp only[hl] at h
    cases h
    obtain⟨hx,hg⟩:=qO hl (by intro z;cases z)
    exact J8 C hx hg hb.2 (vO H C h1)
   |false=>simp[hl] at h
  |_=>simp[hl] at h
 ·cases h
noncomputable def rB1 (nm:Str)(op:T->Mem->RE T)(cl:Bool):ER:=λr Γ e=>match e with
 |.Call (.Name x _) [a] [] _=>gd (x == nm&&(idx Γ.N x).isNone&&noStar a&&(!cl || Γ.calm)) ((r.e Γ a).bind λf=>(match Γ.look x with
  |.none=>some (eB1 op f)
  |_=>none))
 |_=>none
theorem jY{D:DP}{nm:Str}{op:T->Mem->RE T}{cl:Bool}(H1:∀{X:Cx} {W:XW} {Γ:Cn} {k:Nat} {a:Expr} {f:De} {p0 pos:Pos},Ck D W Γ X k->nm∈Γ.G->Γ.gl nm=.none->(cl=true->Γ.calm=true)->noStar a=true->PE X a (rdE D W f)->PE X (.Call (.Name nm p0) [a] [] pos) (rdE D W (eB1 op f))):EOk D (rB1 nm op cl):=by
 intro r H X W Γ k e d C h
 unfold rB1 at h
 split at h
 ·rename_i x p0 a pos
  have hh:=zm h
  clear h
  obtain⟨hb,h⟩:=hh
  simp only[Bool.and_eq_true,beq_iff_eq,Bool.or_eq_true,Bool.not_eq_true'] at hb
  obtain⟨⟨⟨rfl,h2⟩,h3⟩,h4⟩:=hb
  obtain⟨f,h1,h⟩:=bnd h
  cases hl:Γ.look x with
  |none=>
   simp only[hl] at h
   cases h
   obtain⟨hx,hg⟩:=qO hl (by intro z;cases z)
   exact H1 C hx hg (λz=>h4.resolve_left (by rw[z];simp)) h3 (H.e C h1)
  |_=>simp[hl] at h
 ·cases h
noncomputable def z0n:ER:=rB1 "len" j3 false
theorem J7{D:DP}:EOk D z0n:=jY λC hx hg _ hs ha=>KZ C hx hg boot_len (by decide) hs z0q ha
noncomputable def X0:ER:=rB1 "tuple" jr false
theorem Qw{D:DP}:EOk D X0:=jY λC hx hg _ hs ha=>Vq C hx hg (by decide +kernel) (by decide) hs Jo ha
noncomputable def US:ER:=rB1 "all" VF true
theorem Ja{D:DP}:EOk D US:=jY λC hx hg hc hs ha=>KZ C hx hg boot_all (by decide) hs (z0w (C.clm (hc rfl))) ha
noncomputable def X4:ER:=λr Γ e=>match e with
 |.Call (.Name x _) [a,c] [] _=>gd (x == ("isinstance":Str)&&(idx Γ.N x).isNone&&noStar a) ((r.e Γ a).bind λf=>(jU Γ c).bind λcs=>(match Γ.look x with
  |.none=>some (x_ cs f)
  |_=>none))
 |_=>none
theorem Kc{D:DP}:EOk D X4:=by
 intro r H X W Γ k e d C h
 unfold X4 at h
 split at h
 ·rename_i x p0 a c pos
  have hh:=zm h
  clear h
  obtain⟨hb,h⟩:=hh
  simp only[Bool.and_eq_true,beq_iff_eq] at hb
  obtain⟨⟨rfl,h2⟩,h3⟩:=hb
  obtain⟨f,h1,h⟩:=bnd h
  obtain⟨cs,h4,h⟩:=bnd h
  cases hl:Γ.look "isinstance" with
  |none=>
   simp only[hl] at h
   cases h
   obtain⟨hx,hg⟩:=qO hl (by intro z;cases z)
   exact X9 C hx hg h3 h4 (H.e C h1)
  |_=>simp[hl] at h
 ·cases h
noncomputable def rM1 (nm:Str)(cb:De->De->De):ER:=λr Γ e=>match e with
 |.Call (.Attribute o m pa) [a] [] pc=>gd (m == nm&&zM o&&noStar a&&pa.endLine == pc.line) ((r.e Γ o).bind λf=>(r.e Γ a).bind λg=>some (cb f g))
 |_=>none
theorem QX{D:DP}{nm:Str}{cb:De->De->De}(H1:∀{X:Cx} {W:XW} {Γ:Cn} {k:Nat} {o a:Expr} {f g:De} {pa pc:Pos},Ck D W Γ X k->zM o=true->noStar a=true->(pa.endLine == pc.line)=true->PE X o (rdE D W f)->PE X a (rdE D W g)->PE X (.Call (.Attribute o nm pa) [a] [] pc) (rdE D W (cb f g))):EOk D (rM1 nm cb):=by
 intro r H X W Γ k e d C h
 unfold rM1 at h
 split at h
 ·have hh:=zm h
  clear h
  obtain⟨hb,h⟩:=hh
  simp only[Bool.and_eq_true] at hb
  obtain⟨⟨⟨h0,h2⟩,h3⟩,h4⟩:=hb
  have h0:=beq_iff_eq.mp h0
  subst h0
  obtain⟨f,h1,h⟩:=bnd h
  obtain⟨g,h5,h⟩:=bnd h
  cases h
  exact H1 C h2 h3 h4 (H.e C h1) (H.e C h5)
 ·cases h
noncomputable def Y9 (r:Rec)(Γ:Cn)(elt tg iter:Expr)(ifs:List Expr)(sc:Scope)(mk:Nat->List Nat->Tg->Di->List Dt->De->De):Option De:=
 gd (Γ.calm&&u9 Γ.N Γ.cel tg sc&&qt iter&&V3 tg iter) ((ja Γ.N (frees sc)).bind λfs=>(qp (z5 tg++frees sc) tg).bind λtgt=>(r.i Γ iter).bind λfi=>(zD (r.t (inComp Γ tg sc)) ifs).bind λcs=>(r.e (inComp Γ tg sc) elt).bind λfe=>some (mk (z5 tg).length fs tgt fi cs fe))
theorem Z9{r:Rec}{Γ:Cn}{elt tg iter:Expr}{ifs:List Expr}{sc:Scope}{mk:Nat->List Nat->Tg->Di->List Dt->De->De}{d:De}(h:Y9 r Γ elt tg iter ifs sc mk=some d) :
  ∃fs tgt fi cs fe,Γ.calm=true/\CompOk Γ.N Γ.cel tg sc/\(qt iter=true/\V3 tg iter=true)/\ja Γ.N (frees sc)=some fs/\qp (z5 tg++frees sc) tg=some tgt/\r.i Γ iter=some fi/\zD (r.t (inComp Γ tg sc)) ifs=some cs/\r.e (inComp Γ tg sc) elt=some fe/\d=mk (z5 tg).length fs tgt fi cs fe:=by
 obtain⟨hb,h⟩:=zm h
 simp only[Bool.and_eq_true] at hb
 obtain⟨fs,h1,h⟩:=bnd h
 obtain⟨tgt,h2,h⟩:=bnd h
 obtain⟨fi,h3,h⟩:=bnd h
 obtain⟨cs,h4,h⟩:=bnd h
 obtain⟨fe,h5,h⟩:=bnd h
 cases h
 exact⟨fs,tgt,fi,cs,fe,hb.1.1.1,Qm hb.1.1.2,⟨hb.1.2,hb.2⟩,h1,h2,h3,h4,h5,rfl⟩
noncomputable def Wr:ER:=λr Γ e=>match e with
 |.ListComp elt [⟨tg,iter,ifs,z⟩] sc _=>gd (z == 0) (Y9 r Γ elt tg iter ifs sc qf)
 |_=>none
theorem VP{D:DP}:EOk D Wr:=by
 intro r H X W Γ k e d C h
 unfold Wr at h
 split at h
 ·have hh:=zm h
  clear h
  obtain⟨hz,h⟩:=hh
  have hz:=beq_iff_eq.mp hz
  subst hz
  obtain⟨fs,tgt,fi,cs,fe,h1,h2,h3,h4,h5,h6,h7,h8,rfl⟩:=Z9 h
  exact Zh C h1 h2 h4 h5 (H.i C h3.2 h6) (λX' W' C'=>H.e C' h8) (λX' W' C'=>vi H C' h7) (yn h3.1)
 ·cases h
noncomputable def KA:TR:=λr Γ e=>match e with
 |.Name _ _=>(r.e Γ e).bind λf=>some (tE f)
 |.Call _ _ _ _=>(r.e Γ e).bind λf=>some (tE f)
 |.Subscript _ _ _=>(r.e Γ e).bind λf=>some (tE f)
 |.Attribute _ _ _=>(r.e Γ e).bind λf=>some (tE f)
 |.Compare a ops es _=>(Xc r Γ a ops es).bind λf=>some (tE f)
 |.UnaryOp op a _=>(match op with
  |.Not=>(r.t Γ a).bind λf=>some (wz f)
  |_=>none)
 |.BoolOp _ _ _=>r.w Γ e
 |_=>none
theorem Vr{D:DP}:TOk D KA:=by
 intro r H X W Γ k e d C h
 cases e with
 |Name x p=>
  obtain⟨f,h1,h⟩:=bnd h
  cases h
  exact Z1 (H.e C h1) λ_=>rfl
 |Call f args kws p=>
  obtain⟨f,h1,h⟩:=bnd h
  cases h
  exact Z1 (H.e C h1) λ_=>rfl
 |Subscript a b p=>
  obtain⟨f,h1,h⟩:=bnd h
  cases h
  exact Z1 (H.e C h1) λ_=>rfl
 |Attribute a b p=>
  obtain⟨f,h1,h⟩:=bnd h
  cases h
  exact Z1 (H.e C h1) λ_=>rfl
 |Compare a ops es p=>
  obtain⟨f,h1,h⟩:=bnd h
  cases h
  exact (Za H C h1).2
 |UnaryOp op a p=>
  cases op with
  |Not=>
   obtain⟨f,h1,h⟩:=bnd h
   cases h
   exact Yg (H.t C h1)
  |_=>cases h
 |BoolOp op es p=>exact (H.w C h).pt
 |_=>cases h
noncomputable def QM:TR:=λr Γ e=>match e with
 |.BoolOp op es p=>(match es with
  |[a]=>r.t Γ a
  |a::b::l=>(r.t Γ a).bind λf=>(r.w Γ (.BoolOp op (b::l) p)).bind λg=>some (match op with|.And=>yy f g|.Or=>tOr f g)
  |[]=>none)
 |_=>none
theorem ZN{D:DP}:WOk D QM:=by
 intro r H X W Γ k e d C h
 cases e with
 |BoolOp op es p=>
  match es with
  |[]=>cases h
  |[a]=>
   cases op with
   |And=>exact JJ (H.t C h)
   |Or=>exact XM (H.t C h)
  |a::b::l=>
   obtain⟨f,h1,h⟩:=bnd h
   obtain⟨g,h2,h⟩:=bnd h
   cases h
   cases op with
   |And=>exact Ya (H.t C h1) (H.w C h2)
   |Or=>exact z0r (H.t C h1) (H.w C h2)
 |_=>cases h
noncomputable def Vw:IR:=λr Γ e=>match e with
 |.Call (.Name x _) as [] _=>gd (x == ("range":Str)&&(idx Γ.N x).isNone&&as.all noStar) (match Γ.look x with
  |.none=>(match as with
   |[a]=>(r.e Γ a).bind λf=>some (XQ f)
   |[a,b]=>(r.e Γ a).bind λf=>(r.e Γ b).bind λg=>some (WQ f g)
   |[a,b,c]=>(r.e Γ a).bind λf=>(r.e Γ b).bind λg=>(r.e Γ c).bind λh=>some (Kw f g h)
   |_=>none)
  |_=>none)
 |_=>none
theorem Vy{D:DP}:IOk D Vw:=by
 intro r H X W Γ k tg e d C ht h
 unfold Vw at h
 split at h
 ·rename_i x p0 as pos
  have hh:=zm h
  clear h
  obtain⟨hb,h⟩:=hh
  simp only[Bool.and_eq_true] at hb
  obtain⟨⟨h0,h2⟩,h3⟩:=hb
  have h0:=beq_iff_eq.mp h0
  subst h0
  cases hl:Γ.look "range" with
  |none=>
   obtain⟨hx,hg⟩:=qO hl (by intro z;cases z)
   simp only[hl] at h
   match as with
   |[]=>cases h
   |[a]=>
    simp only[List.all_cons,Bool.and_eq_true] at h3
    obtain⟨f,h1,h⟩:=bnd h
    cases h
    exact Wn C hx hg h3.1 (H.e C h1)
   |[a,b]=>
    simp only[List.all_cons,Bool.and_eq_true] at h3
    obtain⟨f,h1,h⟩:=bnd h
    obtain⟨g,h4,h⟩:=bnd h
    cases h
    exact Q4 C hx hg h3.1 h3.2.1 (H.e C h1) (H.e C h4)
   |[a,b,c]=>
    simp only[List.all_cons,Bool.and_eq_true] at h3
    obtain⟨f,h1,h⟩:=bnd h
    obtain⟨g,h4,h⟩:=bnd h
    obtain⟨g2,h5,h⟩:=bnd h
    cases h
    exact Qq C hx hg h3.1 h3.2.1 h3.2.2.1 (H.e C h1) (H.e C h4) (H.e C h5)
   |_::_::_::_::_=>cases h
  |_=>simp[hl] at h
 ·cases h
noncomputable def riE:IR:=λr Γ e=>(r.e Γ e).bind λf=>some (iE f)
theorem YV{D:DP}:IOk D riE:=by
 intro r H X W Γ k tg e d C ht h
 obtain⟨f,h1,h⟩:=bnd h
 cases h
 exact Jt (H.e C h1)
noncomputable def Ks:ER:=λr Γ e=>match e with
 |.List es _=>gd (decide (es.length<=room)) ((cEs r Γ es).bind λfs=>some (Xj fs))
 |_=>none
theorem QH{D:DP}:EOk D Ks:=by
 intro r H X W Γ k e d C h
 cases e with
 |List es p=>
  obtain⟨hl,h⟩:=zm h
  obtain⟨fs,h1,h⟩:=bnd h
  cases h
  exact U8 (of_decide_eq_true hl) (vO H C h1)
 |_=>cases h
noncomputable def Qp (r:Rec)(Γ:Cn)(x:Str)(e:Expr):Option De:=match Γ.own.contains x with
 |true=>r.o Γ e
 |false=>r.e Γ e
theorem xB{D:DP}{r:Rec}{X:Cx}{W:XW}{Γ:Cn}{k:Nat}(H:RecOk D r)(C:Ck D W Γ X k){x:Str}{e:Expr}{d:De}(h:Qp r Γ x e=some d):PE X e (rdE D W d):=by
 unfold Qp at h
 cases q:Γ.own.contains x with
 |true=>rw[q] at h;exact H.o C h
 |false=>rw[q] at h;exact H.e C h
noncomputable def KU:SR:=λr Γ s=>match s with
 |.Return o _=>(match o with
  |some e=>(Qp r Γ "return" e).bind λf=>some (zu f)
  |none=>some KO)
 |_=>none
theorem QC{D:DP}:SOk D KU:=by
 intro r H X W Γ k e d C h
 cases e with
 |Return o p=>
  cases o with
  |none=>cases h;exact VX
  |some e=>
   obtain⟨f,h1,h⟩:=bnd h
   cases h
   exact Xw (xB H C.toCk h1)
 |_=>cases h
noncomputable def isCall:Expr->Bool
 |.Call _ _ _ _=>true
 |.Constant _ _ _=>true
 |_=>false
noncomputable def KL:SR:=λr Γ s=>match s with
 |.Expr e _=>gd (isCall e) ((r.e Γ e).bind λf=>some (W6 f))
 |_=>none
theorem V8{D:DP}:SOk D KL:=by
 intro r H X W Γ k e d C h
 cases e with
 |Expr e p=>
  obtain⟨hb,h⟩:=zm h
  obtain⟨f,h1,h⟩:=bnd h
  cases h
  exact Ki (by cases e<;>first|(simp[isCall] at hb;done)|rfl) (H.e C.toCk h1)
 |_=>cases h
noncomputable def UJ:SR:=λr Γ s=>match s with
 |.If c a b _=>(r.t Γ c).bind λt=>(zD (r.s Γ) a).bind λus=>(zD (r.s Γ) b).bind λvs=>some (sIf t us vs)
 |_=>none
theorem J_{D:DP}:SOk D UJ:=by
 intro r H X W Γ k e d C h
 cases e with
 |If c a b p=>
  obtain⟨t,h1,h⟩:=bnd h
  obtain⟨us,h2,h⟩:=bnd h
  obtain⟨vs,h3,h⟩:=bnd h
  cases h
  exact z0h (H.t C.toCk h1) (qi H C h2) (qi H C h3)
 |_=>cases h
noncomputable def xT:Expr->Bool
 |.ListComp _ _ _ _=>true
 |.SetComp _ _ _ _=>true
 |.DictComp _ _ _ _ _=>true
 |_=>false
noncomputable def z0C (r:Rec)(Γ:Cn)(t e:Expr):Option Ds:=gd (nFz Γ t) (match t with
 |.Name x _=>(idx Γ.N x).bind λi=>(match e with
  |.ListComp elt gs sc _=>(match gs with
   |[g]=>gd (g.is_async == 0) ((Y9 r Γ elt g.target g.iter g.ifs sc (match Γ.own.contains x with|true=>wW|false=>qf)).bind λf=>some (zo i f))
   |_=>none)
  |e=>gd (!xT e) ((Qp r Γ x e).bind λf=>some (zo i f)))
 |.Tuple es _ _=>gd (Γ.calm&&vo e) ((idxs Γ.N es).bind λis=>(r.e Γ e).bind λf=>some (UG is f))
 |.Attribute o x _=>(Γ.fld.lookup x).bind λn=>(Qp r Γ x e).bind λf=>(r.e Γ o).bind λgo=>some (V_ go n f)
 |.Subscript o b _=>gd (qr b) ((r.e Γ e).bind λf=>(r.e Γ o).bind λgo=>(r.e Γ b).bind λgb=>some (Ww go gb f))
 |_=>none)
noncomputable def KN:SR:=λr Γ s=>match s with
 |.Assign ts e _=>(match ts with
  |[t]=>z0C r Γ t e
  |_=>none)
 |_=>none
theorem Jl{D:DP}{r:Rec}(H:RecOk D r){X:Cx}{W:XW}{Γ:Cn}{k:Nat}{t e:Expr}{pos:Pos}{d:Ds}(C:Sk D W Γ X k)(h:z0C r Γ t e=some d):PS X (.Assign [t] e pos) (rdS D W d):=by
 have hh0:=zm h
 clear h
 obtain⟨hfz,h⟩:=hh0
 cases t with
 |Name x p=>
  obtain⟨i,hi,h⟩:=bnd h
  have gen:xT e=false->gd (!xT e) ((Qp r Γ x e).bind λf=>some (zo i f))=some d->PS X (.Assign [.Name x p] e pos) (rdS D W d):=λhc h=>by
   obtain⟨_,h⟩:=zm h
   obtain⟨f,h1,h⟩:=bnd h
   cases h
   exact V2 C hi hfz (by cases e<;>first|(simp[xT] at hc;done)|rfl) (xB H C.toCk h1)
  cases e with
  |ListComp elt gs sc pc=>
   match gs with
   |[]=>cases h
   |_::_::_=>cases h
   |[⟨tg,iter,ifs,z⟩]=>
    have hh:=zm h
    clear h gen
    obtain⟨hz,h⟩:=hh
    have hz:z=0:=beq_iff_eq.mp hz
    subst hz
    obtain⟨f,h1,h⟩:=bnd h
    cases h
    obtain⟨fs,tgt,fi,cs,fe,q1,q2,q3,q4,q5,q6,q7,q8,rfl⟩:=Z9 h1
    have he:(match Γ.own.contains x with|true=>wW|false=>qf) (z5 tg).length fs tgt fi cs fe=(match Γ.own.contains x with|true=>wW (z5 tg).length fs tgt fi cs fe|false=>qf (z5 tg).length fs tgt fi cs fe):=by cases Γ.own.contains x<;>rfl
    have key:∀bb,swapsWith (.ListComp elt [⟨tg,iter,ifs,0⟩] sc pc) (some (.Name x p)) pos.line X.env=pure bb->PS X (.Assign [.Name x p] (.ListComp elt [⟨tg,iter,ifs,0⟩] sc pc) pos) (rdS D W (zo i (match Γ.own.contains x with|true=>wW (z5 tg).length fs tgt fi cs fe|false=>qf (z5 tg).length fs tgt fi cs fe))):=λbb hsw=>by
     cases bb with
     |true=>exact J9 C q1 hi hfz q2 q4 q5 (H.i C.toCk q3.2 q6) (λX' W' C'=>H.e C' q8) (λX' W' C'=>vi H C' q7) (yn q3.1) _ hsw
     |false=>
      refine V2 C hi hfz hsw ?_
      cases Γ.own.contains x with
      |true=>exact QD C.toCk q1 q2 q4 q5 (H.i C.toCk q3.2 q6) (λX' W' C'=>H.e C' q8) (λX' W' C'=>vi H C' q7) (yn q3.1)
      |false=>exact Zh C.toCk q1 q2 q4 q5 (H.i C.toCk q3.2 q6) (λX' W' C'=>H.e C' q8) (λX' W' C'=>vi H C' q7) (yn q3.1)
    rw[he]
    exact key _ rfl
  |SetComp _ _ _ _=>cases h
  |DictComp _ _ _ _ _=>cases h
  |_=>exact gen rfl h
 |Tuple es kk p=>
  obtain⟨hb,h⟩:=zm h
  simp only[Bool.and_eq_true] at hb
  obtain⟨is,h1,h⟩:=bnd h
  obtain⟨f,h2,h⟩:=bnd h
  cases h
  exact Yi C hb.1 hb.2 h1 hfz (H.e C.toCk h2)
 |Attribute o x p=>
  obtain⟨n,h1,h⟩:=bnd h
  obtain⟨f,h2,h⟩:=bnd h
  obtain⟨go,h3,h⟩:=bnd h
  cases h
  exact Y7 C (lookup_mem h1) (xB H C.toCk h2) (H.e C.toCk h3)
 |Subscript o b p=>
  obtain⟨hb,h⟩:=zm h
  obtain⟨f,h1,h⟩:=bnd h
  obtain⟨go,h2,h⟩:=bnd h
  obtain⟨gb,h3,h⟩:=bnd h
  cases h
  exact YK C hb (H.e C.toCk h1) (H.e C.toCk h2) (H.e C.toCk h3)
 |_=>cases h
theorem VR{D:DP}:SOk D KN:=by
 intro r H X W Γ k e d C h
 cases e with
 |Assign ts e p=>
  match ts with
  |[]=>cases h
  |[t]=>exact Jl H C h
  |_::_::_=>cases h
 |_=>cases h
noncomputable def Km:SR:=λr Γ s=>match s with
 |.For tg it b els _=>gd (Γ.calm&&qt it&&els.isEmpty&&V3 tg it&&nFz Γ tg) ((qp Γ.N tg).bind λtgt=>(r.i Γ it).bind λfi=>(zD (r.s Γ) b).bind λvs=>some (Yb tgt fi vs))
 |_=>none
theorem QL{D:DP}:SOk D Km:=by
 intro r H X W Γ k e d C h
 cases e with
 |For tg it b els p=>
  obtain⟨hb,h⟩:=zm h
  simp only[Bool.and_eq_true] at hb
  obtain⟨tgt,h1,h⟩:=bnd h
  obtain⟨fi,h2,h⟩:=bnd h
  obtain⟨vs,h3,h⟩:=bnd h
  cases h
  cases els with
  |nil=>exact Uq C hb.1.1.1.1 h1 hb.2 (H.i C.toCk hb.1.2 h2) (qi H C h3) (yn hb.1.1.1.2)
  |cons _ _=>simp at hb
 |_=>cases h
noncomputable def Ur:Stmt->Option Expr
 |.Raise (some e) none _=>some e
 |_=>none
theorem K8{s:Stmt}{e:Expr}(h:Ur s=some e):∃p,s=.Raise (some e) none p:=by
 unfold Ur at h
 split at h
 ·cases h;exact⟨_,rfl⟩
 ·cases h
noncomputable def VL:Expr->Option (Str×List Expr)
 |.Call (.Name x _) as [] _=>some (x,as)
 |_=>none
theorem WM{e:Expr}{q:Str×List Expr}(h:VL e=some q):∃p0 p1,e=.Call (.Name q.1 p0) q.2 [] p1:=by
 unfold VL at h
 split at h
 ·cases h;exact⟨_,_,rfl⟩
 ·cases h
noncomputable def hdl (r:Rec)(Γ:Cn):ExceptHandler->Option (List Nat×Option Nat×List Ds)
 |.ExceptHandler t nm suite _=>(match t with
  |some (.Name x _)=>gd ((idx Γ.N x).isNone&&Γ.G.contains x&&!suite.isEmpty&&(match Γ.gl x with|.xcl c=>Γ.cls.lookup x == some c&&Nat.blt c 40|.xcf c _=>Γ.cls.lookup x == some c&&Nat.blt c 40|_=>false)) ((Γ.cls.lookup x).bind λc=>(zD (r.s {Γ with calm:=false}) suite).bind λvs=>(match nm with
   |none=>some ([c],none,vs)
   |some e=>gd (!Γ.cel.contains e) ((idx Γ.N e).bind λj=>some ([c],some j,vs))))
  |_=>none)
theorem QG{D:DP}{r:Rec}(H:RecOk D r){Γ:Cn}{k:Nat}:∀{hs:List ExceptHandler} {gs:List (List Nat×Option Nat×List Ds)},zD (hdl r Γ) hs=some gs->Ka D Γ k hs gs
 |[],gs,h=>by cases h;trivial
 |.ExceptHandler t nm suite p::hs,gs,h=>by
  obtain⟨g,h1,h⟩:=bnd h
  obtain⟨gs',h2,h⟩:=bnd h
  cases h
  have ih:=QG (k:=k) H h2
  cases t with
  |none=>cases h1
  |some t=>
   cases t with
   |Name x p0=>
    have q0:=zm h1
    clear h1
    obtain⟨hb,q1⟩:=q0
    simp only[Bool.and_eq_true] at hb
    have q2:=bnd q1
    clear q1
    obtain⟨c,hc,q3⟩:=q2
    have q4:=bnd q3
    clear q3
    obtain⟨vs,hv,h1⟩:=q4
    have hcok:HcOk Γ x c:=by
     refine⟨by simpa using hb.1.1.2,lookup_mem hc,?_⟩
     have h4:=hb.2
     rw[hc] at h4
     cases hg:Γ.gl x with
     |xcl c'=>
      simp only[hg,Bool.and_eq_true] at h4
      have:c=c':=Option.some.inj (beq_iff_eq.mp h4.1)
      rw[this];exact⟨.inr rfl,Nat.blt_eq.mp h4.2⟩
     |xcf c' f=>
      simp only[hg,Bool.and_eq_true] at h4
      have:c=c':=Option.some.inj (beq_iff_eq.mp h4.1)
      rw[this];exact⟨.inl ⟨f,rfl⟩,Nat.blt_eq.mp h4.2⟩
     |_=>rw[hg] at h4;cases h4
    have hne:=hb.1.2
    clear hb
    have h1':=h1
    clear h1
    have h1:=h1'
    clear h1'
    cases suite with
    |nil=>simp at hne
    |cons b0 suite=>
     cases nm with
     |none=>
      cases h1
      exact⟨⟨_,_,_,_,_,_,_,_,_,rfl,rfl,hcok,trivial,λX' C'=>qi H C' hv⟩,ih⟩
     |some e=>
      obtain⟨he,h1⟩:=zm h1
      obtain⟨j,hj,h1⟩:=bnd h1
      cases h1
      exact⟨⟨_,_,_,_,_,_,_,_,_,rfl,rfl,hcok,⟨hj,by simpa using he⟩,λX' C'=>qi H C' hv⟩,ih⟩
   |_=>cases h1
noncomputable def Kx:SR:=λr Γ s=>match s with
 |.Try b hs els fin _=>gd (Γ.calm&&!hs.isEmpty&&els.isEmpty&&fin.isEmpty) ((zD (r.s Γ) b).bind λus=>(zD (hdl r Γ) hs).bind λgs=>some (X5 us gs))
 |_=>none
theorem V0{D:DP}:SOk D Kx:=by
 intro r H X W Γ k e d C h
 cases e with
 |Try b hs els fin p=>
  obtain⟨hb,h⟩:=zm h
  simp only[Bool.and_eq_true] at hb
  obtain⟨us,h1,h⟩:=bnd h
  obtain⟨gs,h2,h⟩:=bnd h
  cases h
  cases els with
  |cons _ _=>simp at hb
  |nil=>
   cases fin with
   |cons _ _=>simp at hb
   |nil=>
    cases hs with
    |nil=>simp at hb
    |cons h0 hs=>exact XJ C hb.1.1.1 (λX' W' C'=>qi H C' h1) (QG H h2)
 |_=>cases h
structure MdOk(D:DP)(P:Program)(w:World)(K:PySem.W.Frag)(mg:Str->Option Value)(base:Heap)(Γ:Cn)(k:Nat):Prop where
 hK:K=D.K
 glo:∀x∈Γ.U,GlOkM D P w K mg base k x (Γ.gl x)/\(x == ("__debug__":Str))=false
 isi:∀t x c,(x,c)∈Γ.cls->∀u v,yo D t u->k6 mg x v->PySem.W.kitOne K u v=some (qX t c)
 fld:∀c C x f,D.cad c=some C->(x,f)∈Γ.fld->D.fn f=some x/\Cls K C/\NoAttr K C x
 xcx:∀c C,D.adr c=some C->XCls K C
 ocx:∀c C,D.cad c=some C->OCls K C
 clv:∀x c,(x,c)∈Γ.cls->∃u v,k6 mg x u/\ClsV v u
 xmt:∀t x c,(x,c)∈Γ.cls->c<40->∀Ct Cc,D.adr t=some Ct->mg x=some (.ref Cc)->PySem.W.exmOne K (.ref Ct) (.ref Cc)=some (qX t c)
noncomputable def Vg(Γ:Cn)(ps:List Str)(sc:Scope):Bool:=
 (sc.kind == .function)&&!sc.isCoroutine&&!sc.isGenerator&&decide (Γ.N.Nodup)&&(Γ.N.take ps.length == ps)&&sc.names.all (λy=>y.2 != .free)&&
 Γ.N.all (λx=>x != ("__debug__":Str)&&x != ("__classdict__":Str)&&(if Γ.cel.contains x then sc.names.lookup x == some .cell else sc.names.lookup x == some .local))&&
 Γ.G.all (λx=>Γ.U.contains x&&sc.names.lookup x == some .globalImplicit)&&Γ.cel.all (λx=>Γ.N.contains x)&&Γ.calm
theorem kM{X:Cx}{W:XW}{e:Value}{s:Shared}(p:XP X W e s):X.A.frames=some X.stack:=by
 obtain⟨_,_,_,_,_,_,_,_,I,_⟩:=p
 exact I.ok.frames
theorem Zk:∀(ts:List T) (n:Nat),JB ts n=ts.map some++List.replicate n none
 |[],n=>by
  have:∀n,pad n=List.replicate n none:=λn=>by
   induction n with
   |zero=>rfl
   |succ n ih=>show none::pad n=_;rw[ih];rfl
  exact this n
 |t::r,n=>by show some t::JB r n=_;rw[Zk r n];rfl
section
variable {D:DP}{P:Program}{w:World}{K:PySem.W.Frag}{mg:Str->Option Value}{base:Heap}{Γ:Cn}{k n:Nat}
theorem uf{φ α:List Addr}{H:Hp}{N:List Str}{ts:List T}{vs:List V}(d:DenL D φ α H ts vs):SRel D φ α H (JB ts (N.length-ts.length)) (L2.start N vs):=by
 have hl:=d.length
 rw[Zk]
 refine⟨by simp[L2.start,hl],λi t e=>?_⟩
 by_cases hi:i<ts.length
 ·rw[List.getElem?_append_left (by simpa using hi),List.getElem?_map] at e
  cases q:ts[i]? with
  |none=>rw[q] at e;cases e
  |some t'=>
   rw[q] at e
   have e:some (some t')=some (some t):=e
   cases e
   obtain⟨v,hv,dv⟩:=d.get q
   refine⟨v,?_,dv⟩
   unfold L2.start
   rw[List.getElem?_append_left (by rw[List.length_map,←hl];exact hi),List.getElem?_map,hv]
   rfl
 ·rw[List.getElem?_append_right (by simpa using hi),List.getElem?_replicate] at e
  split at e<;>cases e
noncomputable def kno (X:Cx)(f:Str->Bool):Cx:={X with fn:=f}
theorem Yd{X:Cx}{f g:Str->Bool}(hf:∀x,f x=true->g x=true)(ok:(kno X g).Ok):(kno X f).Ok:=⟨ok.mod,ok.kind,ok.glob,ok.blt,ok.above,ok.inj,ok.has,λx c e=>ok.cab x c (hf x e),ok.hd,ok.frames,ok.stk,ok.exf,ok.bs,ok.bsz,ok.noex,ok.exfs,ok.funs,ok.frf⟩
theorem jg{X:Cx}{f g:Str->Bool}{pins:List (Addr×Obj)}{σ:St}{H:Hp}{s:Shared}(hf:∀x,f x=true->g x=true)(I:Inv (kno X g) pins σ H s):Inv (kno X f) pins σ H s:=
 ⟨Yd hf I.ok,I.os,I.bare,I.base,I.loc,I.cell,I.free,λx c e=>(I.freeC x c e).imp id λz=>⟨Bool.eq_false_iff.mpr λq=>Bool.noConfusion ((hf x q).symm.trans (show g x=false from z.1)),z.2⟩,I.pin,I.hok,I.len⟩
theorem Yx{X:Cx}{f g:Str->Bool}{W:XW}{e:Value}{s:Shared}(hf:∀x,f x=true->g x=true)(p:XP (kno X g) W e s):XP (kno X f) W e s:=by
 obtain⟨x,cls,d,σ,H,T,fl,a,I,b,c,r,r2,r3⟩:=p
 exact⟨x,cls,d,σ,H,T,fl,a,jg hf I,⟨b.free,b.loc,b.nfs,b.new,b.cel,b.pin⟩,λt ht=>let b:=c t ht;⟨b.free,b.loc,b.nfs,b.new,b.cel,b.pin⟩,r,r2,r3⟩
theorem uR{X:Cx}{f g:Str->Bool}{pins:List (Addr×Obj)}{E:Ends}{fl:Flow}{s:Shared}(hf:∀x,f x=true->g x=true)(h:SP (kno X g) pins E fl s):SP (kno X f) pins E fl s:=by
 cases fl with
 |ret v=>obtain⟨v,σ',H',I',r⟩:=h;exact⟨v,σ',H',jg hf I',r⟩
 |_=>obtain⟨σ',H',I',r⟩:=h;exact⟨σ',H',jg hf I',r⟩
theorem ZA{D:DP}{W:XW}{X:Cx}{f:Str->Bool}{b2:List Stmt}{ds2:List Ds}(h2:ko (kno X f) D W b2 ds2):∀{b1:List Stmt} {ds1:List Ds},ko (kno X λ_=>true) D W b1 ds1->
  ∀(pins:List (Addr×Obj)) (s:Shared) (σ:St) (H:Hp) (E:Ends),Inv (kno X λ_=>true) pins σ H s->rdS D W (zO (ds1++ds2)) E σ H->wpAny (model X.prog X.w) X.A (execs (b1++b2) X.env) (SP (kno X f) pins E) X.xe s
 |[],[],_,pins,s,σ,H,E,I,q=>qB h2 pins s σ H E (jg (λ_ _=>rfl) I) q
 |st::r,u::us,h,pins,s,σ,H,E,I,q=>by
  obtain⟨φ,α,τ,μ,sr,mr,Q,q,h3,h4,h5,h6,h7⟩:=q
  refine wpAny_execs_cons (thn (h.1 pins s σ H {E with nx:=λσ' H'=>rdS D W (zO (us++ds2)) E σ' H'} I ⟨φ,α,τ,μ,sr,mr,_,q,λτ1 μ1 e α' H' σ' st m sr'=>?_,h4,h5,h6,h7⟩) λfl s1 z=>?_)
  ·exact⟨φ,α',τ1,μ1,sr',m,PostS.step ⟨Q,e,h3,h4,h5,h6,h7⟩ st⟩
  ·cases fl with
   |next=>
    obtain⟨σ',H',I',q'⟩:=z
    exact ZA h2 h.2 pins s1 σ' H' E I' q'
   |ret v=>exact uR (fl:=.ret v) (E:=E) (λ_ _=>rfl) z
   |brk=>exact uR (fl:=.brk) (E:=E) (λ_ _=>rfl) z
   |cont=>exact uR (fl:=.cont) (E:=E) (λ_ _=>rfl) z
 |[],_::_,h,_,_,_,_,_,_,_=>h.elim
 |_::_,[],h,_,_,_,_,_,_,_=>h.elim
theorem QZ{R:Rules}(HR:RulesOk D R){f:Addr}{name qual:Str}{params:Arguments}{body b1 b2:List Stmt}{scope:Scope}{dV kV doc pm cdv ct oc:Value}{an od:Option Addr}{osl:Array (Option Value)}{ps:List Str}{m:Nat}{ds1 ds2:List Ds}
    (M:MdOk D P w K mg base Γ k) (lk:K.lookup f=some ⟨oc,od,.func (PySem.W.fnOf name qual params body scope dV kV doc pm an cdv ct),osl⟩) (hcd:PySem.W.codeIn K cdv qual=true) (hs:Vg Γ ps scope=true) (hm:Γ.N.length=ps.length+m) (hbo:body=b1++b2) (hd1:zD ((comp R n).s {Γ with fz:=[]}) b1=some ds1) (hds:zD ((comp R n).s Γ) b2=some ds2) (hlam:LamOk D mg base cdv (qual++".<locals>.") k Γ.lam:=by exact LamOk.no rfl) :
    FnOk P w K mg base (CX1 P w) (k+1) f (PySem.W.fnOf name qual params body scope dV kV doc pm an cdv ct) ps (spN D ps.length (fnW ps.length m (ds1++ds2))):=by
  subst hbo
  simp only[Vg,Bool.and_eq_true,List.all_eq_true,beq_iff_eq,Bool.not_eq_true',decide_eq_true_eq,bne_iff_ne,ne_eq] at hs
  obtain⟨⟨⟨⟨⟨⟨⟨⟨⟨h1,h2⟩,h3⟩,h4⟩,h5⟩,h6⟩,h7⟩,h8⟩,h9⟩,h10⟩:=hs
  have kin:∀x∈Γ.N,(Γ.cel.contains x=true/\scope.names.lookup x=some .cell)\/(Γ.cel.contains x=false/\scope.names.lookup x=some .local):=λx hx=>by
    have q:=(h7 x hx).2
    cases hc:Γ.cel.contains x with
    |true=>rw[hc,if_pos rfl] at q;exact .inl ⟨rfl,beq_iff_eq.mp q⟩
    |false=>rw[hc] at q;exact .inr ⟨rfl,beq_iff_eq.mp q⟩
  have loc:∀x∈Γ.N,scope.names.lookup x=some .local\/scope.names.lookup x=some .cell:=λx hx=>(kin x hx).elim (λz=>.inr z.2) λz=>.inl z.2
  have S:FnScope Γ.N ps scope:=⟨h1,h2,h3,h4,h5,λx hx=>loc x (by rw[←h5] at hx;exact List.mem_of_mem_take hx),h6⟩
  refine K_ (fnb:=λx=>!Γ.fz.contains x) lk hcd S (λvs H Q E q=>q.1) λA outer s H vs Q E hr hsp hfree=>?_
  obtain⟨hl,φ,α,ts,μ,d,mr,K0,Z0,⟨hle,q⟩,hk0,hz0⟩:=hsp
  generalize hX:ZS (CX1 P w) P w K mg base Γ.N qual scope f cdv A outer s H E (λx=>!Γ.fz.contains x)=X
  have F:Frm X (envOfC qual scope s.heap.objs.size f cdv) outer s.heap.objs.size:=by rw[←hX];exact⟨rfl,rfl,rfl⟩
  have hfn:X.fn=λx=>!Γ.fz.contains x:=by rw[←hX];rfl
  have CK:∀(l:List Str),(∀x∈l,x∈Γ.fz)->Sk D (wOf E) {Γ with fz:=l} (kno (X.wish (XP X (wOf E))) λx=>!l.contains x || !Γ.fz.contains x) k:=λl hl'=>by
    have xe:∀e s,XP (kno (X.wish (XP X (wOf E))) λx=>!l.contains x || !Γ.fz.contains x) (wOf E) e s->XP X (wOf E) e s:=λe s p=>by
      have p2:XP (kno (X.wish (XP X (wOf E))) λx=>!Γ.fz.contains x) (wOf E) e s:=Yx (λx hx=>by rw[hx,Bool.or_true]) p
      exact vJ (show XP (X.wish (XP X (wOf E))) (wOf E) e s by rw[←hfn] at p2;exact p2)
    have pso:PassesOwn (model X.prog X.w) X.A X.env (XP X (wOf E)):=λe s p=>xt F (kM p) e s p
    subst hX
    exact { hK := M.hK,hN := rfl,nd := h4,vis := fun x hx => (loc x hx).elim .inl fun z => .inr (.inl z),dbg := fun x hx => ⟨beq_eq_false_iff_ne.mpr (h7 x hx).1.1,beq_eq_false_iff_ne.mpr (h7 x hx).1.2⟩,
            dbG:=λx hx=>(M.glo x (by simpa using (h8 x hx).1)).2,glb:=λx hx=>(h8 x hx).2,glo:=λx hx=>(M.glo x (by simpa using (h8 x hx).1)).1,glU:=M.glo,
            cel:=λx hx=>.inl ((kin x (by simpa using h9 x hx)).elim (λz=>z.2) λz=>by have:=z.1;rw[List.contains_iff_mem.mpr hx] at this;cases this),
            isi:=M.isi,fld:=M.fld,xcx:=M.xcx,ocx:=M.ocx,clv:=M.clv,clm:=λ_=>rfl,rom:=λ_=>hr,rmh:=⟨hr.dp,hr.un⟩,xe:=xe,frm:=⟨_,_,_,F.stk,F.f0,F.fe⟩,lam:=hlam,kfz:=λ_ x hx=>⟨by show (!l.contains x || !Γ.fz.contains x)=false;rw[List.contains_iff_mem.mpr hx,List.contains_iff_mem.mpr (hl' x hx)];rfl,λc e=>(hfree x c e).1⟩,
            sto:=λx hx=>by
              obtain⟨z1,z2⟩:=List.mem_filter.mp hx
              exact⟨loc x z1,.inl (by show (!l.contains x || _)=true;rw[show (!l.contains x)=true from z2];rfl)⟩,lcl:=λx hx hc=>(kin x hx).elim (λz=>by rw[z.1] at hc;cases hc) λz=>z.2,pso:=pso,xmt:=M.xmt}
  have B:PSs X (b1++b2) (λE1 σ1 H1=>(∀y c,X.env.cells.lookup y=some c->X.s₀.heap.objs.size<=c/\H1 c=none)/\rdS D (wOf E) (zO (ds1++ds2)) E1 σ1 H1):=λpins s1 σ1 H1 E1 I1 ⟨hf,q⟩=>by
    have I2:Inv (kno (X.wish (XP X (wOf E))) λ_=>true) pins σ1 H1 s1:=by
      have J:=I1.wish (XP X (wOf E))
      subst hX
      exact⟨⟨J.ok.mod,J.ok.kind,J.ok.glob,J.ok.blt,J.ok.above,J.ok.inj,J.ok.has,λx c _ e=>(hf x c e).1,J.ok.hd,J.ok.frames,J.ok.stk,J.ok.exf,J.ok.bs,J.ok.bsz,J.ok.noex,J.ok.exfs,J.ok.funs,J.ok.frf⟩,J.os,J.bare,J.base,J.loc,J.cell,J.free,λx c e=>.inl (hf x c e).2,J.pin,J.hok,J.len⟩
    have C1:=qi (qw HR n) (CK [] (by simp)) hd1
    have C2:=qi (qw HR n) (CK Γ.fz λ_ h=>h) hds
    have e1:(λx=>!([]:List Str).contains x || !Γ.fz.contains x)=λ_=>true:=by funext x;rfl
    have e2:(λx=>!Γ.fz.contains x || !Γ.fz.contains x)=X.fn:=by rw[hfn];funext x;exact Bool.or_self _
    rw[e1] at C1
    rw[e2] at C2
    refine wpAny_mono (ZA (X:=X.wish (XP X (wOf E))) C2 C1 pins s1 σ1 H1 E1 I2 q) (λf s' q=>SP.unwish q) λe s' p=>?_
    have p:XP X (wOf E) e s':=p
    have:=VA (M:=model X.prog X.w) (F2:=λe' s''=>CX1 X.prog X.w X.outer X.H₀ X.s₀ E e' s'') F (kM p) (by rw[←hX];rfl) p
    subst hX
    exact this
  have hmm:Γ.N.length-ts.length=m:=by omega
  refine⟨_,B,by rw[←hX];exact hfree,φ,α,_,μ,uf d,mr,{nx:=λ_ μ1=>K0 .non μ1,rt:=K0,bk:=λ_ _=>False,ct:=λ_ _=>False,ex:=λc fs _ μ1=>Z0 c fs μ1},by rw[hmm];exact q,λ_ μ1 z α' H' σ' st m _=>hk0 _ _ z α' H' st m .non rfl,λ_ _ z=>z.elim,λ_ _ z=>z.elim,λt μ1 z α' H' v st m dv=>hk0 _ _ z α' H' st m v dv,λc fs _ μ1 z α' H' σ' C1 dd st m _ ad xd=>hz0 c fs μ1 z α' H' C1 dd st m ad xd⟩
theorem Zr{R:Rules}(HR:RulesOk D R){f:Addr}{name qual:Str}{params:Arguments}{body:List Stmt}{scope:Scope}{dV kV doc pm cdv ct oc:Value}{an od:Option Addr}{osl:Array (Option Value)}{ps:List Str}{m:Nat}{ds:List Ds}
  (M:MdOk D P w K mg base Γ k) (lk:K.lookup f=some ⟨oc,od,.func (PySem.W.fnOf name qual params body scope dV kV doc pm an cdv ct),osl⟩) (hcd:PySem.W.codeIn K cdv qual=true) (hs:Vg Γ ps scope=true) (hm:Γ.N.length=ps.length+m) (hds:zD ((comp R n).s Γ) body=some ds) (hlam:LamOk D mg base cdv (qual++".<locals>.") k Γ.lam:=by exact LamOk.no rfl) :
  FnOk P w K mg base (CX1 P w) (k+1) f (PySem.W.fnOf name qual params body scope dV kV doc pm an cdv ct) ps (spN D ps.length (fnW ps.length m ds)):=QZ (b1:=[]) (ds1:=[]) HR M lk hcd hs hm rfl rfl hds hlam
theorem Ke{n m:Nat}{ds:List Ds}:∀ts μ K Z,fnW n m ds ts μ K Z->ts.length=n:=λ_ _ _ _ h=>h.1
end
noncomputable def Vd:PySem.W.Frag->Bool
 |[]=>true
 |p::r=>(match p.2.cls with|.type t=>t != "list" | _=>true)&&Vd r
theorem Zi:∀{K:PySem.W.Frag} {a:Addr} {o:Obj},Vd K=true->K.lookup a=some o->o.cls≠.type "list"
 |[],_,_,_,h=>by cases h
 |(b,p)::r,a,o,hn,h=>by
  simp only[Vd,Bool.and_eq_true] at hn
  rw[List.lookup_cons] at h
  cases q:a == b with
  |true=>
   rw[q] at h
   cases h
   intro e
   have h1:=hn.1
   rw[e] at h1
   exact absurd h1 (by decide)
  |false=>rw[q] at h;exact Zi hn.2 h
noncomputable def Z4(K:PySem.W.Frag):Sp:=λvs H Q _=>∃(a:Addr) (ns:List Int),vs=[.ref a]/\SqL K H a (ns.map V.int)/\ns.length<=63/\∀H',Q (.bl true) H'
theorem xg{D:DP}{φ α:List Addr}{H:Hp}:∀(ns:List Int),DenL D φ α H (ns.map T.int) (ns.map V.int)
 |[]=>rfl
 |n::r=>⟨.int n,r.map V.int,rfl,rfl,xg r⟩
noncomputable def Tells(f:Fn):Prop:=∀ns:List Int,ns.length<=63->f [.lst (ns.map T.int)] [] (λt _=>t=.bl true) (λ_ _ _=>False)
theorem XE{D:DP}{P:Program}{w:World}{K:PySem.W.Frag}{mg:Str->Option Value}{base:Heap}{k:Nat}{fa:Addr}{fd:FuncData}{x:Str}{f:Fn}(hl:Vd K=true)(ht:Tells f)
  (F:FnOk P w K mg base (CX1 P w) k fa fd [x] (spN D 1 f)):FnOk P w K mg base (CX1 P w) k fa fd [x] (Z4 K):=by
 refine F.imp ?_
 rintro vs H Q E ⟨a,ns,rfl,hs,hn,q⟩
 have r:Rd H a (.lst (ns.map V.int)):=by
  rcases hs with r|⟨o,its,n,h1,h2,_⟩
  ·exact r
  ·exact absurd h2 (Zi hl h1)
 refine⟨rfl,[],[],[.lst (ns.map T.int)],[],⟨.ref a,[],rfl,⟨a,_,rfl,by simp,by simp,r,xg ns⟩,rfl⟩,MRel.nil D (by simp),_,_,ht ns hn,?_,?_⟩
 ·rintro t μ rfl α' H' st m v d
  have d:v=.bl true:=d
  rw[d]
  exact q H'
 ·exact λ_ _ _ z=>z.elim
theorem walk{l:PySem.W.OpenLaw}{q:Program}{loose:List Str}{XP:(Str->Option Value)->Heap->Prop}{YP:World->Heap->Prop}{d:DefRec}{K:Params->PySem.W.Frag}{x:Str}{k:Nat}(hk:k<=40)(hn:l.most=some 63)(hdf:d.params.defaults=[])
  (hY:∀(w:World) (h:Heap),YP w h->(K w.params).In h)
  (F:∀(w:World) (mg:Str->Option Value) (fa:Addr) (h:Heap),(K w.params).In h->h.Ns mainGlobals mg->mg d.name=some (.ref fa)->
   ∃fd:FuncData,(∀(s:Shared) (u:Value),BindsTo s fd ⟨[u],[]⟩ [(x,u)])/\∀base:Heap,(K w.params).In base->base.Ns mainGlobals mg->FnOk l.prog w (K w.params) mg base (CX1 l.prog w) k fa fd [x] (Z4 (K w.params))) :
  PySem.W.WalkO q loose XP YP l.row.toRowW d [] (λf vs=>PySem.call f vs):=
 L2.walk_of (n:=63) (k:=k) (x:=x) (CX:=λw=>CX1 l.prog w) (sp:=λw=>Z4 (K w.params)) hn (by decide) hdf (Room.mono (k:=40) ⟨rfl,by decide,by decide⟩ hk) hY F (λ_ _ a ns hl _ hS=>⟨a,ns,rfl,hS,hl,λ_=>rfl⟩) λ_ _ _ _ _ z=>by
  obtain⟨_,_,_,_,_,_,_,_,_,_,_,_,_,_,_,z⟩:=z
  exact z
noncomputable def FLD:List Str:=["moments","houses","counts","start","turns","holder","lease","until","is_cut","shape","grants","house","begin","end","ahead","stride","keeper","mark","newest","batches","has_fallen","clock","kept","common","given","now","seats","world","line","by"]
theorem Xv:FLD.Nodup:=by decide +kernel
structure Ads where
 xs:List (Nat×Addr)
 cs:List (Nat×Addr)
noncomputable def mkD (K:PySem.W.Frag)(A:Ads)(clo:Nat->Addr->Option HO->List V->Prop)(tabs:Nat->Option (Addr×List Pos×Str):=λ_=>none):DP:=⟨K,λc=>A.xs.lookup c,λc=>A.cs.lookup c,λi=>FLD[i]?,λi j x h1 h2=>vd Xv h1 h2,clo,tabs⟩
noncomputable def cn (cls fld:List (Str×Nat))(gs:List (Str×GM))(N G cel own:List Str)(lam:Option (Nat×List Pos):=none):Cn where
 N:=N
 G:=G
 calm:=true
 gl:=λx=>(gs.lookup x).getD .bad
 cls:=cls
 fld:=fld
 U:=gs.map (·.1)
 cel:=cel
 own:=own
 lam:=lam
noncomputable def tys(A:Ads):List (Nat×Value):=[(0,.type "NoneType"),(1,.type "bool"),(2,.type "int"),(3,.type "str"),(4,.type "tuple"),(5,.type "list"),(6,.type "dict")]++(A.xs.map λp=>(p.1,Value.ref p.2))++A.cs.map λp=>(p.1,Value.ref p.2)
noncomputable def Vs(K:PySem.W.Frag)(c:Str):Option Value:=match PySem.W.nsIn K mainGlobals c with
 |some (some v)=>some v
 |some none=>if c == ("__name__":Str) then none else bootBuiltins c
 |none=>none
noncomputable def z0D:Value->Bool
 |.ref _=>true
 |.type _=>true
 |_=>false
noncomputable def isC(o:Option (Option Value))(s:String):Bool:=match o with
 |some (some (.builtin x))=>x == s
 |_=>false
theorem xR{o:Option (Option Value)}{s:String}(h:isC o s=true):o=some (some (.builtin s)):=by
 unfold isC at h
 split at h
 ·rw[beq_iff_eq.mp h]
 ·cases h
noncomputable def W4(o:Option (Option Value)):Bool:=match o with
 |some none=>true
 |_=>false
theorem xC{o:Option (Option Value)}(h:W4 o=true):o=some none:=by
 unfold W4 at h
 split at h
 ·rfl
 ·cases h
noncomputable def isB(o:Option Bool)(b:Bool):Bool:=match o with|some c=>c == b|none=>false
theorem jH{o:Option Bool}{b:Bool}(h:isB o b=true):o=some b:=by
 cases o with
 |none=>cases h
 |some c=>have:(c == b)=true:=h;rw[beq_iff_eq.mp this]
noncomputable def Jh (K:PySem.W.Frag)(C:Addr):Bool:=isC (PySem.W.findIn K (.ref C) "__class__") "object.__class__"&&isC (PySem.W.specialIn K (.builtin "object.__class__") "__get__") "getset_descriptor.__get__"&&isB (PySem.W.takesIn K (.builtin "object.__class__")) true&&isB (PySem.W.mroIn K C (.type "object")) true
noncomputable def Ky(K:PySem.W.Frag)(C:Addr):Bool:=Jh K C&&isC (PySem.W.findIn K (.ref C) "__getattribute__") "BaseException.__getattribute__"&&W4 (PySem.W.findIn K (.ref C) "__getattr__")&&isB (PySem.W.mroIn K C (.type "BaseException")) true&&(PySem.W.clsIn K C).isSome
noncomputable def KC(K:PySem.W.Frag)(C:Addr):Bool:=Jh K C&&PySem.W.plainGet K C Str.empty&&PySem.W.hasDictIn K C&&PySem.W.plainOver K C&&isC (PySem.W.findIn K (.ref C) "__setattr__") "object.__setattr__"
noncomputable def chk (K:PySem.W.Frag)(A:Ads)(cls fld:List (Str×Nat)):Bool:=
 cls.all (λp=>match Vs K p.1 with
  |some v=>z0D v&&(tys A).all (λq=>isB (PySem.W.kitOne K q.2 v) (qX q.1 p.2))&&(Nat.ble 40 p.2 || (match v with|.ref C=>A.xs.all (λq=>isB (PySem.W.exmOne K (.ref q.2) (.ref C)) (qX q.1 p.2))|_=>true))
  |none=>false)&&
 A.xs.all (λq=>Ky K q.2)&&A.cs.all (λq=>KC K q.2&&fld.all (λp=>W4 (PySem.W.findIn K (.ref q.2) p.1)))&&fld.all (λp=>match FLD[p.2]? with|some x=>x == p.1|none=>false)
theorem jz{K:PySem.W.Frag}{h:Heap}{mg:Str->Option Value}{c:Str}{v:Value}(X:K.In h)(G:h.Ns mainGlobals mg)(e:Vs K c=some v):k6 mg c v/\∀u,k6 mg c u->u=v:=by
 unfold Vs at e
 split at e
 ·rename_i v' q
  cases e
  have m:=PySem.W.mg_of X G q
  refine⟨.inl m,λu z=>?_⟩
  rcases z with z|⟨z,_⟩
  ·rw[m] at z;cases z;rfl
  ·rw[m] at z;cases z
 ·rename_i q
  have m:=PySem.W.mg_none_of X G q
  split at e
  ·cases e
  ·rename_i hn
   refine⟨.inr ⟨m,e,λz=>hn (by rw[z];rfl)⟩,λu z=>?_⟩
   rcases z with z|⟨_,z,_⟩
   ·rw[m] at z;cases z
   ·rw[e] at z;cases z;rfl
 ·cases e
theorem zP{α β:Type}[BEq α][LawfulBEq α]{x:α}{v:β}:∀{l:List (α×β)},l.lookup x=some v->(x,v)∈l
 |[],h=>by cases h
 |(y,w)::r,h=>by
  rw[List.lookup_cons] at h
  cases q:x == y with
  |true=>rw[q] at h;cases h;rw[beq_iff_eq.mp q];exact List.mem_cons_self
  |false=>rw[q] at h;exact List.mem_cons_of_mem _ (zP h)
theorem lookup_some{α:Type}{x:Str}:∀{l:List (Str×α)},x∈l.map (·.1)->∃v,l.lookup x=some v
 |[],h=>by simp at h
 |(y,w)::r,h=>by
  rw[List.lookup_cons]
  cases q:x == y with
  |true=>exact⟨w,rfl⟩
  |false=>
   rcases List.mem_cons.mp h with z|z
   ·have z:x=y:=z
    rw[z] at q;simp at q
   ·exact lookup_some z
section
variable {P:Program}{w:World}{K:PySem.W.Frag}{mg:Str->Option Value}{base:Heap}{A:Ads}{clo:Nat->Addr->Option HO->List V->Prop}{cls fld:List (Str×Nat)}{gs:List (Str×GM)}{N G cel own:List Str}{k:Nat}{lam:Option (Nat×List Pos)}{tabs:Nat->Option (Addr×List Pos×Str)}
theorem YM{t:Nat}{u:Value}(h:yo (mkD K A clo tabs) t u):(t,u)∈tys A:=by
 unfold tys
 rcases h with⟨rfl,rfl⟩|⟨rfl,rfl⟩|⟨rfl,rfl⟩|⟨rfl,rfl⟩|⟨rfl,rfl⟩|⟨rfl,rfl⟩|⟨C,h,rfl⟩|⟨rfl,rfl⟩|⟨C,h,rfl⟩
 ·simp
 ·simp
 ·simp
 ·simp
 ·simp
 ·simp
 ·exact List.mem_append_left _ (List.mem_append_right _ (List.mem_map.mpr ⟨(t,C),zP h,rfl⟩))
 ·simp
 ·exact List.mem_append_right _ (List.mem_map.mpr ⟨(t,C),zP h,rfl⟩)
noncomputable def GsOk (P:Program)(w:World)(K:PySem.W.Frag)(mg:Str->Option Value)(base:Heap)(A:Ads)(clo:Nat->Addr->Option HO->List V->Prop)(k:Nat)(gs:List (Str×GM))(tabs:Nat->Option (Addr×List Pos×Str):=λ_=>none):Prop:=∀p∈gs,GlOkM (mkD K A clo tabs) P w K mg base k p.1 p.2/\(p.1 == ("__debug__":Str))=false
theorem GlOkM.mono{D:DP}{j k:Nat}{x:Str}{g:GM}(h:j<=k)(q:GlOkM D P w K mg base j x g):GlOkM D P w K mg base k x g:=by
 cases g with
 |fn f=>obtain⟨fa,a,fd,ps,kk,b,c,d,r⟩:=q;exact⟨fa,a,fd,ps,kk,b,c,Nat.le_trans d h,r⟩
 |fnh nm f=>obtain⟨fa,a,fd,ps,kk,b,c,d,r⟩:=q;exact⟨fa,a,fd,ps,kk,b,c,Nat.le_trans d h,r⟩
 |met c nm f=>obtain⟨C,fI,fd,ps,kk,a,b,c,d,e,f1,r⟩:=q;exact⟨C,fI,fd,ps,kk,a,b,c,d,e,Nat.le_trans f1 h,r⟩
 |mk c z f=>obtain⟨C,fI,fd,ps,kk,a,b,c,d,e,r⟩:=q;exact⟨C,fI,fd,ps,kk,a,b,c,d,Nat.le_trans e h,r⟩
 |xin c f nm fl=>obtain⟨C,HE,fI,fd,ps,kk,a1,a2,a3,a4,a5,a6,r⟩:=q;exact⟨C,HE,fI,fd,ps,kk,a1,a2,a3,a4,a5,Nat.le_trans a6 h,r⟩
 |mkd c nm n f=>obtain⟨C,fI,fd,ps,kk,a,b,c,d,e,r⟩:=q;exact⟨C,fI,fd,ps,kk,a,b,c,d,Nat.le_trans e h,r⟩
 |metd c nm n d f=>obtain⟨C,fI,fd,ps,kk,du,dv,a1,a2,a3,a4,a5,a6,a7,a8,r⟩:=q;exact⟨C,fI,fd,ps,kk,du,dv,a1,a2,a3,a4,a5,a6,a7,Nat.le_trans a8 h,r⟩
 |kap ls=>exact⟨λj l ts φ α H v e d=>let ⟨a,kk,h1,h3,h4⟩:=q.1 j l ts φ α H v e d;⟨a,kk,h1,Nat.le_trans h3 h,h4⟩,q.2⟩
 |kpr=>exact⟨λt φ α H v hj d=>let ⟨a,kk,h1,h2,h3⟩:=q.1 t φ α H v hj d;⟨a,kk,h1,Nat.le_trans h2 h,h3⟩,q.2⟩
 |_=>exact q
theorem GsOk.mono{j k:Nat}(h:j<=k)(q:GsOk P w K mg base A clo j gs tabs):GsOk P w K mg base A clo k gs tabs:=λp hp=>⟨(q p hp).1.mono h,(q p hp).2⟩
theorem GsOk.add {x:Str} {g:GM} (q:GsOk P w K mg base A clo k gs tabs) (h:GlOkM (mkD K A clo tabs) P w K mg base k x g) (hx:(x == ("__debug__":Str))=false):GsOk P w K mg base A clo k ((x,g)::gs) tabs:=λp hp=>by
 rcases List.mem_cons.mp hp with rfl|z
 ·exact⟨h,hx⟩
 ·exact q p z
noncomputable def u_(bs:List Str)(xs:List (Str×Nat))(ys:List (Str×Nat×Nat)):List (Str×GM):=bs.map (λx=>(x,GM.none))++xs.map (λx=>(x.1,GM.xcl x.2))++ys.map (λx=>(x.1,GM.xcf x.2.1 x.2.2))
noncomputable def atA(K:PySem.W.Frag)(A:Ads)(x:Str)(c:Nat):Bool:=match A.xs.lookup c,PySem.W.nsIn K mainGlobals x with
 |some C,some (some (.ref C'))=>C == C'
 |_,_=>false
noncomputable def Wl(K:PySem.W.Frag)(A:Ads)(bs:List Str)(xs:List (Str×Nat))(ys:List (Str×Nat×Nat)):Bool:=
 bs.all (λx=>x != ("__debug__":Str)&&W4 (PySem.W.nsIn K mainGlobals x))&&
 xs.all (λx=>x.1 != ("__debug__":Str)&&atA K A x.1 x.2)&&ys.all (λx=>x.1 != ("__debug__":Str)&&atA K A x.1 x.2.1)
theorem WS{x:Str}{c:Nat}(X:K.In base)(Gm:base.Ns mainGlobals mg)(h:atA K A x c=true):∃C,A.xs.lookup c=some C/\mg x=some (.ref C):=by
 unfold atA at h
 split at h
 ·rename_i C C' q1 q2
  have h:C=C':=beq_iff_eq.mp h
  subst h
  exact⟨C,q1,PySem.W.mg_of X Gm q2⟩
 ·cases h
noncomputable def XOkL (K:PySem.W.Frag)(A:Ads):List (Str×Nat)->Prop
 |[]=>True
 |p::r=>(∃C,A.xs.lookup p.2=some C/\PySem.W.excIn K C zX "ValueError.__new__"=true)/\XOkL K A r
theorem XOkL.at:∀{xs:List (Str×Nat)} {p:Str×Nat},XOkL K A xs->p∈xs->∀C,A.xs.lookup p.2=some C->PySem.W.excIn K C zX "ValueError.__new__"=true
 |q::r,p,h,hp,C,e=>by
  rcases List.mem_cons.mp hp with rfl|z
  ·obtain⟨C',e',x⟩:=h.1
   rw[e'] at e;cases e;exact x
  ·exact XOkL.at h.2 z C e
theorem uj{bs:List Str}{xs:List (Str×Nat)}{ys:List (Str×Nat×Nat)}(X:K.In base)(Gm:base.Ns mainGlobals mg)(h:Wl K A bs xs ys=true)(hX:XOkL K A xs):GsOk P w K mg base A clo k (u_ bs xs ys) tabs:=by
 simp only[Wl,Bool.and_eq_true,List.all_eq_true,bne_iff_ne,ne_eq] at h
 intro p hp
 rcases List.mem_append.mp hp with z|z
 ·rcases List.mem_append.mp z with z|z
  ·obtain⟨x,hx,rfl⟩:=List.mem_map.mp z
   obtain⟨h1,h2⟩:=h.1.1 x hx
   exact⟨PySem.W.mg_none_of X Gm (xC h2),beq_eq_false_iff_ne.mpr h1⟩
  ·obtain⟨x,hx,rfl⟩:=List.mem_map.mp z
   obtain⟨h1,h2⟩:=h.1.2 x hx
   obtain⟨C,q1,q2⟩:=WS X Gm h2
   exact⟨⟨C,q1,q2,XOkL.at hX hx C q1⟩,beq_eq_false_iff_ne.mpr h1⟩
 ·obtain⟨x,hx,rfl⟩:=List.mem_map.mp z
  obtain⟨h1,h2⟩:=h.2 x hx
  obtain⟨C,q1,q2⟩:=WS X Gm h2
  exact⟨⟨C,q1,q2⟩,beq_eq_false_iff_ne.mpr h1⟩
theorem KP(X:K.In base)(Gm:base.Ns mainGlobals mg)(hc:chk K A cls fld=true)(q:GsOk P w K mg base A clo k gs tabs):MdOk (mkD K A clo tabs) P w K mg base (cn cls fld gs N G cel own lam) k:=by
 simp only[chk,Bool.and_eq_true,List.all_eq_true] at hc
 obtain⟨⟨⟨c1,c2⟩,c3⟩,c4⟩:=hc
 have cb:∀{C},Jh K C=true->PySem.W.findIn K (.ref C) "__class__"=some (some (.builtin "object.__class__"))/\PySem.W.specialIn K (.builtin "object.__class__") "__get__"=some (some (.builtin "getset_descriptor.__get__"))/\PySem.W.takesIn K (.builtin "object.__class__")=some true/\PySem.W.mroIn K C (.type "object")=some true:=λ{C} h=>by
  simp only[Jh,Bool.and_eq_true] at h
  exact⟨xR h.1.1.1,xR h.1.1.2,jH h.1.2,jH h.2⟩
 have oc:∀c C,A.cs.lookup c=some C->OCls K C:=λc C h=>by
  have h':=(c3 _ (zP h)).1
  simp only[KC,Bool.and_eq_true] at h'
  obtain⟨⟨⟨⟨h1,h2⟩,h3⟩,h4⟩,h5⟩:=h'
  obtain⟨k1,k2,k3,k4⟩:=cb h1
  exact⟨⟨h2,h3,h4,xR h5⟩,k1,k2,k3,k4⟩
 refine⟨rfl,λx hx=>?_,λt x c hxc u v hu hv=>?_,λc C x f hC hf=>?_,λc C hC=>?_,oc,λx c hxc=>?_,λt x c hxc hlt Ct Cc hCt hCc=>?_⟩
 ·obtain⟨g,hg⟩:=lookup_some (l:=gs) hx
  have:=q _ (zP hg)
  refine⟨?_,this.2⟩
  show GlOkM _ P w K mg base k x ((gs.lookup x).getD .bad)
  rw[hg]
  exact this.1
 ·have h':=c1 _ hxc
  dsimp only at h'
  split at h'
  ·rename_i v' q'
   simp only[Bool.and_eq_true,List.all_eq_true] at h'
   have e:=(jz X Gm q').2 v hv
   subst e
   exact jH (h'.1.2 _ (YM hu))
  ·cases h'
 ·have h':=c4 _ hf
  dsimp only at h'
  refine⟨?_,(oc c C hC).cl,xC ((c3 _ (zP hC)).2 _ hf)⟩
  split at h'
  ·rename_i y hy
   show FLD[f]?=some x
   rw[hy,beq_iff_eq.mp h']
  ·cases h'
 ·have h':=c2 _ (zP hC)
  simp only[Ky,Bool.and_eq_true] at h'
  obtain⟨⟨⟨⟨h1,h2⟩,h3⟩,h4⟩,h5⟩:=h'
  obtain⟨k1,k2,k3,k4⟩:=cb h1
  exact⟨xR h2,xC h3,k1,k2,k3,k4,jH h4,h5⟩
 ·have h':=c1 _ hxc
  dsimp only at h'
  split at h'
  ·rename_i v q'
   simp only[Bool.and_eq_true] at h'
   have hcv:=h'.1.1
   refine⟨v,(match v with|.ref C=>V.ref C|.type n=>V.ty n|_=>V.non),(jz X Gm q').1,?_⟩
   cases v with
   |ref C=>exact .inl ⟨C,rfl,rfl⟩
   |type n=>exact .inr ⟨n,rfl,rfl⟩
   |_=>cases hcv
  ·cases h'
 ·have h':=c1 _ hxc
  dsimp only at h'
  split at h'
  ·rename_i v q'
   simp only[Bool.and_eq_true,Bool.or_eq_true] at h'
   have e:=(jz X Gm q').2 (.ref Cc) (.inl hCc)
   subst e
   have h3:=h'.2.resolve_left (λz=>by have:=Nat.le_of_ble_eq_true z;omega)
   simp only[List.all_eq_true] at h3
   exact jH (h3 _ (zP hCt))
  ·cases h'
end
noncomputable abbrev Ug{β:Type}(t:T)(k:Key->RE β):RE β:=match t with
 |.int i=>k (.inl i)
 |.str x=>k (.inr x)
 |_=>.st
noncomputable abbrev dps(ps:List (De×De)):Sl->Mem->RE (List (Key×T)):=List.rec (motive:=λ_=>Sl->Mem->RE (List (Key×T))) (λ_ μ=>.ok [] μ) (λp _ ih τ μ=>(p.1 τ μ).bind λkt μ1=>(p.2 τ μ1).bind λv μ2=>Ug kt λk=>(ih τ μ2).bind λkvs μ3=>.ok ((k,v)::kvs) μ3) ps
noncomputable abbrev Xf(ps:List (De×De)):De:=λτ μ=>(dps ps τ μ).bind λkvs μ1=>.grd ((kvs.map (·.1)).Nodup) (.ok (.dic kvs) μ1)
section
variable {X:Cx}{D:DP}{W:XW}{Γ:Cn}{k:Nat}{pins:List (Addr×Obj)}{s:Shared}{σ:St}{H:Hp}{φ α:List Addr}{τ:Sl}{μ:Mem}{pos:Pos}
noncomputable def DsOk (X:Cx)(D:DP)(W:XW):List (Option Expr)->List Expr->List (De×De)->Prop
 |[],[],[]=>True
 |some a::ks,b::vs,p::ps=>PE X a (rdE D W p.1)/\PE X b (rdE D W p.2)/\DsOk X D W ks vs ps
 |_,_,_=>False
theorem DsOk.all:∀{ks:List (Option Expr)} {vs:List Expr} {ps:List (De×De)},DsOk X D W ks vs ps->ks.all (·.isSome)=true/\ks.length=vs.length/\ks.length=ps.length
 |[],[],[],_=>⟨rfl,rfl,rfl⟩
 |some a::ks,b::vs,p::ps,h=>by
  obtain⟨h1,h2,h3⟩:=DsOk.all h.2.2
  exact⟨by simpa using h1,by simp[h2],by simp[h3]⟩
 |[],[],_::_,h=>h.elim
 |[],_::_,_,h=>h.elim
 |none::_,_,_,h=>h.elim
 |some _::_,[],_,h=>h.elim
 |some _::_,_::_,[],h=>h.elim
theorem Vb{R:List (Key×T)->Mem->List Addr->Hp->Prop}{Qf:List (Value×Value)->Shared->Prop}:∀{ks:List (Option Expr)} {vs:List Expr} {ps:List (De×De)} {s:Shared} {H:Hp} {α:List Addr} {μ:Mem} {R:List (Key×T)->Mem->List Addr->Hp->Prop},DsOk X D W ks vs ps->Inv X pins σ H s->SRel D φ α H τ σ->MRel D φ α H μ->Post D W φ α H σ R (dps ps τ μ)->
  wpAny (model X.prog X.w) X.A (evalPairs (pairTrees ks vs X.env pos)) (λus s'=>∃H' α' μ' kvs gs ws,Inv X pins σ H' s'/\Stp α H α' H'/\MRel D φ α' H' μ'/\DenK D φ α' H' kvs gs/\Carries (zk X.prog X.w) us ws/\KV gs ws/\kvs.length=ps.length/\R kvs μ' α' H') X.xe s
 |[],[],[],s,H,α,μ,R,_,I,sr,mr,p=>pairTrees_nil_walk ⟨H,α,μ,[],[],[],I,Stp.refl _ _,mr,rfl,trivial,.nil,rfl,p.ok (Stp.refl _ _) mr⟩
 |some a::ks,b::vs,p0::ps,s,H,α,μ,R,h,I,sr,mr,p=>by
  have p:Post D W φ α H σ R ((p0.1 τ μ).bind λkt μ1=>(p0.2 τ μ1).bind λv μ2=>Ug kt λk=>(dps ps τ μ2).bind λkvs μ3=>.ok ((k,v)::kvs) μ3):=p
  refine pairTrees_cons_walk (thn (sub h.1 I sr mr p) ?_)
  rintro u s1 ⟨v,H1,t,μ1,α1,I1,r1,st1,sr1,mr1,d1,p1⟩
  refine thn (sub h.2.1 I1 sr1 mr1 p1) ?_
  rintro u' s2 ⟨v',H2,t',μ2,α2,I2,r2,st2,sr2,mr2,d2,p2⟩
  have key:∀(kk:Key),(zk X.prog X.w).is kk u=true->Post D W φ α2 H2 σ R ((dps ps τ μ2).bind λkvs μ3=>.ok ((kk,t')::kvs) μ3)->
    wpAny (model X.prog X.w) X.A (evalPairs (pairTrees ks vs X.env pos)) (λr s3=>(λus s'=>∃H' α' μ' kvs gs ws,Inv X pins σ H' s'/\Stp α H α' H'/\MRel D φ α' H' μ'/\DenK D φ α' H' kvs gs/\Carries (zk X.prog X.w) us ws/\KV gs ws/\kvs.length=(p0::ps).length/\R kvs μ' α' H') ((u,u')::r) s3) X.xe s2:=λkk hk p3=>by
   refine thn (Vb (Qf:=Qf) (R:=λ_ _ _ _=>True) h.2.2 I2 sr2 mr2 p3.bind) ?_
   rintro us s3 ⟨H3,α3,μ3,kvs,gs,ws,I3,st3,mr3,dk,cr,kv,hlen,q3⟩
   exact⟨H3,α3,μ3,(kk,t')::kvs,(kk,v')::gs,(kk,u')::ws,I3,(st1.trans st2).trans st3,mr3,⟨v',gs,rfl,d2.step st3,dk⟩,⟨hk,rfl,cr⟩,.cons ⟨rfl,r2⟩ kv,by simp[hlen],q3.ok (Stp.refl _ _) mr3⟩
  unfold Ug at p2
  split at p2
  ·cases d1
   obtain⟨t0,rfl⟩:=r1
   exact key _ (j1 _ _ _ t0) p2
  ·cases d1
   obtain⟨t0,rfl⟩:=r1
   exact key _ (vX _ _ _ t0) p2
  ·exact p2.elim
 |[],[],_::_,_,_,_,_,_,h,_,_,_,_=>h.elim
 |[],_::_,_,_,_,_,_,_,h,_,_,_,_=>h.elim
 |none::_,_,_,_,_,_,_,_,h,_,_,_,_=>h.elim
 |some _::_,[],_,_,_,_,_,_,h,_,_,_,_=>h.elim
 |some _::_,_::_,[],_,_,_,_,_,h,_,_,_,_=>h.elim
theorem DenK.keys:∀{kvs:List (Key×T)} {gs:List (Key×V)},DenK D φ α H kvs gs->gs.map (·.1)=kvs.map (·.1)
 |[],_,h=>by have:_=[]:=h;subst this;rfl
 |p::r,_,h=>by
  obtain⟨v,r',rfl,_,l⟩:=h
  simp[DenK.keys l]
theorem KV.keys:∀{gs:List (Key×V)} {ws:List (Key×Value)},KV gs ws->ws.map (·.1)=gs.map (·.1)
 |_,_,.nil=>rfl
 |_,_,.cons r t=>by simp[KV.keys t,r.1]
theorem Qu{ks:List (Option Expr)}{vs:List Expr}{ps:List (De×De)}{Q:VK}{kk:List (Key×T)->Mem->RE T}(h0:ks≠[])(h15:ks.length<=15)(h:DsOk X D W ks vs ps)
  (I:Inv X pins σ H s) (sr:SRel D φ α H τ σ) (mr:MRel D φ α H μ) (p:Post D W φ α H σ (RV D φ Q) ((dps ps τ μ).bind λkvs μ1=>.grd ((kvs.map (·.1)).Nodup) (kk kvs μ1)))
  (Kq:∀b α' H' kvs gs μ',Stp α H α' H'->H b=none->b∉φ->b∉α'->MRel D (φ++[b]) α' H' μ'->(∃u,H' b=some u)->DenK D (φ++[b]) α' H' kvs gs->Post D W φ α H σ (RV D φ Q) (kk kvs μ')->Q (.ref b) (upd H' b (.dK gs))) :
  wpAny (model X.prog X.w) X.A (eval (.Dict ks vs pos) X.env) (EP X pins σ Q) X.xe s:=by
 have hD:H s.heap.objs.size=none:=I.hok.fresh (Nat.le_refl _)
 have sm:wA H (upd H s.heap.objs.size (.dK [])):=zb hD
 have hb:sysModules<s.heap.objs.size:=Nat.lt_trans (show sysModules<mainGlobals by decide) (by first|exact (I.ok.mod.glob.keeps I.bk).lt|exact (I.mod.glob.keeps I.bk).lt)
 have I1:=I.laid (a:=s.heap.objs.size) (o:=.dK []) (h':=s.heap.push {cls:=.type "dict",data:=.dict #[]}) (t':=s.toks) (λ_ _ q=>Heap.get?_push_of_some _ q) (Nat.le_refl _) ⟨Nat.zero_le _,beq_eq_false_iff_ne.mpr (Ne.symm (Nat.ne_of_lt hb)),[],.nil,Heap.DictOf.new _⟩
 have n1:=zf mr hD
 have n2:=zh mr hD
 have lk:Lk φ α H (φ++[s.heap.objs.size]) α (upd H s.heap.objs.size (.dK [])):=jA hD sm
 have sr1:=sr.lk lk
 have mr1:MRel D (φ++[s.heap.objs.size]) α (upd H s.heap.objs.size (.dK [])) μ:=mr.lk lk (λc hc=>by
  have na:c≠s.heap.objs.size:=λz=>n2 (z▸hc)
  exact⟨z7 na,λz=>(List.mem_append.mp z).elim (mr.dis c hc) λz=>na (List.mem_singleton.mp z)⟩) λc hc=>by
  rcases List.mem_append.mp hc with z|z
  ·obtain⟨o,e,n⟩:=mr.phi c z
   exact⟨o,sm c o e,n⟩
  ·rw[List.mem_singleton.mp z,z8];exact⟨_,rfl,rfl⟩
 obtain⟨K0,Z0,q0,hk0,hz0⟩:=p
 have p1:Post D W (φ++[s.heap.objs.size]) α (upd H s.heap.objs.size (.dK [])) σ (λkvs μ' _ _=>(kvs.map (·.1)).Nodup/\kk kvs μ' K0 Z0) (dps ps τ μ):=⟨_,Z0,q0,λkvs μ' e _ _ _ _=>e,λc fs μ' z α' H' C d st m ad xd=>by
  have m':=m.lk zR (λc hc=>⟨rfl,λz=>m.dis c hc (List.mem_append_left _ z)⟩) λc hc=>m.phi c (List.mem_append_left _ hc)
  exact hz0 c fs μ' z α' H' C d ((Stp.new sm).trans st) m' ad (xd.lk zR)⟩
 refine wpAny_Dict_walk (knd:=zk X.prog X.w) h.all.1 h.all.2.1 h0 h15 (thn (Vb (Qf:=λ_ _=>True) (R:=λ_ _ _ _=>True) h I1 sr1 mr1 p1) ?_)
 rintro us s3 ⟨H3,α2,μ2,kvs,gs,ws,I3,st3,mr3,dk,cr,kv,hkl,nd,q3⟩
 have e3:H3 s.heap.objs.size=some (.dK []):=st3.keep _ _ n2 z8
 obtain⟨z,hd,vs0,r0,dd⟩:=(show ObjOk X.prog X.w H3 s3.heap s.heap.objs.size (.dK []) from I3.hok _ _ e3)
 cases r0
 have hm:merged ([]:List (Key×Value)) ws=ws:=merged_nil_of_nodup ws (by rw[KV.keys kv,DenK.keys dk];exact nd)
 refine⟨ws,cr,dd,λh' dd' hs=>⟨.ref s.heap.objs.size,upd H3 s.heap.objs.size (.dK gs),?_,rfl,?_⟩⟩
 ·rw[hm] at dd'
  have he:∃q,h'.get? s.heap.objs.size=some q:=let ⟨q,_,_,hq,_⟩:=dd';⟨q,hq⟩
  have hlen:gs.length<=15:=by
   have e1:gs.length=kvs.length:=by simpa using congrArg List.length (DenK.keys dk)
   have e2:=h.all.2.2
   omega
  exact I3.write (x:=s.heap.objs.size) (e:=s.heap.objs.size) (by rw[e3];exact True.intro) (.inl rfl) (λb u hb hu=>(hs.2 b hb).trans hu) he ⟨Nat.le_trans hlen (by decide),hd,_,kv,dd'⟩
 ·exact Kq _ α2 H3 kvs gs μ2 ((Stp.new sm).trans st3) hD n1 (st3.out n2 z8) mr3 ⟨_,e3⟩ dk ⟨K0,Z0,q3,hk0,hz0⟩
theorem J1{b:Addr}{α':List Addr}{H':Hp}{gs:List (Key×V)}(st:Stp α H α' H')(hb:H b=none):Stp α H α' (upd H' b (.dK gs)):=
 ⟨st.ext,λc o n e=>by rw[z7 (zA e hb)];exact st.keep c o n e,λc e=>by
  by_cases hcs:c=b
  ·rw[hcs];exact hb
  ·rw[z7 hcs] at e;exact st.live c e⟩
theorem V5{b:Addr}{gs:List (Key×V)}(m:MRel D (φ++[b]) α H μ):MRel D φ α (upd H b (.dK gs)) μ:=by
 have inphi:b∈φ++[b]:=by simp
 have m4:MRel D (φ++[b]) α (upd H b (.dK gs)) μ:=m.lk (vn inphi) (λc hc=>⟨by rw[z7 (λz=>m.dis c hc (by rw[z];simp))],m.dis c hc⟩) λc hc=>by
  by_cases hcs:c=b
  ·rw[hcs,z8];exact⟨_,rfl,rfl⟩
  ·rw[z7 hcs];exact m.phi c hc
 exact m4.lk zR (λc hc=>⟨rfl,λz=>m4.dis c hc (List.mem_append_left _ z)⟩) λc hc=>m4.phi c (List.mem_append_left _ hc)
theorem Y_{b:Addr}{gs:List (Key×V)}:Lk (φ++[b]) α H φ α (upd H b (.dK gs)):=⟨λa o n1 n2 e=>⟨λz=>n1 (List.mem_append_left _ z),n2,by rw[z7 (λz:a=b=>n1 (by rw[z];simp))];exact e⟩,λ_ _ e=>e⟩
theorem YA{ks:List (Option Expr)}{vs:List Expr}{ps:List (De×De)}(h0:ks≠[])(h15:ks.length<=15)(h:DsOk X D W ks vs ps):PE X (.Dict ks vs pos) (rdE D W (Xf ps)):=by
 rintro pins s σ H Q I ⟨φ,α,τ,μ,sr,mr,p⟩
 refine Qu h0 h15 h I sr mr p λb α' H' kvs gs μ' st hb n1 n2 m hx dk q=>?_
 exact q.ok (J1 st hb) (V5 m) _ ⟨b,gs,rfl,n1,n2,z8,dk.lk Y_⟩
end
noncomputable def cDs (r:Rec)(Γ:Cn):List (Option Expr)->List Expr->Option (List (De×De))
 |[],[]=>some []
 |some a::ks,b::vs=>(r.e Γ a).bind λf=>(r.e Γ b).bind λg=>(cDs r Γ ks vs).bind λps=>some ((f,g)::ps)
 |_,_=>none
theorem QO{D:DP}{r:Rec}{X:Cx}{W:XW}{Γ:Cn}{k:Nat}(H:RecOk D r)(C:Ck D W Γ X k):∀{ks:List (Option Expr)} {vs:List Expr} {ps:List (De×De)},cDs r Γ ks vs=some ps->DsOk X D W ks vs ps
 |[],[],ps,h=>by cases h;trivial
 |some a::ks,b::vs,ps,h=>by
  obtain⟨f,h1,h⟩:=bnd h
  obtain⟨g,h2,h⟩:=bnd h
  obtain⟨qs,h3,h⟩:=bnd h
  cases h
  exact⟨H.e C h1,H.e C h2,QO H C h3⟩
 |[],_::_,_,h=>by cases h
 |none::_,_,_,h=>by cases h
 |some _::_,[],_,h=>by cases h
noncomputable def z0i (r:Rec)(Γ:Cn)(mk:List (De×De)->De)(e:Expr):Option De:=match e with
 |.Dict ks vs _=>gd (!ks.isEmpty&&decide (ks.length<=15)) ((cDs r Γ ks vs).bind λps=>some (mk ps))
 |_=>none
noncomputable def z09:ER:=λr Γ e=>z0i r Γ Xf e
theorem Jq{D:DP}{mk:List (De×De)->De}(hm:∀{X:Cx} {W:XW} {ks:List (Option Expr)} {vs:List Expr} {ps:List (De×De)} {pos:Pos},ks≠[]->ks.length<=15->DsOk X D W ks vs ps->PE X (.Dict ks vs pos) (rdE D W (mk ps))):EOk D (λr Γ e=>z0i r Γ mk e):=by
 intro r H X W Γ k e d C h
 cases e with
 |Dict ks vs p=>
  obtain⟨hb,h⟩:=zm h
  simp only[Bool.and_eq_true,decide_eq_true_eq,Bool.not_eq_true',List.isEmpty_eq_false_iff] at hb
  obtain⟨ps,h1,h⟩:=bnd h
  cases h
  exact hm hb.1 hb.2 (QO H C h1)
 |_=>cases h
theorem Kj{D:DP}:EOk D z09:=Jq λa b c=>YA a b c
section
variable {X:Cx}{D:DP}{W:XW}{Γ:Cn}{k:Nat}{pins:List (Addr×Obj)}{s:Shared}{σ:St}{H:Hp}{φ α:List Addr}{τ:Sl}{μ:Mem}{f g h:De}{a b c:Expr}{pos:Pos}{es:List Expr}
theorem yA:∀{ns:List Str},DenL D φ α H (ns.map T.str) (ns.map V.str)
 |[]=>rfl
 |n::ns=>⟨V.str n,_,rfl,rfl,yA⟩
theorem wQ:∀{ts:List T} {ss:List Str} {vs:List V},strsOf ts=some ss->DenL D φ α H ts vs->vs=ss.map V.str
 |[],ss,vs,h,l=>by
  simp[strsOf] at h;subst h;exact l
 |.str x::r,ss,vs,h,l=>by
  obtain⟨v,q,rfl,d,l⟩:=l
  simp only[strsOf,Option.map_eq_some_iff] at h
  obtain⟨zs,h,rfl⟩:=h
  cases d
  rw[wQ h l];rfl
end
noncomputable abbrev Jp(c:Nat)(g:Fn)(ts:List T)(μ:Mem):RE T:=λK Z=>g (.mut μ.length::ts) (μ++[.obj c []]) (λr μ1=>r=.non/\K (.mut μ.length) μ1) Z
noncomputable abbrev z1l(c:Nat)(g:Fn)(fs:List De):De:=λτ μ=>(evs fs τ μ).bind (Jp c g)
section
variable {X:Cx}{pins:List (Addr×Obj)}{s:Shared}{σ:St}{H:Hp}
theorem jM{x:Addr}{o:HO}(I:Inv X pins σ H s)(ox:XOk X H x)(hp:∀p∈pins,p.1≠x)(hx:ObjOk X.prog X.w (upd H x o) s.heap x o):Inv X pins σ (upd H x o) s:=by
 have ne:∀b,H b≠none->b≠x:=λb h z=>h (by rw[z];exact ox.free)
 refine⟨I.ok,I.os,I.bare,⟨I.base.keep,I.base.slot,λb o e n hx'=>?_,I.base.there,λb xs e=>?_,λb o u e=>?_,λb ps e=>?_⟩,I.loc,I.cell,?_,λy c e=>?_,λp hp'=>?_,λb ob e=>?_,I.len⟩
 ·have:b≠x:=λz=>by
   rcases ox.new with q|q
   ·exact hx' (by rw[z];exact q)
   ·rw[←z,e] at q;cases q
  rw[z7 this];exact I.base.free b o e n hx'
 ·have q:=I.base.tups b xs e
  rw[z7 (ne b (by rw[q];simp))];exact q
 ·have q:=I.base.frzs b o u e
  rw[z7 (ne b (by rw[q];simp))];exact q
 ·obtain⟨more,q⟩:=I.base.tbls b ps e
  exact⟨more,by rw[z7 (ne b (by rw[q];simp))];exact q⟩
 ·rw[z7 (Ne.symm ox.loc)];exact I.free
 ·rw[z7 (ox.cel y c e)];exact I.freeC y c e
 ·obtain⟨e,n,r⟩:=I.pin p hp'
  have:p.1≠x:=(List.mem_append.mp hp').elim (ox.pin p) (hp p)
  exact⟨e,by rw[z7 this];exact n,r⟩
 ·by_cases z:b=x
  ·subst z
   rw[z8] at e
   cases e
   exact hx
  ·rw[z7 z] at e
   exact (I.hok b ob e).stay (λ_ _ _ q=>q) (λc q=>by
    by_cases w:c=x
    ·rw[w,ox.free] at q;cases q
    ·rw[z7 w];exact q) λc _ q=>by
    by_cases w:c=x
    ·rw[w,ox.free] at q;cases q
    ·rw[z7 w];exact q
end
end NH
namespace L2
open PySem PySem.Spec PyProof.Rows
section
variable {κ:Type}[DecidableEq κ]
noncomputable def j8(kvs:List (κ×V))(k:κ):Option V:=(kvs.find? λkv=>decide (kv.1=k)).map (·.2)
theorem vq{p:κ×V}{r:List (κ×V)}{k:κ}(e:p.1=k):j8 (p::r) k=some p.2:=by simp[j8,List.find?_cons,e]
theorem vx{p:κ×V}{r:List (κ×V)}{k:κ}(e:¬p.1=k):j8 (p::r) k=j8 r k:=by simp[j8,List.find?_cons,e]
theorem RelO.getD{o:Option V}{u:Option Value}{d:V}{d':Value}(r:RelO o u)(rd:RelV d d'):RelV (o.getD d) (u.getD d'):=by
 cases o with
 |none=>cases u with
  |none=>exact rd
  |some _=>exact (show False from r).elim
 |some _=>cases u with
  |none=>exact (show False from r).elim
  |some _=>exact r
theorem KV.val{kvs:List (κ×V)}{vs:List (κ×Value)}(r:KV kvs vs)(k:κ):RelO (j8 kvs k) (valueAt vs k):=by
 unfold KV at r
 induction r with
 |nil=>exact True.intro
 | @cons p q ps qs h t ih=>
  obtain⟨h1,h2⟩:=h
  by_cases e:p.1=k
  ·have e':q.1=k:=h1.symm.trans e
   have b:valueAt (q::qs) k=some q.2:=by simp[valueAt,List.find?_cons,e']
   rw[vq e,b];exact h2
  ·have e':¬q.1=k:=λz=>e (h1.trans z)
   have b:valueAt (q::qs) k=valueAt qs k:=by simp[valueAt,List.find?_cons,e']
   rw[vx e,b];exact ih
end
theorem Wo{P:Program}{w:World}{k:Key}{u:Value}(r:RelV (kV k) u):(zk P w).is k u=true:=by
 cases k with
 |inl i=>obtain⟨t,e⟩:=(show ∃t,u=Value.int i t from r);subst e;exact j1 P w i t
 |inr x=>obtain⟨t,e⟩:=(show ∃t,u=Value.str x t from r);subst e;exact vX P w x t
theorem xj{P:Program}{w:World}:∀{ks:List Key} {us:List Value},Vals (ks.map kV) us->ItemsAre (zk P w) ks us
 |[],_,r=>by rw[List.map_nil] at r;cases r;exact .nil
 |k::ks,_,r=>by
  rw[List.map_cons] at r
  cases r with
  |cons h t=>exact .cons (Wo h) (xj t)
abbrev KT(H:Hp):List (List Key×V)->List (List Key×Addr×Value)->Prop:=Paired λp q=>p.1=q.1/\H q.2.1=some (.tup (p.1.map kV))/\RelV p.2 q.2.2
theorem KT.val{H:Hp}{kvs:List (List Key×V)}{xs:List (List Key×Addr×Value)}(r:KT H kvs xs)(k:List Key):RelO (j8 kvs k) ((atKey xs k).map (·.2)):=by
 induction r with
 |nil=>exact True.intro
 | @cons p q ps qs h t ih=>
  obtain⟨h1,_,h2⟩:=h
  by_cases e:p.1=k
  ·have e':q.1=k:=h1.symm.trans e
   have b:atKey (q::qs) k=some q.2:=by simp[atKey,List.find?_cons,e']
   rw[vq e,b];exact h2
  ·have e':¬q.1=k:=λz=>e (h1.trans z)
   have b:atKey (q::qs) k=atKey qs k:=by simp[atKey,List.find?_cons,e']
   rw[vx e,b];exact ih
section
variable {P:Program}{w:World}{H:Hp}{h:Heap}{a:Addr}
theorem Kp{u:HO}(ok:HOk P w H h)(e:Rd H a u):ObjOk P w H h a u:=e.ok ok
theorem KS{kvs:List (Key×V)}(ok:HOk P w H h)(e:Rd H a (.dK kvs)):kvs.length<=sizeLine/\(a == sysModules)=false/\∃vs,KV kvs vs/\h.DictOf (zk P w) a vs:=
 show ObjOk P w H h a (.dK kvs) from Kp ok e
theorem Wi{ks:List Key}(ok:HOk P w H h)(e:H a=some (.tup (ks.map kV))):(tupleKind (zk P w)).is h ks a:=by
 obtain⟨_,its,r,o,h1,h2,n,h3⟩:=(show ObjOk P w H h a (.tup (ks.map kV)) from ok a _ e)
 exact⟨o,its.toArray,n,h1,h2,h3,by simpa using xj r⟩
theorem KQ{kvs:List (List Key×V)}(ok:HOk P w H h)(e:Rd H a (.dT kvs)):kvs.length<=sizeLine/\(a == sysModules)=false/\
  ∃xs,KT H kvs xs/\h.DictOfH (tupleKind (zk P w)) a xs:=by
 obtain⟨z,y,xs,r,o,es,ep,h1,h2,h3,h4,h5⟩:=(show ObjOk P w H h a (.dT kvs) from Kp ok e)
 refine⟨z,y,xs,r,o,es,ep,h1,h2,h3,h4,λx hx=>?_,h5⟩
 have all:∀{l:List (List Key×V)} {m:List (List Key×Addr×Value)},KT H l m->∀x∈m,(tupleKind (zk P w)).is h x.1 x.2.1:=by
  intro l m q
  induction q with
  |nil=>intro x hx;exact nomatch hx
  | @cons p q ps qs hq t ih=>
   intro x hx
   rcases List.mem_cons.mp hx with e|hx
   ·subst e
    exact Wi ok (by rw[←hq.1];exact hq.2.1)
   ·exact ih x hx
 exact all r x hx
end
noncomputable def DGet (H:Hp)(a:Addr)(y:V)(r:Option V):Prop:=
 (∃kvs k,Rd H a (.dK kvs)/\y=kV k/\r=j8 kvs k)\/∃kvs k b,Rd H a (.dT kvs)/\y=.ref b/\H b=some (.tup (k.map kV))/\r=j8 kvs k
theorem DGet.k{H:Hp}{a:Addr}{kvs:List (Key×V)}{k:Key}(e:H a=some (.dK kvs)):DGet H a (kV k) (j8 kvs k):=.inl ⟨kvs,k,.inl e,rfl,rfl⟩
structure M1(X:Cx)(o:Expr)(m:Str)(apos:Pos)(e:Expr)(cpos:Pos):Prop where
 base:attributeBase o m X.env (eval o X.env)=eval o X.env
 few:((backTo cpos (starEach [e] X.env)).all (λx=>!x.1)&&(backToKw cpos (keywordEach [] X.env)).all (λx=>x.1.isSome)
  &&decide (([e]:List Expr).length+([]:List Keyword).length+(if ([]:List Keyword).isEmpty then 0 else 1)<30))=true
 line:(apos.endLine == cpos.line)=true
 trees:backTo cpos (starEach [e] X.env)=[(false,eval e X.env)]
noncomputable def IsD (H:Hp)(a:Addr):Prop:=(∃kvs,Rd H a (.dK kvs))\/∃kvs,Rd H a (.dT kvs)
theorem Yo{X:Cx}{pins:List (Addr×Obj)}{σ:St}{H:Hp}{s:Shared}{a:Addr}(I:Inv X pins σ H s)(d:IsD H a) :
  s.TypeIs (.ref a) "dict"/\(∀b,Value.ref a=.ref b->∃ob,s.heap.get? b=some ob/\ob.dict=none)/\(a == sysModules)=false:=by
 rcases d with⟨kvs,e⟩|⟨kvs,e⟩
 ·obtain⟨_,hd,vs,_,dd⟩:=KS I.hok e
  refine⟨dd.typeIs,λb q=>?_,hd⟩
  cases q
  obtain⟨ob,_,_,h1,h2,_⟩:=dd
  exact⟨ob,h1,h2.2.1⟩
 ·obtain⟨_,hd,xs,_,dd⟩:=KQ I.hok e
  refine⟨dd.typeIs,λb q=>?_,hd⟩
  cases q
  obtain⟨ob,_,_,h1,h2,_⟩:=dd
  exact⟨ob,h1,h2.2.1⟩
section
variable {X:Cx}{pins:List (Addr×Obj)}{σ:St}{H:Hp}{s:Shared}{a:Addr}{y d:V}{u r:Value}{o:Option V}{A:Around}{E:Value->Shared->Prop}
theorem Uc{Q:Value->Shared->Prop}(hu:A.units+1<cLine)(I:Inv X pins σ H s)(g:DGet H a y o)(ry:RelV y u)(rd:RelV d r)(h:∀w' s',Inv X pins σ H s'->RelV (o.getD d) w'->Q w' s') :
  wpAny (model X.prog X.w) A (call (.builtin "dict.get") [.ref a,u,r]) Q E s:=by
 rcases g with⟨kvs,k,e,ey,l⟩|⟨kvs,k,b,e,ey,eb,l⟩
 ·subst ey
  obtain⟨z,hd,vs,rel,dd⟩:=KS I.hok e
  refine call_meetsIn PySem.F.slot_dict_get dd.typeIs PySem.F.entry_dict_get (PySem.F.args_dict_get_3 _ _ _) (meets_dict_get_default (zk X.prog X.w) a (Wo ry) hd r) ⟨_,dd.mapOf,h _ _ (I.tok _) ?_⟩
  rw[l]
  exact (rel.val k).getD rd
 ·subst ey
  cases (show u=Value.ref b from ry)
  obtain⟨z,hd,xs,rel,dd⟩:=KQ I.hok e
  refine call_meetsIn PySem.F.slot_dict_get dd.typeIs PySem.F.entry_dict_get (PySem.F.args_dict_get_3 _ _ _) (meetsH_dict_get_default (tupleKind (zk X.prog X.w)) a b hd r) ⟨tupleKind_room_in1 hu,k,xs,Wi I.hok eb,dd,h _ _ (I.tok _) ?_⟩
  rw[l]
  exact (rel.val k).getD rd
end
noncomputable def XF(td ty tx:TE):TE:=λσ H Q=>td σ H λx H1=>∃a,x=.ref a/\IsD H1 a/\ty σ H1 λy H2=>tx σ H2 λz H3=>∃o,DGet H3 a y o/\Q (o.getD z) H3
end L2
namespace NH
open PySem PySem.Spec PyProof.Rows L2
noncomputable def kK(z:Key):List (Key×T)->Option T
 |[]=>none
 |p::r=>if p.1=z then some p.2 else kK z r
noncomputable abbrev z1g:De:=λ_ μ=>.ok (.dic []) μ
noncomputable abbrev z1m(o f g:De):De:=λτ μ=>(o τ μ).bind λot μ1=>match ot with
 |.mut i=>λK Z=>(∃ts,μ1[i]?=some (.lst ts))/\f τ μ1 (λkt μ2=>g τ μ2 (λt μ3=>match kt with
  |.int k=>∃ts,μ3[i]?=some (.lst ts)/\(0<=k/\k<=ts.length/\ts.length<room)/\K .non (μ3.set i (.lst (ts.take k.toNat++t::ts.drop k.toNat)))
  |_=>False) Z) Z
 |_=>.st
end NH
namespace NH.P
open PySem L2 NH
@[reducible] noncomputable def vR:List Ds:=[(sIf (tOr (wz (tE (x_ [3] (eV 0)))) (wz (tE (eCh (eC (.int 1)) [(.LtE,(eB1 j3 (eV 0))),(.LtE,(eC (.int 8)))])))) [(zu (eC (.bl false)))] []),(zu (eB1 VF (qf 1 [] (.one 0) (iE (eV 0)) [] (zp .In (eV 0) (eC (.str "abcdefghijklmnopqrstuvwxyz"))))))]
noncomputable def wo:Fn:=fnW 1 0 vR
@[reducible] noncomputable def kH:List Ds:=[(zu (Xj [(zi .Mult (zi .FloorDiv (eV 0) (eC (.int 2))) (zi .Sub (eC (.int 1)) (zi .Mod (eV 0) (eC (.int 2))))),(zi .Mod (eV 0) (eC (.int 2147483647))),(eC (.int 0))]))]
noncomputable def w_:Fn:=fnW 1 0 kH
@[reducible] noncomputable def yL:List Ds:=[(sIf (tE (zp .Gt (eIx (eV 0) (eC (.int 0))) (eC (.int 0)))) [(zo 2 (zi .Mod (eIx (eV 0) (eC (.int 0))) (eV 1))),(Ww (eV 0) (eC (.int 0)) (zi .FloorDiv (eIx (eV 0) (eC (.int 0))) (eV 1))),(zu (eV 2))] []),(Ww (eV 0) (eC (.int 2)) (zi .Add (eIx (eV 0) (eC (.int 2))) (eC (.int 1)))),(zo 3 (zi .Mod (zi .Mult (zi .Add (zi .Add (eIx (eV 0) (eC (.int 1))) (zi .Mult (eC (.int 7919)) (eIx (eV 0) (eC (.int 2))))) (eC (.int 1))) (eC (.int 48271))) (eC (.int 2147483647)))),(zo 3 (zi .Mod (zi .Mult (eV 3) (zi .Add (zi .FloorDiv (eV 3) (eC (.int 1009))) (eC (.int 69621)))) (eC (.int 2147483647)))),(zo 3 (zi .Mod (zi .Mult (eV 3) (zi .Add (zi .FloorDiv (eV 3) (eC (.int 2003))) (eC (.int 40692)))) (eC (.int 2147483399)))),(zu (zi .Mod (zi .FloorDiv (eV 3) (eC (.int 7))) (eV 1)))]
noncomputable def zr:Fn:=fnW 2 2 yL
end NH.P
namespace NH
open PySem PySem.Spec PyProof.Rows L2
section
variable {X:Cx}{D:DP}{W:XW}{Γ:Cn}{k:Nat}{pins:List (Addr×Obj)}{s:Shared}{σ:St}{H:Hp}{φ α:List Addr}{τ:Sl}{μ:Mem}{f g h:De}{a b c:Expr}{pos:Pos}{es:List Expr}
theorem XT{n:Nat}(h:n<2 ^ 1900):n.log2<1920:=by
 by_cases z:n=0
 ·subst z;decide
 ·exact Nat.lt_trans ((Nat.log2_lt z).mpr h) (by decide)
noncomputable abbrev W_(c:Str->Str->Prop)(r:Str->Str->T)(o f:De):De:=λτ μ=>(o τ μ).bind λot μ1=>match ot with
 |.str x=>(f τ μ1).bind λt μ2=>match t with
  |.str y=>.grd (c x y) (.ok (r x y) μ2)
  |_=>.st
 |_=>.st
noncomputable abbrev JC(c:Str->Prop)(r:Str->T)(o:De):De:=λτ μ=>(o τ μ).bind λot μ1=>match ot with
 |.str x=>.grd (c x) (.ok (r x) μ1)
 |_=>.st
abbrev anyC(x y:Str):Prop:=True
abbrev xI(x:Str):Prop:=Builtin.Str.tooLong (Txt.upper x).length=false
noncomputable abbrev xx(x:Str):T:=.str (Txt.upper x)
abbrev uY(x y:Str):Prop:=x.length<=room/\(y.length == 0)=false
noncomputable abbrev ue(x y:Str):T:=.lst ((Txt.split x y).map T.str)
noncomputable abbrev startT(x y:Str):T:=.bl (Txt.startswith x y)
noncomputable def M1R (X:Cx)(D:DP)(id:String)(c:Str->Str->Prop)(r:Str->Str->T):Prop:=
 ∀(pins:List (Addr×Obj)) (s:Shared) (σ:St) (H:Hp) (φ α:List Addr) (μ:Mem) (x y:Str) (t u:Tok) (Q:VK),Inv X pins σ H s->MRel D φ α H μ->c x y->(∀v H',wA H H'->Den D φ α H' (r x y) v->Q v H')->
  wpAny (model X.prog X.w) X.A (call (.builtin id) [.str x t,.str y u]) (EP X pins σ Q) X.xe s
noncomputable def M0R (X:Cx)(D:DP)(id:String)(c:Str->Prop)(r:Str->T):Prop:=
 ∀(pins:List (Addr×Obj)) (s:Shared) (σ:St) (H:Hp) (φ α:List Addr) (μ:Mem) (x:Str) (t:Tok) (Q:VK),Inv X pins σ H s->MRel D φ α H μ->c x->(∀v H',wA H H'->Den D φ α H' (r x) v->Q v H')->
  wpAny (model X.prog X.w) X.A (call (.builtin id) [.str x t]) (EP X pins σ Q) X.xe s
theorem Wx {o:Expr} {pa pc:Pos} {go:De} {nm:Str} {id:String} {cc:Str->Str->Prop} {rr:Str->Str->T} (slot:Slot "str" nm id) (hty:typeOf (.builtin id)=pure (.type "method_descriptor")) (hM:M1R X D id cc rr) (hp:zM o=true) (hs:noStar a=true) (hline:(pa.endLine == pc.line)=true) (ho:PE X o (rdE D W go)) (ha:PE X a (rdE D W f)) :
  PE X (.Call (.Attribute o nm pa) [a] [] pc) (rdE D W (W_ cc rr go f)):=by
 have hb:starEach [a] X.env=[(false,eval a X.env)]:=z6 hs
 have mt:MtR X id (λx vs H Q=>∃i j φ α μ,x=.str i/\vs=[.str j]/\MRel D φ α H μ/\cc i j/\∀v H',wA H H'->Den D φ α H' (rr i j) v->Q v H'):=by
  intro pins s σ H x vs v us Q I rx rv h
  obtain⟨i,j,φ,α,μ,rfl,rfl,mr,hc,h⟩:=h
  obtain⟨t0,rfl⟩:=rx
  obtain⟨u,rfl,t1,rfl⟩:=rv.one
  exact hM pins s σ H φ α μ i j t0 t1 Q I mr hc h
 refine PE.mono (Kr PySem.F.plainAttrs_str slot hty mt ho (zt ha qe (z6 hs)) (qA hp) (by rw[hb];rfl) hline (z6 hs) rfl) ?_
 rintro σ H Q ⟨φ,α,τ,μ,sr,mr,p⟩
 refine⟨φ,α,τ,μ,sr,mr,p.bind.mono λot μ1 α1 H1 st1 m1 q ov dv=>?_⟩
 split at q
 case h_2=>exact q.elim
 have dv:ov=.str _:=dv
 subst dv
 refine⟨rfl,φ,α1,τ,μ1,sr.step st1,m1,q.bind.mono λt μ2 α2 H2 st2 m2 q2 v d=>?_⟩
 split at q2
 case h_2=>exact q2.elim
 obtain⟨hc,q2⟩:=q2.grd
 have d:v=.str _:=d
 subst d
 exact⟨_,_,φ,α2,μ2,rfl,rfl,m2,hc,λw H' sm dw=>q2.fresh m2 sm dw⟩
theorem Xz {o:Expr} {pa pc:Pos} {go:De} {nm:Str} {id:String} {cc:Str->Prop} {rr:Str->T} (slot:Slot "str" nm id) (hty:typeOf (.builtin id)=pure (.type "method_descriptor")) (hM:M0R X D id cc rr) (hp:zM o=true) (hline:(pa.endLine == pc.line)=true) (ho:PE X o (rdE D W go)) :
  PE X (.Call (.Attribute o nm pa) [] [] pc) (rdE D W (JC cc rr go)):=by
 have mt:MtR X id (λx vs H Q=>∃i φ α μ,x=.str i/\vs=[]/\MRel D φ α H μ/\cc i/\∀v H',wA H H'->Den D φ α H' (rr i) v->Q v H'):=by
  intro pins s σ H x vs v us Q I rx rv h
  obtain⟨i,φ,α,μ,rfl,rfl,mr,hc,h⟩:=h
  obtain⟨t0,rfl⟩:=rx
  cases rv
  exact hM pins s σ H φ α μ i t0 Q I mr hc h
 refine PE.mono (XO PySem.F.plainAttrs_str slot hty mt ho (qA hp) hline) ?_
 rintro σ H Q ⟨φ,α,τ,μ,sr,mr,p⟩
 refine⟨φ,α,τ,μ,sr,mr,p.bind.mono λot μ1 α1 H1 st1 m1 q ov dv=>?_⟩
 split at q
 case h_2=>exact q.elim
 have dv:ov=.str _:=dv
 subst dv
 obtain⟨hc,q⟩:=q.grd
 exact⟨rfl,_,φ,α1,μ1,rfl,rfl,m1,hc,λw H' sm dw=>q.fresh m1 sm dw⟩
theorem Jj:M1R X D "str.startswith" anyC startT:=λpins s σ H φ α μ x y t u Q I mr _ h=>SC.startswith ⟨.bl _,H,I,rfl,h _ H (λ_ _ e=>e) rfl⟩
theorem m_upper:M0R X D "str.upper" xI xx:=λpins s σ H φ α μ x t Q I mr hc h=>SC.upper hc ⟨.str _,H,I.tok _,⟨_,rfl⟩,h _ H (λ_ _ e=>e) rfl⟩
theorem kI:∀(l:List (Str×Tok)),Vals ((l.map (·.1)).map V.str) (strValues l)
 |[]=>.nil
 |(x,t)::r=>.cons ⟨t,rfl⟩ (kI r)
open Builtin Builtin.Str in
theorem Q2{A:Around}{P:Program}{w:World}{E:Value->Shared->Prop}{x y:Str}{t u:Tok}{Q:Value->Shared->Prop}(hy:(y.length == 0)=false)(hsz:x.length+2<=sizeLine)
  (h:∀l tk,l.map (·.1)=Txt.split x y->l.length<=sizeLine->Q (.ref s.heap.objs.size) {s with heap:=s.heap.push {cls:=.type "list",data:=.seq (strValues l).toArray},toks:=tk}):wpAny (model P w) A (call (.builtin "str.split") [.str x t,.str y u]) Q E s:=by
 have ho:=StrLaws.occ_length_le x y 0 x.length (x.length+1)
 have hn:(partsBetween x (occurrences x y 0 x.length (x.length+1)) y.length).length<=sizeLine:=by
  rw[length_partsBetween]
  omega
 have one:∀z:Str×Tok,[z].length<=sizeLine:=λz=>by show 1<=sizeLine;decide
 by_cases h1:(decide (x.length<y.length) || decide (strKind x<strKind y))=true
 ·refine call_meets (F.slot_str_split) (typeIs_str s x t) (F.entry_str_split) (F.args_str_split_2 _ _) (meets_str_split_cannot_occur x y t u h1) ?_
  exact h [(x,t)] s.toks (if_pos h1).symm (one _)
 ·have h1:=Bool.eq_false_iff.mpr h1
  by_cases hf:(occurrences x y 0 x.length (x.length+1)).isEmpty=true
  ·refine call_meets (F.slot_str_split) (typeIs_str s x t) (F.entry_str_split) (F.args_str_split_2 _ _) (meets_str_split_not_found x y t u h1 hy hf) ?_
   exact h [(x,t)] s.toks ((if_neg (ne_true_of_eq_false h1)).trans (if_pos hf)).symm (one _)
  ·have hf:=Bool.eq_false_iff.mpr hf
   refine call_meets (F.slot_str_split) (typeIs_str s x t) (F.entry_str_split) (F.args_str_split_2 _ _) (meets_str_split_sep x y t u h1 hy hf (by omega) hn) ?_
   have e:(numbered s.toks (partsBetween x (occurrences x y 0 x.length (x.length+1)) y.length)).map (·.1)=Txt.split x y:=(numbered_texts s.toks (partsBetween x (occurrences x y 0 x.length (x.length+1)) y.length)).trans ((if_neg (ne_true_of_eq_false h1)).trans (if_neg (ne_true_of_eq_false hf))).symm
   have k:=h (numbered s.toks _) (s.toks+(partsBetween x (occurrences x y 0 x.length (x.length+1)) y.length).length) e (by
    have:=congrArg List.length (numbered_texts s.toks (partsBetween x (occurrences x y 0 x.length (x.length+1)) y.length))
    rw[List.length_map] at this
    omega)
   rw[←strsFrom_eq] at k
   exact k
theorem m_split:M1R X D "str.split" uY ue:=by
 intro pins s σ H φ α μ x y t u Q I mr hc h
 refine Q2 hc.2 (Nat.le_trans (Nat.add_le_add_right hc.1 2) (by unfold room;decide)) λl tk hl hz=>?_
 have hp:H s.heap.objs.size=none:=I.hok.fresh (Nat.le_refl _)
 refine⟨.ref _,upd H s.heap.objs.size (.lst ((l.map (·.1)).map V.str)),I.laid (t':=tk) (λb u e=>Heap.get?_push_of_some _ e) (Nat.le_refl _) ⟨by simpa using hz,_,0,kI l,Heap.get?_push_size _ rfl⟩,rfl,h _ _ (zb hp) ?_⟩
 show Den D φ α _ (.lst ((Txt.split x y).map T.str)) _
 rw[←hl]
 exact⟨_,_,rfl,zf mr hp,zh mr hp,.inl z8,yA⟩
noncomputable def W2:ER:=rM1 "startswith" (W_ anyC startT)
theorem Qj{D:DP}:EOk D W2:=QX λC hp hs hl ho ha=>Wx PySem.F.slot_str_startswith PySem.F.type_str_startswith Jj hp hs hl ho ha
noncomputable def WA:ER:=rM1 "split" (W_ uY ue)
theorem Z_{D:DP}:EOk D WA:=QX λC hp hs hl ho ha=>Wx PySem.F.slot_str_split PySem.F.type_str_split m_split hp hs hl ho ha
noncomputable def rM0 (nm:Str)(cb:De->De):ER:=λr Γ e=>match e with
 |.Call (.Attribute o m pa) [] [] pc=>gd (m == nm&&zM o&&pa.endLine == pc.line) ((r.e Γ o).bind λf=>some (cb f))
 |_=>none
theorem XZ{D:DP}{nm:Str}{cb:De->De}(H1:∀{X:Cx} {W:XW} {Γ:Cn} {k:Nat} {o:Expr} {f:De} {pa pc:Pos},Ck D W Γ X k->zM o=true->(pa.endLine == pc.line)=true->PE X o (rdE D W f)->PE X (.Call (.Attribute o nm pa) [] [] pc) (rdE D W (cb f))):EOk D (rM0 nm cb):=by
 intro r H X W Γ k e d C h
 unfold rM0 at h
 split at h
 ·have hh:=zm h
  clear h
  obtain⟨hb,h⟩:=hh
  simp only[Bool.and_eq_true] at hb
  obtain⟨⟨h0,h2⟩,h4⟩:=hb
  have h0:=beq_iff_eq.mp h0
  subst h0
  obtain⟨f,h1,h⟩:=bnd h
  cases h
  exact H1 C h2 h4 (H.e C h1)
 ·cases h
noncomputable def We:ER:=rM0 "upper" (JC xI xx)
theorem ZT{D:DP}:EOk D We:=XZ λC hp hl ho=>Xz PySem.F.slot_str_upper PySem.F.type_str_upper m_upper hp hl ho
end
section
variable {prog:Program}{w:World}{A:Around}{E:Value->Shared->Prop}{h:Heap}{g:Array GenState}{d:Drawn}{t:Nat}{os:OsState}
variable {nm q:Str}{C N:Addr}{bs bm bmB:List Value}{hdct:Bool}{sn:List Str}{sub:List Value}{ab:Bool}{col:Option Bool}{dd:Option Addr}{k0 k1 k2 k3 k5:Option Value}{B newId initId:String}
theorem ZO(F:ExcBaseFacts B newId initId bmB)(T0:OwnTail h bmB bm){mN:Str->Option Value}{us:List Value}{fI:Addr}{oI:Obj}{Q:Fin->Shared->Prop}
  (gC:h.get? C=some (excClassObj nm q C N bs bm hdct sn sub ab col dd k0 k1 k2 k3 k5 newId)) (gN:h.Ns N mN) (gI:mN "__init__"=some (.ref fI)) (gf:h.get? fI=some oI) (gc:oI.cls=.type "function")
  (go:∀h1 x,Heap.MadeExcOf h h1 x (.ref C) us->wpAny (model prog w) A (call (.ref fI) (.ref x::us)) (λr s1=>r=.none/\Q (.done (.ret (.ref x))) s1) E ⟨h1,g,d,t,os⟩) (hus:us.length<=sizeLine) :
  wpAny (model prog w) A (Builtin.«type.__call__» ⟨.ref C::us,[]⟩) Q E ⟨h,g,d,t,os⟩:=by
 repeat (first|(with_reducible refine wpAny_loadPart_at gC ?_)|(with_reducible refine wpAny_madeBy_exc gC ?_)|wp_step)
 refine codeAny_call_builtin_code (Code.quiet_builtin _ F.quiet) (wpAny_check_new_subT F T0 gC (codeAny_exc_new_subT F T0 gC ?_ hus))
 show wpAny _ _ _ _ _ _
 let tu:Obj:={cls:=.type "tuple",data:=.seq us.toArray}
 let xo:Obj:={cls:=.ref C,data:=.fields #[.ref h.objs.size,.none,.none,.none,.bool false,.none]}
 have up:∀b o,h.get? b=some o->((h.push tu).push xo).get? b=some o:=λb o e=>Heap.get?_push_of_some _ (Heap.get?_push_of_some _ e)
 have gC1:=up _ _ gC
 have gf1:=up _ _ gf
 have gN1:((h.push tu).push xo).Ns N mN:=by
  obtain⟨o,es,ep,e,r⟩:=gN
  exact⟨o,es,ep,up _ _ e,r⟩
 have gx:((h.push tu).push xo).get? (h.objs.size+1)=some xo:=by
  have:=Heap.get?_push_size (h.push tu) (o:=xo) rfl
  rw[Heap.size_push] at this
  exact this
 have own:(Value.ref C::bm).contains (.ref C)=true:=by simp
 have T1:OwnTail ((h.push tu).push xo) bmB bm:=T0.keeps up
 unfold isInstance
 repeat (first|(with_reducible refine wpAny_loadPart_at gx ?_)|(with_reducible refine wpAny_isSubtype_exc gC1 ?_;rw[own])|wp_step)
 show wpAny _ _ (typeLookup (.ref C) _) _ _ _
 refine wpAny_typeLookup_tail gC1 gN1 T1 F.mroIs F.init.lookup ?_
 rw[gI]
 refine wpAny_holding (wpAny_bind ?_)
 unfold bindSpecial
 refine wpAny_bind (wpAny_typeOf (T:="function") ⟨_,gf1,gc⟩ ?_)
 rw[if_pos (by decide)]
 have mk:Heap.MadeExcOf h ((h.push tu).push xo) (h.objs.size+1) (.ref C) us:=⟨up,Heap.get?_none_of_le (Nat.le_succ _),h.objs.size,gx,Heap.get?_none_of_le (Nat.le_refl _),Heap.get?_push_of_some _ (Heap.get?_push_at rfl rfl)⟩
 refine wpAny_pure (wpAny_bind (wpAny_mono (go _ _ mk) (λr s1 hr=>?_) λ_ _ z=>z))
 obtain⟨rfl,hr⟩:=hr
 wp_walk
 exact hr
theorem Q6(F:ExcBaseFacts B newId initId bmB)(T0:OwnTail h bmB bm){mN:Str->Option Value}{us:List Value}{fI:Addr}{oI:Obj}{Q:Value->Shared->Prop}
  (gC:h.get? C=some (excClassObj nm q C N bs bm hdct sn sub ab col dd k0 k1 k2 k3 k5 newId)) (gN:h.Ns N mN) (gI:mN "__init__"=some (.ref fI)) (gf:h.get? fI=some oI) (gc:oI.cls=.type "function")
  (go:∀h1 x,Heap.MadeExcOf h h1 x (.ref C) us->wpAny (model prog w) (A.under (.builtin "type.__call__" ⟨.ref C::us,[]⟩)) (call (.ref fI) (.ref x::us)) (λr s1=>r=.none/\Q (.ref x) s1) E ⟨h1,g,d,t,os⟩) (hus:us.length<=sizeLine) :
  wpAny (model prog w) A (call (.ref C) us) Q E ⟨h,g,d,t,os⟩:=by
 have i1:=tc_lookup
 have i2:=tc_bind (.ref C)
 have tp:Shared.TypeIs ⟨h,g,d,t,os⟩ (.ref C) "type":=⟨_,gC,rfl⟩
 refine wpAny_call (codeAny_of_tree ?_)
 show wpAny _ _ (callAny (.ref C) _) _ _ _
 repeat (any_goals (first|assumption|(with_reducible refine wpAny_loadPart_at gC ?_)|wp_step))
 refine⟨rfl,codeAny_call_builtin_at (Code.quiet_builtin _ (by decide +kernel)) entry_typeCall (wpAny_check_type_call_sub gC ?_)⟩
 exact ZO F T0 gC gN gI gf gc (λh1 x mk=>go h1 x mk) hus
theorem jJ {M:Model} {env:Env} {s:Shared} {x:Sem Value} {Q:Flow->Shared->Prop} (hbase:bm.contains (.type "BaseException")=true) (hh:A.handled=none)
  (go:wpAny M A x (λv s1=>∃e t dx,v=.ref e/\s1.heap.get? C=some (excClassObj nm q C N bs bm hdct sn sub ab col dd k0 k1 k2 k3 k5 newId)/\
   s1.heap.get? e=some {cls:=.ref C,dict:=dx,data:=.fields #[.ref t,.none,.none,.none,.bool false,.none]}/\E (.ref e) s1) E s) :
  wpAny M A (raiseStmt env (some x) none) Q E s:=by
 have isB:(Value.ref C::bm).contains (.type "BaseException")=true:=by rw[List.contains_cons,hbase];simp
 unfold raiseStmt
 refine wpAny_bind (wpAny_mono go (λv s1 k=>?_) λ_ _ z=>z)
 obtain⟨e,t,dx,rfl,gC,ge,gE⟩:=k
 obtain⟨h1,g1,d1,t1,o1⟩:=s1
 repeat (first|(with_reducible refine wpAny_loadPart_at ge ?_)|(with_reducible refine wpAny_loadPart_at gC ?_)|(with_reducible refine wpAny_isSubtype_exc gC ?_;rw[isB])|wp_step)
 exact wpAny_raiseNew_none hh gE
end
section
variable {prog:Program}{w:World}{A:Around}{E:Value->Shared->Prop}{s:Shared}
variable {nm q:Str}{C N:Addr}{bs bm bmB:List Value}{hdct:Bool}{sn:List Str}{sub:List Value}{ab:Bool}{col:Option Bool}{dd:Option Addr}{k0 k1 k2 k3 k5:Option Value}{B newId initId:String}
theorem Wz(F:ExcBaseFacts B newId initId bmB)(T0:OwnTail s.heap bmB bm){e:Addr}{ob:Obj}{vs:Array Value}{t0:Addr}{rest:List Value}{Q:Value->Shared->Prop}
  (gC:s.heap.get? C=some (excClassObj nm q C N bs bm hdct sn sub ab col dd k0 k1 k2 k3 k5 newId)) (he:s.heap.get? e=some ob) (hcls:ob.cls=.ref C) (hd:ob.data=.fields vs) (h0:vs[0]?=some (.ref t0))
  (h:Q .none {s with heap:=(s.heap.push {cls:=.type "tuple",data:=.seq rest.toArray}).update e (Obj.mapFields (·.setIfInBounds 0 (.ref s.heap.objs.size)))}) (hrest:rest.length<=sizeLine) :
  wpAny (model prog w) A (call (.builtin initId) (.ref e::rest)) Q E s:=by
 obtain⟨hh,g,d,t,os⟩:=s
 refine wpAny_call (codeAny_call_builtin F.init.plain F.initEntry (wpAny_check_init_subT F T0 gC he hcls ?_))
 unfold Builtin.«BaseException.__init__»
 dsimp only
 rw[if_neg (by simp)]
 unfold newTuple Builtin.BaseException.bexcPut
 have hsz:0<vs.size:=(Array.getElem?_eq_some_iff.mp h0).1
 have he₁:=Heap.get?_push_of_some (h:=hh) {cls:=.type "tuple",data:=.seq rest.toArray} he
 refine wpAny_bind (wpAny_newObj_type (wpAny_bind (wpAny_bind (wpAny_field he₁ hd h0 (wpAny_bind (wpAny_setField he₁ hd hsz ?_))))) (by show rest.toArray.size<=sizeLine;rw[List.size_toArray];exact hrest))
 exact wpAny_letGo (wpAny_pure h)
end
noncomputable def qT:List Value->Bool
 |.ref _::r=>qT r
 |l=>l == zX
theorem w9(self:Value):∀{l:List Value},qT l=true->PySem.refuseLoop self "__setattr__" l=pure ()
 |.ref c::r,e=>by rw[refuseLoop_ref];exact w9 self e
 |.type n::r,e=>by rw[show Value.type n::r=zX from beq_iff_eq.mp e];exact PySem.F.store_ValueError.passes self
 |[],e=>by cases e
 |v::r,e=>by
  unfold qT at e
  split at e
  ·rename_i h;cases h;rw[refuseLoop_ref];exact w9 self e
  ·rw[beq_iff_eq.mp e];exact PySem.F.store_ValueError.passes self
theorem wX:∀{l:List Value},qT l=true->l.contains (.type "object")=true
 |.ref c::r,e=>by rw[List.contains_cons,wX (l:=r) e,Bool.or_true]
 |[],e=>by cases e
 |v::r,e=>by
  unfold qT at e
  split at e
  ·rename_i h;cases h;rw[List.contains_cons,wX (l:=_) e,Bool.or_true]
  ·rw[beq_iff_eq.mp e];decide
section
variable {prog:Program}{w:World}{A:Around}{E:Value->Shared->Prop}{s:Shared}{K:PySem.W.Frag}{C x:Addr}
theorem K2{ox:Obj}{name:Str}{v:Value}{Q:Unit->Shared->Prop}(X:K.In s.heap)(hx:s.heap.get? x=some ox)(hc:ox.cls=.ref C)(hnc:PySem.W.notCls ox=true)(hd:ox.dict=none)
  (hs:PySem.W.findIn K (.ref C) "__setattr__"=some (some (.builtin "object.__setattr__"))) (hp:((PySem.W.clsIn K C).any λcd=>qT cd.mro)=true) (ht:PySem.W.findIn K (.ref C) name=some none) (hh:PySem.W.hasDictIn K C=true)
  (h:∀h' tk,h'.get? x=some {ox with dict:=some s.heap.objs.size}->h'.Ns1 s.heap.objs.size (λy=>if y=name then some v else none)->(∀b o,b≠x->s.heap.get? b=some o->h'.get? b=some o)->Q () {s with heap:=h',toks:=tk}) :
  wpAny (model prog w) A (setAttr (.ref x) name v) Q E s:=by
 have J:PySem.W.InstAt s.heap x ox C none:=⟨hx,hc,hnc,by rw[hd];trivial⟩
 refine PySem.W.set_plain X J hs ?_
 have SF:=PySem.F.store_object
 obtain⟨cd,hcd,ho⟩:=PySem.W.any_some hp
 obtain⟨cd',hcd',hdict⟩:=PySem.W.any_some hh
 rw[hcd] at hcd'
 cases hcd'
 have ne:cd.mro.isEmpty=false:=by cases q:cd.mro with|nil=>rw[q] at ho;cases ho|cons _ _=>rfl
 have sub:PySem.W.Looks (model prog w) s.heap (isInstance (.ref x) (.type "object")) true:=J.type.andThen (PySem.W.looks_mroIn X (by unfold PySem.W.mroIn;rw[hcd,Option.bind_some,if_neg (by rw[ne];decide),wX ho]))
 refine codeAny_call_builtin SF.slot.plain SF.entry (@PySem.W.check_slot (model prog w) _ _ {s with toks:=s.toks+1} "object.__setattr__" "object" "__setattr__" (.ref x) [.str name s.toks,v] [] _ SF.kind SF.split sub (SF.args (.ref x) (.str name s.toks) v) ?_)
 have hm:PySem.W.Looks (model prog w) s.heap (mroOf (.ref C)) cd.mro:=(PySem.W.looks_clsIn X hcd).andThen .now
 rw[PySem.W.osa_eq,refuse_eq]
 refine wpAny_bind (wpAny_bind (PySem.W.Looks.here (s:={s with toks:=s.toks+1}) J.type (wpAny_bind (PySem.W.Looks.here (s:={s with toks:=s.toks+1}) hm ?_))))
 rw[w9 _ ho]
 refine wpAny_pure (wpAny_bind (PySem.W.Looks.here (s:={s with toks:=s.toks+1}) J.type (wpAny_bind (PySem.W.Looks.here (s:={s with toks:=s.toks+1}) (PySem.W.looks_findIn X ht) (wpAny_bind (wpAny_pure ?_))))))
 obtain⟨hh0,g,dr,t,os⟩:=s
 obtain⟨oc,odi,oda,osl⟩:=ox
 dsimp only at hc hd hx
 subst hc hd
 have hnc':∀c,oda≠.cls c:=λc z=>by subst z;cases hnc
 refine wpAny_bind (wpAny_pure (wpAny_bind (wpAny_bind (wpAny_loadPart hx (wpAny_bind (PySem.W.Looks.here (s:=⟨hh0,g,dr,t+1,os⟩) (PySem.W.looks_clsIn X hcd) ?_))))))
 rw[hdict]
 have hx₁:(hh0.push {cls:=.type "dict",data:=.dict #[]}).get? x=some ⟨.ref C,none,oda,osl⟩:=Heap.get?_push_of_some _ hx
 have hxs:x≠hh0.objs.size:=Nat.ne_of_lt (Heap.lt_size hx)
 have go:wpAny (model prog w) A.in1 (do
   let d ←alloc {cls:=.type "dict",data:=.dict #[]}
   update x λo=>{o with dict:=some d}
   dictMade (.ref C) x d) (λa s'=>wpAny (model prog w) A.in1 (match a with
    |some d=>Builtin.ObjectAttr.storeInDict d (.str name t) name v
    |none=>Builtin.ObjectAttr.noDictFor (.ref x) (.ref C) name false) (λfin s'=>match fin with|.done f=>(match (Except.ok f:Result) with|.ok (.ret _)=>Q () s'|.ok _=>False|.error e=>E e s')|.again c'=>c'.quiet=true/\codeAny (model prog w) A c' (λr s'=>match r with|.ok (.ret _)=>Q () s'|.ok _=>False|.error e=>E e s') s') (λe s'=>E e s') s') (λe s'=>E e s') ⟨hh0,g,dr,t+1,os⟩:=by
  refine wpAny_bind (wpAny_alloc' ?_)
  refine wpAny_bind (wpAny_update' hx₁ ?_)
  refine wpAny_pure ?_
  have hgd:((hh0.push {cls:=.type "dict",data:=.dict #[]}).update x λo=>{cls:=o.cls,dict:=some hh0.objs.size,data:=o.data,slots:=o.slots}).get? hh0.objs.size
    = some {cls:=.type "dict",data:=.dict #[]}:=
   (Heap.get?_update_ne _ _ _ _ hxs.symm).trans (Heap.get?_push_at rfl rfl)
  have hnd:((hh0.push {cls:=.type "dict",data:=.dict #[]}).update x λo=>{cls:=o.cls,dict:=some hh0.objs.size,data:=o.data,slots:=o.slots}).Ns hh0.objs.size (λ_=>none):=
   ⟨_,#[],_,hgd,rfl,λe he=>absurd he (by simp),λ_=>rfl⟩
  show wpAny _ _ (Builtin.ObjectAttr.storeInDict hh0.objs.size (.str name t) name v) _ _ _
  unfold Builtin.ObjectAttr.storeInDict Builtin.ObjectAttr.newKeyGuard
  refine wpAny_bind (wpAny_pure (wpAny_bind (wpAny_nsSet1 (Heap.Ns1.of_empty hnd) λh' hn' hs=>?_)))
  obtain⟨oD,esD,epD,hoD,hdD,hcD⟩:=hn'.count (Within.cons name v Within.nil)
  refine wpAny_bind (wpAny_lookBehind hoD (by rw[hdD];exact pastItsLine_dict (Nat.le_trans hcD (by rw[List.length_cons,List.length_nil,sizeLine_eq];omega))) ?_)
  refine wpAny_pure (h h' _ ?_ ?_ ?_)
  ·refine (hs.2 x hxs).trans (Heap.get?_update_self _ hx₁ ?_)
   have hfr:=(Heap.get?_some_iff.mp hx).2
   cases oda<;>first|rfl|exact hfr
  ·obtain⟨o',es,ep,e1,e2,e3,eu,e4⟩:=hn'
   exact⟨o',es,ep,e1,e2,e3,eu,λy=>by rw[e4 y]⟩
  ·intro b o hbx hb
   exact (hs.2 b (Nat.ne_of_lt (Heap.lt_size hb))).trans ((Heap.get?_update_ne _ _ _ _ hbx).trans (Heap.get?_push_of_some _ hb))
 cases oda<;>first|exact absurd rfl (hnc' _)|exact go
end
theorem vH{K:PySem.W.Frag}{h:Heap}{N:Addr}{x:Str}{v:Value}(X:K.In h)(e:PySem.W.nsOkIn K N=true)(q:PySem.W.nsIn K N x=some (some v)):h.nsMap N x=some v:=by
 obtain⟨o,es,ep,ho,hd,_,hf⟩:=(Heap.Ns.of_isNs (PySem.W.isNs_of_in X e):h.Ns N (h.nsMap N))
 unfold PySem.W.nsIn at q
 split at q
 ·rename_i c d es' n' sl q'
  have:=X _ _ q'
  rw[ho] at this
  cases this
  cases hd
  split at q
  ·rename_i he
   cases q
   rw[←hf]
   unfold nsFind findBy
   rw[←Array.find?_toList,he]
   rfl
  ·split at q<;>cases q
 ·cases q
theorem XIn.mro{K:PySem.W.Frag}{C HE fI:Addr}{fl:Str}(x:XIn K C HE fI fl):((PySem.W.clsIn K C).any λcd=>qT cd.mro)=true:=by
 obtain⟨N,nm,q,bs,hd,sn,sub,ab,col,dd,k0,k1,k2,k3,k5,h,_⟩:=x.cls
 unfold PySem.W.clsIn
 rw[h]
 show qT (.ref C::.ref HE::zX)=true
 show qT zX=true
 decide
theorem XIn.at_{K:PySem.W.Frag}{C HE fI:Addr}{fl:Str}{h:Heap}(x:XIn K C HE fI fl)(X:K.In h):∃N nm q bs hd sn sub ab col dd k0 k1 k2 k3 k5,h.get? C=some (excClassObj nm q C N bs (.ref HE::zX) hd sn sub ab col dd k0 k1 k2 k3 k5 "ValueError.__new__")/\h.Ns N (h.nsMap N)/\h.nsMap N "__init__"=some (.ref fI)/\OwnTail h zX (.ref HE::zX):=by
 obtain⟨N,nm,q,bs,hd,sn,sub,ab,col,dd,k0,k1,k2,k3,k5,h1,h2,h3⟩:=x.cls
 obtain⟨tl,N',nm',q',bs',hd',sn',sub',ab',col',dd',k0',k1',k2',k3',k5',mN,g1,g2,g3,g4⟩:=Qz X x.he
 exact⟨N,nm,q,bs,hd,sn,sub,ab,col,dd,k0,k1,k2,k3,k5,X _ _ h1,.of_isNs (PySem.W.isNs_of_in X h2),vH X h2 h3,.own g1 g2 g3 .base⟩
section
variable {X:Cx}{pins:List (Addr×Obj)}{s:Shared}{σ:St}{H:Hp}{C HE fI:Addr}{fl:Str}
theorem Jm {a b par:Str} {ka kb:Nat} {p1 p2 p3 p4 p5:Pos} (hN:X.N[1]?=some par) (hv:Vis X.env.scope par) (hd:(par == ("__debug__":Str))=false) (hcd:(par == ("__classdict__":Str))=false) (ha:a.length<=1000) (hb:b.length<=1000) :
  PE X (.JoinedStr [.Constant (.str a) ka p1,.FormattedValue (.Name par p2) (-1) none p3,.Constant (.str b) kb p4] p5) (λσ H Q=>∃i:Int,σ[1]?=some (some (.int i))/\i.natAbs.log2<1920/\∀z,Q (.str z) H):=by
 rintro pins s σ H Q I ⟨i,hi,hlog,q⟩
 have e:=int_text_length_le (k:=1920) (by decide) hlog
 have e2:(Str.ofString (toString i)).length<=1921:=by rw[PySem.ofString_length];exact e
 refine wpAny_JoinedStr ?_
 refine thn (xM (x:=a) pins s σ H (λv H1=>v=.str a/\H1=H) I ⟨rfl,rfl⟩) ?_
 rintro u s1 ⟨v,H1,I1,r,rfl,rfl⟩
 obtain⟨t1,rfl⟩:=r
 have l0:(Str.empty++a).length<=1000:=by rw[strLen_append];show 0+a.length<=1000;omega
 refine⟨_,_,rfl,by rw[sizeLine_eq];omega,?_⟩
 refine wpAny_FormattedValue_plain (thn (vz (i:=1) hN hv hd hcd pins s1 σ H1 (λv H2=>v=.int i/\H2=H1) I1 ⟨_,hi,rfl,rfl⟩) ?_)
 rintro u s2 ⟨v,H2,I2,r,rfl,rfl⟩
 obtain⟨t2,rfl⟩:=r
 refine wpAny_formatField_int hlog ?_
 have l1:(Str.empty++a++Str.ofString (toString i)).length<=3000:=by rw[strLen_append];omega
 refine⟨_,_,rfl,by rw[sizeLine_eq];omega,?_⟩
 have I3:Inv X pins σ H2 {s2 with toks:=s2.toks+1+1}:=I2.kept (h':=s2.heap) λ_ _ q=>q
 refine thn (xM (x:=b) pins _ σ H2 (λv H1=>v=.str b/\H1=H2) I3 ⟨rfl,rfl⟩) ?_
 rintro u s4 ⟨v,H4,I4,r,rfl,rfl⟩
 obtain⟨t4,rfl⟩:=r
 have l2:(Str.empty++a++Str.ofString (toString i)++b).length<=5000:=by rw[strLen_append];omega
 refine⟨_,_,rfl,by rw[sizeLine_eq];omega,by rw[sizeLine_eq];omega,?_⟩
 exact⟨.str _,H4,I4.kept (h':=s4.heap) λ_ _ q=>q,⟨_,rfl⟩,q _⟩
theorem WE {a par:Str} {ka:Nat} {p1 p2 p3 p5:Pos} (hN:X.N[1]?=some par) (hv:Vis X.env.scope par) (hd:(par == ("__debug__":Str))=false) (hcd:(par == ("__classdict__":Str))=false) (ha:a.length<=1000) :
  PE X (.JoinedStr [.Constant (.str a) ka p1,.FormattedValue (.Name par p2) (-1) none p3] p5) (λσ H Q=>∃i:Int,σ[1]?=some (some (.int i))/\i.natAbs.log2<1920/\∀z,Q (.str z) H):=by
 rintro pins s σ H Q I ⟨i,hi,hlog,q⟩
 have e:=int_text_length_le (k:=1920) (by decide) hlog
 have e2:(Str.ofString (toString i)).length<=1921:=by rw[PySem.ofString_length];exact e
 refine wpAny_JoinedStr ?_
 refine thn (xM (x:=a) pins s σ H (λv H1=>v=.str a/\H1=H) I ⟨rfl,rfl⟩) ?_
 rintro u s1 ⟨v,H1,I1,r,rfl,rfl⟩
 obtain⟨t1,rfl⟩:=r
 have l0:(Str.empty++a).length<=1000:=by rw[strLen_append];show 0+a.length<=1000;omega
 refine⟨_,_,rfl,by rw[sizeLine_eq];omega,?_⟩
 refine wpAny_FormattedValue_plain (thn (vz (i:=1) hN hv hd hcd pins s1 σ H1 (λv H2=>v=.int i/\H2=H1) I1 ⟨_,hi,rfl,rfl⟩) ?_)
 rintro u s2 ⟨v,H2,I2,r,rfl,rfl⟩
 obtain⟨t2,rfl⟩:=r
 refine wpAny_formatField_int hlog ?_
 have l1:(Str.empty++a++Str.ofString (toString i)).length<=3000:=by rw[strLen_append];omega
 refine⟨_,_,rfl,by rw[sizeLine_eq];omega,by rw[sizeLine_eq];omega,?_⟩
 exact⟨.str _,H2,I2.kept (h':=s2.heap) λ_ _ q=>q,⟨_,rfl⟩,q _⟩
noncomputable def uo(par:Str)(parts:List Expr):Prop:=
 (∃(a b:Str) (ka kb:Nat) (p1 p2 p3 p4:Pos),parts=[.Constant (.str a) ka p1,.FormattedValue (.Name par p2) (-1) none p3,.Constant (.str b) kb p4]/\a.length<=1000/\b.length<=1000)\/
 ∃(a:Str) (ka:Nat) (p1 p2 p3:Pos),parts=[.Constant (.str a) ka p1,.FormattedValue (.Name par p2) (-1) none p3]/\a.length<=1000
theorem VG {par:Str} {parts:List Expr} {p5:Pos} (hN:X.N[1]?=some par) (hv:Vis X.env.scope par) (hd:(par == ("__debug__":Str))=false) (hcd:(par == ("__classdict__":Str))=false) (h:uo par parts) :
  PE X (.JoinedStr parts p5) (λσ H Q=>∃i:Int,σ[1]?=some (some (.int i))/\i.natAbs.log2<1920/\∀z,Q (.str z) H):=by
 rcases h with⟨a,b,ka,kb,p1,p2,p3,p4,rfl,h1,h2⟩|⟨a,ka,p1,p2,p3,rfl,h1⟩
 ·exact Jm hN hv hd hcd h1 h2
 ·exact WE hN hv hd hcd h1
theorem Jn {par slf B:Str} {parts:List Expr} {p5 q0 q1 q2 q4:Pos} (xi:XIn X.K C HE fI fl) (hN0:X.N[0]?=some slf) (hv0:Vis X.env.scope slf) (hd0:(slf == ("__debug__":Str))=false) (hcd0:(slf == ("__classdict__":Str))=false)
  (hN:X.N[1]?=some par) (hv:Vis X.env.scope par) (hd:(par == ("__debug__":Str))=false) (hcd:(par == ("__classdict__":Str))=false) (hfp:uo par parts)
  (hB:Gl X B) (hm:X.mg B=some (.ref HE)) (hBd:(B == ("__debug__":Str))=false) (hga:PySem.W.specialIn X.K (.ref HE) "__getattribute__"=some (some (.builtin "type.__getattribute__"))) (hr:PySem.W.readsIn X.K HE (.type "type")=true)
  (hf:PySem.W.findCls X.K (.ref HE) (.type "type") "__init__"=some (.val (.builtin "ValueError.__init__"))) (hline:(q1.endLine == q4.line)=true) :
  PE X (.Call (.Attribute (.Name B q0) "__init__" q1) [.Name slf q2,.JoinedStr parts p5] [] q4) (λσ H Q=>∃(x:Addr) (i:Int),σ[0]?=some (some (.ref x))/\σ[1]?=some (some (.int i))/\i.natAbs.log2<1920/\H x=some (.ext (jb x C))/\Q .non (upd H x (.ext (jb x C)))):=by
 rintro pins s σ H Q I ⟨x,i,h0,h1,hlog,hx,q⟩
 rw[arm_eval_Call]
 refine wpAny_bind (qJ I hB hm ?_ hBd)
 refine wpAny_bind (wpAny_standAt ?_)
 have hpos:methodCallPos true (.Name B q0) X.env q1 q4=pure q4:=by unfold methodCallPos;simp[hline]
 unfold methodCall
 refine wpAny_bind (wpAny_holding (PySem.W.method_cls I.kIn hga (PySem.W.cls_value I.kIn hr hf rfl ?_)))
 refine wpAny_bind (wpAny_of_eq hpos ?_)
 have I1:Inv X pins σ H {s with toks:=s.toks+1}:=I.kept (h':=s.heap) λ_ _ q=>q
 have pa:PA X [.Name slf q2,.JoinedStr parts p5] _:=zt (vz (i:=0) hN0 hv0 hd0 hcd0) (zt (VG hN hv hd hcd hfp) qe)
 refine PySem.W.callWith_of (P:=λ_=>True) (first:=[]) rfl (λh _=>⟨.machine,.inr (.inl rfl),PySem.W.Looks.of_pure rfl⟩) (Calls.evalArgs_plain (thn (pa q4 pins _ σ H (λvs H1=>∃z,vs=[.ref x,.str z]/\H1=H) I1 ⟨_,h0,i,h1,hlog,λz=>⟨z,rfl,rfl⟩⟩) ?_))
 rintro us s2 ⟨vs,H2,I2,rv,z,rfl,rfl⟩
 obtain⟨u1,rfl⟩:∃u1,us=[.ref x,u1]:=by
  cases rv with
  |cons r1 r2=>cases r2 with
   |cons r3 r4=>cases r4;cases r1;exact⟨_,rfl⟩
 refine⟨trivial,?_⟩
 obtain⟨N,nm,qn,bs,hdd,sn,sub,ab,col,dd,k0,k1,k2,k3,k5,g1,g2,g3,g4⟩:=xi.at_ I2.kIn
 obtain⟨t,ex⟩:jb x C s2.heap:=(show ObjOk X.prog X.w H2 s2.heap x (.ext (jb x C)) from I2.hok _ _ hx).1
 refine Wz (rest:=[u1]) PySem.F.excBase_ValueError g4 g1 ex rfl rfl rfl ?_ (by rw[sizeLine_eq];show 1<=_;omega)
 have lt:x<s2.heap.objs.size:=Heap.lt_size ex
 have ex1:=Heap.get?_push_of_some (h:=s2.heap) {cls:=.type "tuple",data:=.seq [u1].toArray} ex
 have k1:∀b u,b≠x->s2.heap.get? b=some u->((s2.heap.push {cls:=.type "tuple",data:=.seq [u1].toArray}).update x (Obj.mapFields (·.setIfInBounds 0 (.ref s2.heap.objs.size)))).get? b=some u:=λb u hb hu=>by
  rw[Heap.get?_update_other _ _ (Ne.symm hb)]
  exact Heap.get?_push_of_some _ hu
 have ex2:((s2.heap.push {cls:=.type "tuple",data:=.seq [u1].toArray}).update x (Obj.mapFields (·.setIfInBounds 0 (.ref s2.heap.objs.size)))).get? x=some {cls:=.ref C,data:=.fields #[.ref s2.heap.objs.size,.none,.none,.none,.bool false,.none]}:=by
  rw[Heap.get?_update_self _ ex1 rfl];rfl
 exact⟨.non,_,I2.write (x:=x) (e:=x) (o:=.ext (jb x C)) (t':=s2.toks) (by rw[hx];exact True.intro) (.inl rfl) k1 ⟨_,ex2⟩ ⟨⟨_,ex2⟩,⟨_,ex2⟩,λh1 h2 ⟨t,e⟩ k=>⟨t,k _ e⟩⟩,rfl,q⟩
theorem QF {par slf:Str} {q0 q1 q2 q3:Pos} (xi:XIn X.K C HE fI fl) (hN0:X.N[0]?=some slf) (hv0:Vis X.env.scope slf) (hd0:(slf == ("__debug__":Str))=false) (hcd0:(slf == ("__classdict__":Str))=false)
  (hN:X.N[1]?=some par) (hv:Vis X.env.scope par) (hd:(par == ("__debug__":Str))=false) (hcd:(par == ("__classdict__":Str))=false) :
  PS X (.Assign [.Attribute (.Name slf q0) fl q1] (.Name par q2) q3) (λD σ H=>∃(x:Addr) (i:Int),σ[0]?=some (some (.ref x))/\σ[1]?=some (some (.int i))/\H x=some (.ext (jb x C))/\∀dx,H dx=none->dx≠x->D.nx σ (upd (upd H x (.ext (j_ x C dx))) dx (.xd [(fl,.int i)]))):=by
 rintro pins s σ H D I ⟨x,i,h0,h1,hx,q⟩
 refine plainObj_wpAny_Assign_Attribute (thn (vz (i:=1) hN hv hd hcd pins s σ H (λv H1=>v=.int i/\H1=H) I ⟨_,h1,rfl,rfl⟩) ?_) rfl
 rintro u s1 ⟨v,H1,I1,r,rfl,rfl⟩
 refine thn (vz (i:=0) hN0 hv0 hd0 hcd0 pins s1 σ H1 (λv H2=>v=.ref x/\H2=H1) I1 ⟨_,h0,rfl,rfl⟩) ?_
 rintro ov s2 ⟨v,H2,I2,r2,rfl,rfl⟩
 cases r2
 obtain⟨t,ex⟩:jb x C s2.heap:=(show ObjOk X.prog X.w H2 s2.heap x (.ext (jb x C)) from I2.hok _ _ hx).1
 refine K2 I2.kIn ex rfl rfl rfl xi.sa xi.mro xi.no xi.dct λh' tk e1 e2 e3=>?_
 have lt:x<s2.heap.objs.size:=Heap.lt_size ex
 have hf:H2 s2.heap.objs.size=none:=I2.hok.fresh (Nat.le_refl _)
 have ne:s2.heap.objs.size≠x:=Nat.ne_of_gt lt
 refine⟨σ,_,?_,q _ hf ne⟩
 have ox:XOk X H2 s2.heap.objs.size:=wg I2 (Heap.get?_none_of_le (Nat.le_refl _))
 have hpn:∀p∈pins,p.1≠s2.heap.objs.size:=λp hp z=>by
  have:=(I2.pin p (List.mem_append_right _ hp)).1
  rw[z,Heap.get?_none_of_le (Nat.le_refl _)] at this;cases this
 have I3:Inv X pins σ (upd H2 x (.ext (j_ x C s2.heap.objs.size))) {s2 with heap:=h',toks:=tk}:=I2.write (x:=x) (e:=x) (by rw[hx];exact True.intro) (.inl rfl) (λb u hb hu=>e3 b u hb hu) ⟨_,e1⟩ ⟨⟨t,e1⟩,⟨_,e1⟩,λh1 h2 ⟨t,e⟩ k=>⟨t,k _ e⟩⟩
 have ox3:XOk X (upd H2 x (.ext (j_ x C s2.heap.objs.size))) s2.heap.objs.size:=⟨by rw[z7 ne];exact ox.free,ox.loc,ox.nfs,ox.new,ox.cel,ox.pin⟩
 refine jM I3 ox3 hpn ⟨_,e2,λf=>?_⟩
 show RelO (List.lookup f [(fl,V.int i)]) (if f=fl then some u else none)
 by_cases z:f=fl
 ·subst z
  rw[if_pos rfl]
  simp only[List.lookup,beq_self_eq_true]
  exact r
 ·rw[if_neg z]
  have:(f == fl)=false:=beq_eq_false_iff_ne.mpr z
  simp only[List.lookup,this]
  exact trivial
end
noncomputable def UA(body:List Stmt)(B slf par fl:Str):Prop:=∃(q0 q1 q2 p5 q4 q5 r0 r1 r2 r3:Pos) (parts:List Expr),
 body=[.Expr (.Call (.Attribute (.Name B q0) "__init__" q1) [.Name slf q2,.JoinedStr parts p5] [] q4) q5,.Assign [.Attribute (.Name slf r0) fl r1] (.Name par r2) r3]/\(q1.endLine == q4.line)=true/\uo par parts
noncomputable def scI(slf par B:Str)(sc:Scope):Bool:=(sc.kind == .function)&&!sc.isCoroutine&&!sc.isGenerator&&(slf != par)&&(sc.names.lookup slf == some .local)&&(sc.names.lookup par == some .local)&&sc.names.all (λy=>y.2 != .free)&&(sc.names.lookup B == some .globalImplicit)&&
 (slf != ("__debug__":Str))&&(slf != ("__classdict__":Str))&&(par != ("__debug__":Str))&&(par != ("__classdict__":Str))&&(B != ("__debug__":Str))
section
variable {P:Program}{w:World}{K:PySem.W.Frag}{mg:Str->Option Value}{base:Heap}{C HE fI:Addr}{fl:Str}{k:Nat}
structure HIn(K:PySem.W.Frag)(mg:Str->Option Value)(HE:Addr)(B:Str):Prop where
 mg:mg B=some (.ref HE)
 ga:PySem.W.specialIn K (.ref HE) "__getattribute__"=some (some (.builtin "type.__getattribute__"))
 rd:PySem.W.readsIn K HE (.type "type")=true
 fc:PySem.W.findCls K (.ref HE) (.type "type") "__init__"=some (.val (.builtin "ValueError.__init__"))
theorem z0l{CX:CXT}{name qual slf par B:Str}{params:Arguments}{body:List Stmt}{scope:Scope}{dV kV doc pm cdv ct oc:Value}{an od:Option Addr}{osl:Array (Option Value)}
  (xi:XIn K C HE fI fl) (hi:HIn K mg HE B) (lk:K.lookup fI=some ⟨oc,od,.func (PySem.W.fnOf name qual params body scope dV kV doc pm an cdv ct),osl⟩) (hcd:PySem.W.codeIn K cdv qual=true) (hf:UA body B slf par fl) (hs:scI slf par B scope=true) :
  FnOk P w K mg base CX (k+1) fI (PySem.W.fnOf name qual params body scope dV kV doc pm an cdv ct) [slf,par] (spI C fl):=by
 simp only[scI,Bool.and_eq_true,List.all_eq_true,beq_iff_eq,Bool.not_eq_true',bne_iff_ne,ne_eq] at hs
 obtain⟨⟨⟨⟨⟨⟨⟨⟨⟨⟨⟨⟨h1,h2⟩,h3⟩,h4⟩,h5⟩,h6⟩,h7⟩,h8⟩,h9⟩,h10⟩,h11⟩,h12⟩,h13⟩:=hs
 have S:FnScope [slf,par] [slf,par] scope:=⟨h1,h2,h3,by simp[h4],rfl,λx hx=>by
  rcases List.mem_cons.mp hx with rfl|hx
  ·exact .inl h5
  ·rw[List.mem_singleton.mp hx];exact .inl h6,h7⟩
 obtain⟨q0,q1,q2,p5,q4,q5,r0,r1,r2,r3,parts,rfl,c5,c6⟩:=hf
 refine K_ (fnb:=λ_=>true) lk hcd S (λvs H Q E q=>by obtain⟨x,i,rfl,_⟩:=q;rfl) λA outer s H vs Q E hr hsp _=>?_
 obtain⟨x,i,rfl,hlog,hx,q⟩:=hsp
 have hd0:(slf == ("__debug__":Str))=false:=beq_eq_false_iff_ne.mpr h9
 have hc0:(slf == ("__classdict__":Str))=false:=beq_eq_false_iff_ne.mpr h10
 have hd1:(par == ("__debug__":Str))=false:=beq_eq_false_iff_ne.mpr h11
 have hc1:(par == ("__classdict__":Str))=false:=beq_eq_false_iff_ne.mpr h12
 have hdB:(B == ("__debug__":Str))=false:=beq_eq_false_iff_ne.mpr h13
 refine⟨_,yt (Zy (Jn (C:=C) (HE:=HE) (fI:=fI) (fl:=fl) xi rfl (.inl h5) hd0 hc0 rfl (.inl h6) hd1 hc1 c6 h8 hi.mg hdB hi.ga hi.rd hi.fc c5)) (JL (QF (C:=C) (HE:=HE) (fI:=fI) xi rfl (.inl h5) hd0 hc0 rfl (.inl h6) hd1 hc1)),?_⟩
 refine⟨x,i,rfl,rfl,hlog,hx,x,i,rfl,rfl,z8,λdx hdx ne=>?_⟩
 rw[Zu]
 exact q dx (by rw[z7 ne] at hdx;exact hdx) ne
end
section
variable {X:Cx}{pins:List (Addr×Obj)}{s:Shared}{σ:St}{H:Hp}
theorem yb{x:Addr}{φ:Heap->Prop}(I:Inv X pins σ (upd H x (.ext φ)) s)(hx:H x=none):Inv X pins σ H s:=by
 have nn:∀b,upd H x (.ext φ) b=none->H b=none:=λb e=>by
  by_cases z:b=x
  ·rw[z];exact hx
  ·rw[z7 z] at e;exact e
 have so:∀b o,upd H x (.ext φ) b=some o->(∀ψ,o≠.ext ψ)->H b=some o:=λb o e n=>by
  by_cases z:b=x
  ·rw[z,z8] at e;cases e;exact absurd rfl (n φ)
  ·rw[z7 z] at e;exact e
 refine⟨I.ok,I.os,I.bare,⟨I.base.keep,I.base.slot,λb o e n hx'=>nn b (I.base.free b o e n hx'),I.base.there,λb xs e=>so b _ (I.base.tups b xs e) (λψ z=>by cases z),λb o u e=>so b _ (I.base.frzs b o u e) (λψ z=>by cases z),λb ps e=>?_⟩,I.loc,I.cell,nn _ I.free,λy c e=>(I.freeC y c e).imp (nn _) λ⟨n,o,u,f⟩=>⟨n,o,u,so c _ f (λψ z=>by cases z)⟩,λp hp=>?_,λb ob e=>?_,I.len⟩
 ·obtain⟨more,q⟩:=I.base.tbls b ps e
  exact⟨more,so b _ q (λψ z=>by cases z)⟩
 ·obtain⟨e,n,r⟩:=I.pin p hp
  exact⟨e,nn _ n,r⟩
 ·have ne:b≠x:=λz=>by rw[z,hx] at e;cases e
  have q:=I.hok b ob (by rw[z7 ne];exact e)
  exact q.stay (λ_ _ _ q=>q) (λc q=>so c _ q (λψ z=>by cases z)) λc xs q=>so c _ q (λψ z=>by cases z)
end
section
variable {X:Cx}{D:DP}{W:XW}{Γ:Cn}{k:Nat}{pins:List (Addr×Obj)}{s:Shared}{σ:St}{H:Hp}{φ α:List Addr}{τ:Sl}{μ:Mem}{a:Expr}{pos:Pos}{E:Ends}{g:De}
theorem Qy{H:Hp}{x y:Addr}{a b:HO}(h:x≠y):upd (upd H x a) y b=upd (upd H y b) x a:=by
 funext c
 by_cases z:c=y
 ·subst z;rw[z8,z7 (Ne.symm h),z8]
 ·rw[z7 z]
  by_cases z2:c=x
  ·subst z2;rw[z8,z8]
  ·rw[z7 z2,z7 z2,z7 z]
theorem K1{C HE fI:Addr}{fl:Str}{fd:FuncData}{ps:List Str}{kk:Nat}{u:Value}{i:Int}{Q:Value->Shared->Prop}(xi:XIn X.K C HE fI fl)(hb:Binds X.K fd ps [])(hr:Room (kk+1) X.A)
  (F:FnOk X.prog X.w X.K X.mg X.base (CX1 X.prog X.w) kk fI fd ps (spI C fl)) (I:Inv X pins σ H s) (r:RelV (.int i) u) (hlog:i.natAbs.log2<1920)
  (q:∀x dx t s',Inv X pins σ (upd H dx (.xd [(fl,.int i)])) s'->H dx=none->XOk X H x->dx≠x->s'.heap.get? x=some {cls:=.ref C,dict:=some dx,data:=.fields #[.ref t,.none,.none,.none,.bool false,.none]}->Q (.ref x) s') :
  wpAny (model X.prog X.w) X.A (call (.ref C) [u]) Q X.xe s:=by
 obtain⟨N,nm,qn,bs,hdd,sn,sub,ab,col,dd,k0,k1,k2,k3,k5,g1,g2,g3,g4⟩:=xi.at_ I.kIn
 obtain⟨oI,gf,gc⟩:∃oI,s.heap.get? fI=some oI/\oI.cls=.type "function":=by
  obtain⟨o,ho,e⟩:=Option.map_eq_some_iff.mp xi.fn
  exact⟨o,I.kIn _ _ ho,e⟩
 obtain⟨hh,gg,d,tk,os⟩:=s
 refine Q6 PySem.F.excBase_ValueError g4 g1 g2 g3 gf gc (λh1 x mk=>?_) (by rw[sizeLine_eq];show 1<=_;omega)
 have J:Inv X pins σ H ⟨h1,gg,d,tk,os⟩:=I.kept (t':=tk) mk.keeps
 have ox:XOk X H x:=wg I mk.new
 have hpn:∀p∈pins,p.1≠x:=λp hp z=>by
  have:=(I.pin p (List.mem_append_right _ hp)).1
  rw[z,mk.new] at this;cases this
 obtain⟨t,ho,_,_⟩:=mk.there
 have I2:Inv X pins σ (upd H x (.ext (jb x C))) ⟨h1,gg,d,tk,os⟩:=jM J ox hpn ⟨⟨t,ho⟩,⟨_,ho⟩,λh1 h2 ⟨t,e⟩ k=>⟨t,k _ e⟩⟩
 have rv:Vals [.ref x,.int i] [.ref x,u]:=.cons rfl (.cons r .nil)
 have hl:([Value.ref x,u]++[]).length=ps.length:=by
  have:=F.len [.ref x,.int i] (upd H x (.ext (jb x C))) (λ_ _=>True) (λ_ _ _=>False) ⟨x,i,rfl,hlog,z8,λ_ _ _=>trivial⟩
  exact this
 refine wpAny_call (codeAny_mono (F.run _ X.stack ⟨h1,gg,d,tk,os⟩ (upd H x (.ext (jb x C))) ⟨[.ref x,u],[]⟩ [.ref x,u] [.ref x,.int i] (λv H'=>v=.non/\∃dx,H dx=none/\dx≠x/\H'=upd (upd H x (.ext (j_ x C dx))) dx (.xd [(fl,.int i)])) (λ_ _ _=>False) (hr.make C [u] []) (I2.env0.make C [u] []) (by simpa using hb _ [.ref x,u] I2.kIn hl) rv
  ⟨x,i,rfl,hlog,z8,λdx hdx ne=>⟨rfl,dx,by rw[z7 ne] at hdx;exact hdx,ne,by rw[Zu]⟩⟩) λres s' hq=>?_)
 cases res with
 |error e=>
  obtain⟨_,_,_,_,_,_,_,_,_,_,_,_,_,_,_,z⟩:=hq
  exact z.elim
 |ok flw=>
  cases flw with
  |ret v=>
   obtain⟨v',H',I3,rv',⟨rfl,dx,hdx,ne,rfl⟩⟩:=I2.after hq
   refine⟨rv',?_⟩
   obtain⟨t',e'⟩:j_ x C dx s'.heap:=(show ObjOk X.prog X.w _ s'.heap x (.ext (j_ x C dx)) from I3.hok x _ (by rw[z7 (Ne.symm ne),z8])).1
   rw[Qy (Ne.symm ne)] at I3
   have I4:=yb I3 (by rw[z7 (Ne.symm ne)];exact ox.free)
   exact q x dx t' s' I4 hdx ox ne e'
  |next=>exact False.elim hq
  |brk=>exact False.elim hq
  |cont=>exact False.elim hq
noncomputable def hash(m:Str):Str:=⟨#[35]++m.cps⟩
theorem Q9(C:Sk D W Γ X k)(hc:Γ.calm=true){x fl:Str}{n f:Nat}{p0 p1:Pos}(hx:x∈Γ.G)(hU:hash x∈Γ.U)(hg:Γ.gl (hash x)=.xin n f x fl)(hst:noStar a=true)(ha:PE X a (rdE D W g)) :
  PS X (.Raise (some (.Call (.Name x p0) [a] [] p1)) none pos) (rdS D W (va n f g)):=by
 rintro pins s σ H E I ⟨φ,α,τ,μ,sr,mr,p⟩
 have q:=(C.glU _ hU).1
 rw[hg] at q
 obtain⟨C0,HE,fI,fd,ps,kk,ad,hm,hfl,xi,hb,hkk,F⟩:=q
 have hr:=(C.rom hc).mono hkk
 obtain⟨N,nm,qn,bs,hdd,sn,sub,ab,col,dd,k0,k1,k2,k3,k5,g1,g2,g3,g4⟩:=xi.at_ I.ok.mod.kin
 have hbase:(Value.ref HE::zX).contains (.type "BaseException")=true:=g4.hasType PySem.F.excBase_ValueError.hasBase
 have body:wpAny (model X.prog X.w) X.A (eval (.Call (.Name x p0) [a] [] p1) X.env) (λv s1=>∃e t dx,v=.ref e/\s1.heap.get? C0=some (excClassObj nm qn C0 N bs (.ref HE::zX) hdd sn sub ab col dd k0 k1 k2 k3 k5 "ValueError.__new__")/\
   s1.heap.get? e=some {cls:=.ref C0,dict:=dx,data:=.fields #[.ref t,.none,.none,.none,.bool false,.none]}/\X.xe (.ref e) s1) X.xe s:=by
  refine wpAny_Call_ofName (qJ I (C.glb x hx) hm ?_ (C.dbG x hx))
  refine PySem.W.callWith_K (K:=X.K) (first:=[]) (h₀:=X.base) I.ok.mod.kin xi.kp (thn (zt ha qe (z6 hst) p1 pins s σ H (λvs H1=>∃v t μ1 α1,vs=[v]/\Stp α H α1 H1/\SRel D φ α1 H1 τ σ/\MRel D φ α1 H1 μ1/\Den D φ α1 H1 t v/\PostS D W φ α1 H1 E ((match t with
   |.int i=>.grd (i.natAbs.log2<1920) (.ex n [(f,.int i)] τ μ1)
   |_=>.st:Out))) I ⟨φ,α,τ,μ,sr,mr,(PostS.out sr p).mono λt μ' α' H' st m q v d=>⟨v,t,μ',α',rfl,st,sr.step st,m,d,q⟩⟩) ?_) (z6 hst) rfl
  rintro us s1 ⟨vs,H1,I1,rv,v,t,μ1,α1,rfl,st1,sr1,mr1,d1,p1⟩
  obtain⟨u,rfl,r⟩:∃u,us=[u]/\RelV v u:=by
   cases rv with
   |cons r1 r2=>cases r2;exact⟨_,rfl,r1⟩
  refine⟨I1.kIn,?_⟩
  cases t<;>first|(obtain⟨Q,q,_⟩:=p1;exact q.elim)|skip
  rename_i i
  obtain⟨hlog,p2⟩:=PostS.grd p1
  cases d1
  refine K1 xi hb hr F I1 r hlog λe dx t s' I2 hdx oe ne he=>?_
  refine⟨e,t,some dx,rfl,I2.bk _ _ g1,he,C.xe _ _ ?_⟩
  have sm:wA H1 (upd H1 dx (.xd [(fl,.int i)])):=zb hdx
  have st2:Stp α1 H1 α1 (upd H1 dx (.xd [(fl,.int i)])):=Stp.new sm
  refine⟨e,.ref C0,some dx,σ,_,none,.none,rfl,I2.pins_of (λp hp=>absurd hp (by simp)),⟨by rw[z7 (Ne.symm ne)];exact oe.free,oe.loc,oe.nfs,oe.new,oe.cel,oe.pin⟩,λt ht=>absurd ht (by simp),⟨⟨_,_,.ref t,he,⟨rfl,rfl⟩,rfl,rfl,rfl⟩,rfl⟩,.inl rfl,?_⟩
  refine PostS.ex p2 st2 (mr1.new sm) (sr1.step st2) ad ⟨_,zf mr1 hdx,zh mr1 hdx,z8,?_⟩
  exact⟨fl,.int i,[],hfl,rfl,rfl,rfl⟩
 rw[arm_exec_Raise]
 first
  |exact wpAny_bind (wpAny_standAt (jJ hbase (I.ok.hd (C.clm hc)) (wpAny_bind (wpAny_mono body (λv s₃ h₃=>wpAny_bind (wpAny_standAt (wpAny_pure h₃))) λ_ _ x=>x))))
  |(simp only[evalOpt,Option.map];exact wpAny_bind (wpAny_standAt (jJ hbase (I.ok.hd (C.clm hc)) (wpAny_bind (wpAny_mono body (λv s₃ h₃=>wpAny_bind (wpAny_standAt (wpAny_pure h₃))) λ_ _ x=>x)))))
end
noncomputable def z0N:List Expr->Option Expr
 |[a]=>some a
 |_=>none
noncomputable def uA:SR:=λr Γ s=>(Ur s).bind λe=>(VL e).bind λq=>(z0N q.2).bind λa=>gd (Γ.calm&&(idx Γ.N q.1).isNone&&Γ.G.contains q.1&&Γ.U.contains (hash q.1)&&noStar a) ((r.e Γ a).bind λg=>(match Γ.gl (hash q.1) with
  |.xin c f nm _=>gd (nm == q.1) (some (va c f g))
  |_=>none))
theorem Qb{D:DP}:SOk D uA:=by
 intro r H X W Γ k e d C h
 unfold uA at h
 obtain⟨e',z0,z1⟩:=bnd h
 obtain⟨⟨x,as⟩,z2,z3⟩:=bnd z1
 obtain⟨a,ha,z4⟩:=bnd z3
 clear h z1 z3
 obtain⟨p2,rfl⟩:=K8 z0
 obtain⟨p0,p1,rfl⟩:=WM z2
 obtain⟨hb,h⟩:=zm z4
 simp only[Bool.and_eq_true] at hb
 obtain⟨⟨⟨⟨h0,h2⟩,h3⟩,h4⟩,h5⟩:=hb
 obtain⟨g,h6,h⟩:=bnd h
 have ea:as=[a]:=by
  cases as with
  |nil=>cases ha
  |cons b r=>cases r with
   |nil=>cases ha;rfl
   |cons _ _=>cases ha
 subst ea
 cases hl:Γ.gl (hash x) with
 |xin c f nm fl=>
  simp only[hl] at h
  obtain⟨h7,h8⟩:=zm h
  have h7:=beq_iff_eq.mp h7
  subst h7
  cases h8
  exact Q9 C h0 (by simpa using h3) (by simpa using h4) hl h5 (H.e C.toCk h6)
 |_=>simp[hl] at h
section
open PySem.W
theorem Ql{prog:Program}{w:World}{A:Around}{E:Value->Shared->Prop}{s:Shared}{K:Frag}{x D:Addr}{ox:Obj}{od:Option Obj}{name:Str}{v:Value}{expr:Bool}{Q:Value->Shared->Prop}(X:K.In s.heap)(I:InstAt s.heap x ox D od)
 (hga:findIn K (.ref D) "__getattribute__"=some (some (.builtin "BaseException.__getattribute__"))) (hk:findIn K (.ref D) "__getattr__"=some none)
 (hf:findObj K D od name=some (.value v)) (hb:mroIn K D (.type "BaseException")=some true) (hh:handedIn v=true)
 (h:Q v {s with toks:=s.toks+1}):wpAny (model prog w) A (getAttr (.ref x) name expr) Q E s:=by
 obtain⟨hh0,g,d,t,os⟩:=s
 have L0:=I.type (M:=model prog w)
 have L1:=looks_findIn (M:=model prog w) X hga
 have L2:=looks_findIn (M:=model prog w) X hk
 have L3:=looks_find (M:=model prog w) X I hf
 have L4:=looks_mroIn (M:=model prog w) X hb
 have f3:=PySem.F.attr_ValueError.ga.bind (.ref x)
 unfold getAttr getAttrBy
 refine wpAny_bind (wpAny_mkText (wpAny_holding (wpAny_bind (L0.at (wpAny_bind (L1.at ?_))))))
 show wpAny _ _ (getAttrByItsOwn (.ref x) _ (.ref D) (.builtin "BaseException.__getattribute__") true expr) _ _ _
 unfold getAttrByItsOwn hookBefore
 refine wpAny_bind ?_
 show wpAny _ _ (typeLookup (.ref D) "__getattr__") _ _ _
 refine L2.at ?_
 refine wpAny_bind (wpAny_attempt (wpAny_holding ?_))
 unfold callGetattribute boundAndCalled
 have hx0:(expr&&onTheHeap (Value.builtin "BaseException.__getattribute__"))=false:=by cases expr<;>rfl
 rw[hx0,if_neg Bool.false_ne_true]
 show wpAny _ _ (bindSpecial (.builtin "BaseException.__getattribute__") (.ref x) >>= _) _ _ _
 rw[f3]
 refine wpAny_bind (wpAny_pure ?_)
 show wpAny _ _ (call (.builtin "BaseException.__getattribute__") [.ref x,.str name _]) _ _ _
 refine wpAny_call (codeAny_call_builtin PySem.F.attr_ValueError.ga.plain PySem.F.entry_bexc_ga ?_)
 have hkd:builtinKind "BaseException.__getattribute__"=some .slot:=by decide +kernel
 have hsp:splitId "BaseException.__getattribute__"=some ("BaseException","__getattribute__"):=by decide +kernel
 have ha:=PySem.F.args_bexc_ga (.ref x) (.str name t)
 have LI:Looks (model prog w) hh0 (isInstance (.ref x) (.type "BaseException")) true:=L0.andThen L4
 simp only[checkBuiltinCall,hkd,hsp]
 refine wpAny_bind (LI.at ?_)
 simp only[Bool.not_true,Bool.false_eq_true,if_false]
 refine wpAny_of_eq (a:=()) ha ?_
 unfold Builtin.«object.__getattribute__»
 refine wpAny_bind (m:=slotArgs _ _ _) (wpAny_pure ?_)
 dsimp only
 refine wpAny_bind ?_
 show wpAny _ _ (Builtin.ObjectAttr.attrName (.str name t)) _ _ _
 first
  |exact wpAny_pure (wpAny_bind (L0.at (wpAny_bind (L3.at ?_))))
  |(refine wpAny_pure (wpAny_bind (L0.at (wpAny_bind (L3.at ?_)))))
  |(unfold Builtin.ObjectAttr.attrName;refine wpAny_pure (wpAny_bind (L0.at (wpAny_bind (L3.at ?_)))))
 dsimp only
 refine wpAny_pure ?_
 exact handed_on hh h
end
noncomputable abbrev Ko(c n:Nat)(t:T)(μ:Mem):RE T:=match t with
 |.exc c' fs=>.grd (c'=c) (match yq fs n with|some v=>.ok v μ|none=>.st)
 |_=>.st
noncomputable abbrev WH(c n:Nat)(f:De):De:=λτ μ=>(f τ μ).bind λt μ1=>Ko c n t μ1
section
variable {X:Cx}{D:DP}{W:XW}{Γ:Cn}{k:Nat}{pins:List (Addr×Obj)}{s:Shared}{σ:St}{H:Hp}{φ α:List Addr}{τ:Sl}{μ:Mem}{a:Expr}{pos:Pos}{f:De}
theorem Jy(C:Ck D W Γ X k){x nm:Str}{c n:Nat}(hp:zM a=true)(hU:hash x∈Γ.U)(hg:Γ.gl (hash x)=.xin c n nm x)(ha:PE X a (rdE D W f)):PE X (.Attribute a x pos) (rdE D W (WH c n f)):=by
 have q:=(C.glU _ hU).1
 rw[hg] at q
 obtain⟨C0,HE,fI,fd,ps,kk,ad,hm,hfl,xi,hb,hkk,F⟩:=q
 rintro pins s σ H Q I ⟨φ,α,τ,μ,sr,mr,p⟩
 refine JF (qA hp) (thn (sub ha I sr mr p) ?_)
 rintro u s1 ⟨v,H1,t,μ1,α1,I1,r1,st1,sr1,mr1,d1,p1⟩
 unfold Ko at p1
 split at p1
 ·rename_i c' fs
  have hh:=p1.grd
  clear p1
  obtain⟨hc,p1⟩:=hh
  subst hc
  obtain⟨e,Ce,d,rfl,n1,n2,ad',he,hd⟩:=d1
  rw[ad] at ad'
  cases ad'
  cases r1
  split at p1
  ·rename_i w hw
   cases d with
   |none=>rw[show fs=[] from hd] at hw;cases hw
   |some dx=>
    obtain⟨gs,m1,m2,hdx,l⟩:=hd
    obtain⟨y,z,hy,hz,dz⟩:=l.look hw
    rw[hfl] at hy
    cases hy
    obtain⟨oe,vs,g1,g2,g3,g4⟩:XcAt e C0 (some dx) s1.heap:=(show ObjOk X.prog X.w H1 s1.heap e (.ext (XcAt e C0 (some dx))) from I1.hok _ _ he).1
    obtain⟨mA,ns,rel⟩:=(show ObjOk X.prog X.w H1 s1.heap dx (.xd gs) from I1.hok _ _ hdx)
    obtain⟨uu,hu,ru⟩:=RelO.some_of (v:=z) (o:=mA x) (by rw[←hz];exact rel x)
    obtain⟨od,ho,hl⟩:=kZ ns
    have xc:=C.xcx _ _ ad
    have J:PySem.W.InstAt s1.heap e oe C0 (some od):=⟨g1,g2,by unfold PySem.W.notCls;rw[g3],by rw[g4];exact ho⟩
    exact Ql I1.kIn J xc.ga xc.hk (PySem.W.findObj_own xi.dct xi.no rfl (by rw[hl,hu])) xc.bx (Q7 ru) ⟨z,H1,I1.tok _,ru,p1.here mr1 dz⟩
  ·exact p1.elim
 ·exact p1.elim
end
noncomputable def Jg:Expr->Bool
 |.Name x _=>x != "self"
 |_=>true
noncomputable def WD:ER:=λr Γ e=>match e with
 |.Attribute a x _=>gd (zM a&&Jg a&&Γ.U.contains (hash x)) ((r.e Γ a).bind λf=>(match Γ.gl (hash x) with
  |.xin c n _ fl=>gd (fl == x) (some (WH c n f))
  |_=>none))
 |_=>none
theorem Vu{D:DP}:EOk D WD:=by
 intro r H X W Γ k e d C h
 unfold WD at h
 split at h
 ·rename_i a x p0
  have hh:=zm h
  clear h
  obtain⟨hb,h⟩:=hh
  simp only[Bool.and_eq_true] at hb
  obtain⟨⟨h0,h2⟩,h3⟩:=hb
  obtain⟨f,h6,h⟩:=bnd h
  cases hl:Γ.gl (hash x) with
  |xin c n nm fl=>
   simp only[hl] at h
   obtain⟨h7,h8⟩:=zm h
   have h7:=beq_iff_eq.mp h7
   subst h7
   cases h8
   exact Jy C h0 (by simpa using h3) hl (H.e C h6)
  |_=>simp[hl] at h
 ·cases h
noncomputable abbrev z1f(n:Nat)(o f:De):De:=λτ μ=>(o τ μ).bind λt μ1=>(Wg t n μ1).bind λw μ2=>.grd (z0e w) ((f τ μ2).bind λ_ μ3=>.ok .non μ3)
noncomputable abbrev z1i(j:Nat):De:=λ_ (μ:Mem) K _=>(∃i:Nat,μ[i]?=some (MO.tab j))/\K (.clo (2 * j) [.clo (100+j) []]) μ
noncomputable def z1j:Str:=⟨#[37]⟩
noncomputable def z1h(i:Nat)(t:T)(μ:Mem)(zs:List T):Prop:=t=.lst zs\/∃j,t=.mut j/\j≠i/\μ[j]?=some (.lst zs)
noncomputable abbrev vU(o f:De):De:=λτ μ=>(o τ μ).bind λot μ1=>match ot with
 |.str sep=>(f τ μ1).bind λt μ2=>match t with
  |.lst ts=>λK _=>∃ys,strsOf ts=some ys/\JoinOk sep ys=true/\K (.str (Txt.join sep ys)) μ2
  |.mut i=>λK _=>∃ts,μ2[i]?=some (.lst ts)/\∃ys,strsOf ts=some ys/\JoinOk sep ys=true/\K (.str (Txt.join sep ys)) μ2
  |_=>.st
 |_=>.st
section
variable {X:Cx}{D:DP}{W:XW}{Γ:Cn}{k:Nat}{f:De}{a:Expr}
theorem JD:MtR X "str.join" (λx vs H Q=>∃(sep:Str) (l:Addr) (ws:List V) (ys:List Str),x=.str sep/\vs=[.ref l]/\Rd H l (.lst ws)/\ws=ys.map V.str/\JoinOk sep ys=true/\Q (.str (Txt.join sep ys)) H):=by
 intro pins s σ H x vs v us Q I rx rv h
 obtain⟨sep,l,ws,ys,rfl,rfl,hH,rfl,hok,q⟩:=h
 obtain⟨t0,rfl⟩:=rx
 obtain⟨u1,rfl,r1⟩:=vals1 rv
 cases r1
 obtain⟨its,r,pl,_⟩:=I.list (.inl hH)
 have key:∀{ys:List Str} {us:List Value},Vals (ys.map V.str) us->∃ls:List (Str×Tok),strValues ls=us/\ls.map (·.1)=ys:=by
  intro ys
  induction ys with
  |nil=>intro us r;cases r;exact⟨[],rfl,rfl⟩
  |cons y ys ih=>
   intro us r
   cases r with
   |cons r1 r2=>
    obtain⟨t,rfl⟩:=r1
    obtain⟨ls,rfl,e⟩:=ih r2
    exact⟨(y,t)::ls,rfl,by simp[e]⟩
 obtain⟨ls,e1,e2⟩:=key r
 have hl:=pl.isList
 rw[←e1] at hl
 exact SC.join hl e2 hok λt' k=>⟨.str _,H,I.tok _,⟨_,rfl⟩,q⟩
noncomputable def jOb (o:Expr):Bool:=zM o || (match o with|.Constant _ _ _=>true|_=>false)
theorem YI{o:Expr}{f:Str}{env:Env}(h:jOb o=true):attributeBase o f env (eval o env)=eval o env:=by
 cases hp:zM o with
 |true=>exact qA hp
 |false=>
  unfold jOb at h
  rw[hp] at h
  cases o with
  |Constant _ _ _=>rfl
  |_=>cases h
theorem JY{o:Expr}{pa pc:Pos}{go:De}(hp:jOb o=true)(hs:noStar a=true)(hline:(pa.endLine == pc.line)=true)(ho:PE X o (rdE D W go))(ha:PE X a (rdE D W f)) :
  PE X (.Call (.Attribute o "join" pa) [a] [] pc) (rdE D W (vU go f)):=by
 have hb2:starEach [a] X.env=[(false,eval a X.env)]:=z6 hs
 refine PE.mono (Kr PySem.F.plainAttrs_str PySem.F.slot_str_join PySem.F.type_str_join JD ho (zt ha qe (z6 hs)) (YI hp) (by rw[hb2];rfl) hline (z6 hs) rfl) ?_
 rintro σ H Q ⟨φ,α,τ,μ,sr,mr,p⟩
 refine⟨φ,α,τ,μ,sr,mr,p.bind.mono λot μ1 α1 H1 st1 m1 q ov dv=>?_⟩
 split at q
 case h_2=>exact q.elim
 have dv:ov=.str _:=dv
 subst dv
 refine⟨rfl,φ,α1,τ,μ1,sr.step st1,m1,q.bind.mono λt μ2 α2 H2 st2 m2 q2 v d=>?_⟩
 split at q2
 ·obtain⟨K,Z,⟨ys,h1,h2,q3⟩,hk,hz⟩:=q2
  obtain⟨ad,xs,rfl,_,_,rd,l⟩:=d
  exact⟨_,ad,xs,ys,rfl,rfl,rd,wQ h1 l,h2,hk _ _ q3 α2 H2 (Stp.refl _ _) m2 _ rfl⟩
 ·obtain⟨K,Z,⟨ts,hj,ys,h1,h2,q3⟩,hk,hz⟩:=q2
  obtain⟨ad,hi,rfl⟩:=d
  obtain⟨xs,rd,l⟩:=m2.ob _ ad _ hi hj
  exact⟨_,ad,xs,ys,rfl,rfl,.inl rd,wQ h1 l,h2,hk _ _ q3 α2 H2 (Stp.refl _ _) m2 _ rfl⟩
 ·exact q2.elim
end
noncomputable def rJoin:ER:=λr Γ e=>match e with
 |.Call (.Attribute o m pa) [a] [] pc=>gd (m == ("join":Str)&&jOb o&&noStar a&&pa.endLine == pc.line) ((r.e Γ o).bind λf=>(r.e Γ a).bind λg=>some (vU f g))
 |_=>none
theorem Vx{D:DP}:EOk D rJoin:=by
 intro r H X W Γ k e d C h
 unfold rJoin at h
 split at h
 ·have hh:=zm h
  clear h
  obtain⟨hb,h⟩:=hh
  simp only[Bool.and_eq_true] at hb
  obtain⟨⟨⟨h0,h2⟩,h3⟩,h4⟩:=hb
  have h0:=beq_iff_eq.mp h0
  subst h0
  obtain⟨f,h1,h⟩:=bnd h
  obtain⟨g,h5,h⟩:=bnd h
  cases h
  exact JY h2 h3 h4 (H.e C h1) (H.e C h5)
 ·cases h
end NH
namespace NH.P
open PySem L2 NH
@[reducible] noncomputable def vk:List Ds:=[(sIf (wz (tE (x_ [3] (eV 0)))) [(va 14 28 (eC (.int 0)))] [])]
noncomputable def zZ:Fn:=fnW 1 0 vk
@[reducible] noncomputable def jx:List Ds:=[(zo 1 (eC (.str "abcdefghijklmnopqrstuvwxyz"))),(zo 2 (za zr [(eV 0),(eC (.int 4))])),(sIf (tE (zp .Eq (eV 2) (eC (.int 0)))) [(zo 3 (qm [(eC (.str "any")),(eC (.str "lease")),(eC (.str "ask")),(eC (.str "store")),(eC (.str "take")),(eC (.str "back")),(eC (.str "fall")),(eC (.str "bare")),(eC (.str "runs")),(eC (.str "stands")),(eC (.str "world")),(eC (.str "judge"))])),(zu (eIx (zi .Add (eV 3) (qm [(eC (.str "who")),(eC (.str "tell")),(eC (.str "book")),(eC (.str "z"))])) (za zr [(eV 0),(eC (.int 16))])))] []),(sIf (tE (zp .Eq (eV 2) (eC (.int 1)))) [(zo 4 (eSl (eC (.str "bcdefghi")) pN (pS (zi .Add (eC (.int 1)) (za zr [(eV 0),(eC (.int 8))]))))),(zo 5 (za zr [(eV 0),(eB1 j3 (eV 4))])),(zu (zi .Add (zi .Add (eSl (eV 4) pN (pS (eV 5))) (eIx (eC (.str "axz")) (za zr [(eV 0),(eC (.int 3))]))) (eSl (eV 4) (pS (zi .Add (eV 5) (eC (.int 1)))) pN)))] []),(zu (vU (eC (.str "")) (qf 1 [1,0] (.one 0) (XQ (zi .Add (eC (.int 1)) (za zr [(eV 0),(eC (.int 8))]))) [] (eIx (eV 1) (za zr [(eV 2),(eC (.int 26))])))))]
noncomputable def vj:Fn:=fnW 1 5 jx
@[reducible] noncomputable def jI:List Ds:=[(zo 1 (zi .Sub (za zr [(eV 0),(eC (.int 200))]) (eC (.int 100)))),(sIf (tE (zp .Gt (za zr [(eV 0),(eC (.int 3))]) (eC (.int 0)))) [(zu (eV 1))] []),(zo 2 (zi .Add (zi .Mult (za zr [(eV 0),(zi .Pow (eC (.int 10)) (eC (.int 6)))]) (zi .Pow (eC (.int 10)) (eC (.int 6)))) (za zr [(eV 0),(zi .Pow (eC (.int 10)) (eC (.int 6)))]))),(zu (zi .Mult (eV 2) (zi .Sub (eC (.int 1)) (zi .Mult (eC (.int 2)) (za zr [(eV 0),(eC (.int 2))])))))]
noncomputable def ql:Fn:=fnW 1 2 jI
end NH.P
namespace NH
open PySem PySem.Spec PyProof.Rows L2
noncomputable abbrev eC2(op:T->T->Mem->RE T)(f g:De):De:=λτ μ=>(f τ μ).bind λx μ1=>(g τ μ1).bind λy μ2=>op x y μ2
section
variable {X:Cx}{D:DP}{W:XW}{Γ:Cn}{k:Nat}{pins:List (Addr×Obj)}{s:Shared}{σ:St}{H:Hp}{φ α:List Addr}{τ:Sl}{μ:Mem}{f g:De}{a b:Expr}{pos:Pos}
noncomputable def OpC (X:Cx)(D:DP)(W:XW)(op:CmpOp)(r:T->T->Mem->RE T):Prop:=
 ∀(pins:List (Addr×Obj)) (s:Shared) (σ:St) (H:Hp) (φ α:List Addr) (μ:Mem) (x y:T) (v w:V) (u1 u2:Value) (Q:VK),Inv X pins σ H s->MRel D φ α H μ->Den D φ α H x v->Den D φ α H y w->RelV v u1->RelV w u2->Post D W φ α H σ (RV D φ Q) (r x y μ)->
  wpAny (model X.prog X.w) X.A (compareOp op u1 u2) (EP X pins σ Q) X.xe s
theorem Uz{op:CmpOp}{r:T->T->Mem->RE T}(h:OpC X D W op r)(ho:wI op b=true)(ha:PE X a (rdE D W f))(hb:PE X b (rdE D W g)):PE X (.Compare a [op] [b] pos) (rdE D W (eC2 r f g)):=by
 rintro pins s σ H Q I ⟨φ,α,τ,μ,sr,mr,p⟩
 refine wpAny_Compare1 (thn (sub ha I sr mr p) ?_) (jh ho)
 rintro u s1 ⟨v,H1,t,μ1,α1,I1,r1,st1,sr1,mr1,d1,p1⟩
 refine thn (sub hb I1 sr1 mr1 p1) ?_
 rintro u' s2 ⟨v',H2,t',μ2,α2,I2,r2,st2,sr2,mr2,d2,p2⟩
 exact h pins s2 σ H2 φ α2 μ2 t t' v v' u u' Q I2 mr2 (d1.step st2) d2 r1 r2 p2
theorem Vc{op:CmpOp}{r:T->T->Mem->RE T}(h:OpC X D W op r)(ho:wI op b=true)(ha:PE X a (rdE D W f))(hb:PE X b (rdE D W g)):PT X (.Compare a [op] [b] pos) (rdT D W (tE (eC2 r f g))):=by
 rintro pins s σ H Q I ⟨φ,α,τ,μ,sr,mr,p⟩
 have p:Post D W φ α H σ (λb _ _ H'=>Q b H') ((f τ μ).bind λx μ1=>(g τ μ1).bind λy μ2=>(r x y μ2).bind j7):=p
 refine wpAny_isTrue_Compare1 (thn (sub ha I sr mr p) ?_) (jh ho)
 rintro u s1 ⟨v,H1,t,μ1,α1,I1,r1,st1,sr1,mr1,d1,p1⟩
 refine thn (sub hb I1 sr1 mr1 p1) ?_
 rintro u' s2 ⟨v',H2,t',μ2,α2,I2,r2,st2,sr2,mr2,d2,p2⟩
 refine thn (h pins s2 σ H2 φ α2 μ2 t t' v v' u u' (λz H1=>∃t μ1 α1,Stp α2 H2 α1 H1/\MRel D φ α1 H1 μ1/\Den D φ α1 H1 t z/\Post D W φ α1 H1 σ (λb _ _ H'=>Q b H') (j7 t μ1)) I2 mr2 (d1.step st2) d2 r1 r2 (p2.bind.mono λt μ' α' H' st m q v d=>⟨t,μ',α',st,m,d,q⟩)) ?_
 rintro d s3 ⟨z,H3,I3,r3,t3,μ3,α3,st3,mr3,d3,p3⟩
 unfold j7 at p3
 split at p3
 ·cases d3
  cases r3
  exact wpAny_truthy_bool ⟨H3,I3,p3.ok (Stp.refl _ _) mr3⟩
 ·exact p3.elim
end
end NH
namespace NH
open PySem PySem.Spec PyProof.Rows L2 PySem.W
noncomputable def qq (K:Frag)(x:Str)(st:Stmt):Prop:=∃f fd,nsIn K mainGlobals x=some (some (.ref f))/\Fun K x x st f fd
theorem dfp{K:Frag}{x:Str}{st:Stmt}{f:Addr}{oc:Value}{od an:Option Addr}{osl:Array (Option Value)}{kV doc pm cdv ct:Value}(a:nsIn K mainGlobals x=some (some (.ref f)))(l:K.lookup f=some ⟨oc,od,.func (fnOf x x (qg st) (zd st) (zI st) .none kV doc pm an cdv ct),osl⟩)(c:codeIn K cdv x=true)(k:keepIn K (.ref f)=true):qq K x st:=⟨f,_,a,yW l c k⟩
noncomputable def PL:Nat->(List Value->Prop)->Prop
 |0,P=>P []
 |n+1,P=>∀a,PL n λl=>P (a::l)
theorem PL.all:∀{n:Nat} {P:List Value->Prop},PL n P->∀us:List Value,us.length=n->P us
 |0,_,h,[],_=>h
 |_+1,_,h,a::l,e=>PL.all (h a) l (Nat.succ.inj e)
abbrev BdP(x q:Str)(st:Stmt)(ps:List Str):Prop:=∀(kV doc pm:Value) (an:Option Addr) (cdv ct:Value),PL ps.length λus=>bindArgs (fnOf x q (qg st) (zd st) (zI st) .none kV doc pm an cdv ct) ⟨us,[]⟩=pure (ps.zip us)
abbrev GsB(l:OpenLaw)(w:World)(K:Frag)(mg:Str->Option Value)(base:Heap)(k:Nat)(gs:List (Str×GM)){A:Ads}{clo:Nat->Addr->Option HO->List V->Prop}{tabs:Nat->Option (Addr×List Pos×Str)}:Prop:=GsOk l.prog w K mg base A clo k gs tabs
structure Pk(R:Rules)(K:Frag)(mg:Str->Option Value)(base:Heap)(A:Ads)(cls fld:List (Str×Nat)):Prop where
 r:∀{D},RulesOk D R
 i:K.In base
 n:base.Ns mainGlobals mg
 c:chk K A cls fld=true
section
variable {R:Rules}{P:Program}{w:World}{K:Frag}{mg:Str->Option Value}{base:Heap}{A:Ads}{cls fld:List (Str×Nat)}{clo:Nat->Addr->Option HO->List V->Prop}{gs:List (Str×GM)}{tabs:Nat->Option (Addr×List Pos×Str)}{k:Nat}{x qu:Str}{st:Stmt}{f C:Addr}{fd:FuncData}{ps N G cel own:List Str}{m n:Nat}{ds:List Ds}
theorem Pk.ok(Z:Pk R K mg base A cls fld)(F:Fun K x qu st f fd)(q:GsOk P w K mg base A clo k gs tabs)(hds:zD ((comp R n).s (cn cls fld gs N G cel own none)) (zd st)=some ds)(hs:Vg (cn cls fld gs N G cel own none) ps (zI st)=true)(hm:N.length=ps.length+m) :
  FnOk P w K mg base (CX1 P w) (k+1) f fd ps (spN (mkD K A clo tabs) ps.length (fnW ps.length m ds)):=by
 obtain⟨oc,od,kV,doc,pm,an,cdv,ct,osl,rfl,lk,hcd⟩:=F.ex
 exact Zr Z.r (KP Z.i Z.n Z.c q) lk hcd hs hm hds
theorem Pk.fn (Z:Pk R K mg base A cls fld) (p:qq K x st) (q:GsOk P w K mg base A clo k gs tabs) (hds:zD ((comp R n).s (cn cls fld gs N G cel own none)) (zd st)=some ds) (hs:Vg (cn cls fld gs N G cel own none) ps (zI st)=true) (hm:N.length=ps.length+m) (hb:BdP x x st ps) (hx:(x == ("__debug__":Str))=false) :
  GsOk P w K mg base A clo (k+1) ((x,GM.fn (fnW ps.length m ds))::gs) tabs:=by
 obtain⟨f,fd,a,F⟩:=p
 exact GsOk.add (q.mono (Nat.le_succ k)) ⟨f,mg_of Z.i Z.n a,fd,ps,k+1,F.kp,F.binds λkV dc pm an cd ct=>(hb kV dc pm an cd ct).all,Nat.le_refl _,Z.ok F q hds hs hm,Ke⟩ hx
end
end NH
namespace NH
open PySem PySem.Spec PyProof.Rows L2
noncomputable def Uo(b:Expr):Bool:=match b with
 |.Constant (.str _) _ _=>true
 |_=>false
noncomputable abbrev vP(t:T)(μ:Mem):RE T:=match t with
 |.int i=>.ok (.int i) μ
 |.bl b=>.ok (.int (if b then 1 else 0)) μ
 |.str x=>.grd (x.length<=640) (.som (intText? x) λn=>.ok (.int n) μ)
 |_=>.st
noncomputable abbrev UE(x y:T)(μ:Mem):RE T:=match x with
 |.str x=>(match y with
  |.int n=>.grd (x.length=1/\1<n/\n<=1000) (.ok (.str (Txt.mul x n)) μ)
  |_=>.st)
 |_=>.st
noncomputable abbrev xZ(f g:De):De:=λτ μ=>(f τ μ).bind λx μ1=>(g τ μ1).bind λy μ2=>UE x y μ2
noncomputable def wH(x:Str):List (Str×Int)->T
 |[]=>.non
 |p::r=>if p.1=x then .int p.2 else wH x r
noncomputable abbrev z0j(kvs:List (Str×Int))(t:T)(μ:Mem):RE T:=match t with
 |.str x=>.ok (wH x kvs) μ
 |_=>.st
noncomputable abbrev Vi(kvs:List (Str×Int))(f:De):De:=λτ μ=>(f τ μ).bind (z0j kvs)
noncomputable abbrev Ve(o f g:De):De:=λτ μ=>(o τ μ).bind λot μ1=>match ot with
 |.dic kvs=>(f τ μ1).bind λkt μ2=>(g τ μ2).bind λdt μ3=>match kt with
  |.str z=>.ok ((kK (.inr z) kvs).getD dt) μ3
  |_=>.st
 |_=>.st
section
variable {X:Cx}{D:DP}{W:XW}{Γ:Cn}{k:Nat}{pins:List (Addr×Obj)}{s:Shared}{σ:St}{H:Hp}{φ α:List Addr}{τ:Sl}{μ:Mem}{f g:De}{a b:Expr}{pos:Pos}
theorem Ys:B1 X D W (.type "int") vP:=by
 intro pins s σ H φ α μ t v u Q I mr d r p
 unfold vP at p
 split at p
 ·cases d;exact x2 pins s σ H _ _ Q I (.cons r .nil) (.inl ⟨_,rfl,p.here mr rfl⟩)
 ·cases d;exact x2 pins s σ H _ _ Q I (.cons r .nil) (.inr ⟨_,rfl,p.here mr rfl⟩)
 ·rename_i x
  obtain⟨hl,p1⟩:=p.grd
  obtain⟨n,hn,p2⟩:=p1.som
  have d:v=.str x:=d
  subst d
  obtain⟨t0,rfl⟩:=r
  exact PySem.W.KIN.call_text hn hl ⟨.int n,H,I.tok _,⟨_,rfl⟩,p2.here mr rfl⟩
 ·exact p.elim
noncomputable def KR:ER:=rB1 "int" vP false
theorem QI{D:DP}:EOk D KR:=jY λC hx hg _ hs ha=>Vq C hx hg (by decide +kernel) (by decide) hs Ys ha
theorem z0E{x:Str}{n:Int}(h1:x.length=1)(h2:1<n)(h3:n<=1000):MulOk x n:=by
 refine⟨?_,λ_ _=>?_,λ_ _=>?_⟩
 ·simp only[Bool.or_eq_false_iff,decide_eq_false_iff_not]
  omega
 ·rw[h1]
  have:1<=(2 ^ 63-1:Int) / n:=by
   rw[Int.le_ediv_iff_mul_le (by omega)]
   omega
  omega
 ·rw[h1]
  unfold Builtin.Str.tooLong sizeLine
  exact decide_eq_false (by omega)
theorem JS(ha:PE X a (rdE D W f))(hb:PE X b (rdE D W g)):PE X (.BinOp a .Mult b pos) (rdE D W (xZ f g)):=by
 rintro pins s σ H Q I ⟨φ,α,τ,μ,sr,mr,p⟩
 refine wpAny_BinOp (thn (sub ha I sr mr p) ?_)
 rintro u s1 ⟨v,H1,t,μ1,α1,I1,r1,st1,sr1,mr1,d1,p1⟩
 refine thn (sub hb I1 sr1 mr1 p1) ?_
 rintro u' s2 ⟨v',H2,t',μ2,α2,I2,r2,st2,sr2,mr2,d2,p2⟩
 have d1:=d1.step st2
 cases t with
 |str x=>
  cases t' with
  |int n=>
   obtain⟨⟨h1,h2,h3⟩,p3⟩:=Post.grd p2
   have d1:v=.str x:=d1
   have d2:v'=.int n:=d2
   subst d1 d2
   obtain⟨t0,rfl⟩:=r1
   obtain⟨t1,rfl⟩:=r2
   exact SB.mul (z0E h1 h2 h3) λt' k=>⟨.str _,H2,I2.tok _,⟨_,rfl⟩,p3.here mr2 rfl⟩
  |_=>exact Post.elim p2
 |_=>exact Post.elim p2
noncomputable def mulC (e:Expr):Option (Expr×Expr):=match e with
 |.BinOp a .Mult b _=>gd (Uo a) (some (a,b))
 |_=>none
theorem JO{e:Expr}{q:Expr×Expr}(h:mulC e=some q):∃pos,e=.BinOp q.1 .Mult q.2 pos:=by
 unfold mulC at h
 split at h
 ·obtain⟨_,h⟩:=zm h
  cases h
  exact⟨_,rfl⟩
 ·cases h
noncomputable def Wt:ER:=λr Γ e=>(mulC e).bind λq=>(r.e Γ q.1).bind λf=>(r.e Γ q.2).bind λg=>some (xZ f g)
theorem V6{D:DP}:EOk D Wt:=by
 intro r H X W Γ k e d C h
 unfold Wt at h
 obtain⟨q,hq,h⟩:=bnd h
 obtain⟨f,e1,h⟩:=bnd h
 obtain⟨g,e2,h⟩:=bnd h
 cases h
 obtain⟨pos,rfl⟩:=JO hq
 exact JS (H.e C e1) (H.e C e2)
theorem W7{x:Str}:∀{kvs:List (Str×Int)},(j8 (kvs.map λp=>((.inr p.1:Key),V.int p.2)) (.inr x)).getD .non=(match wH x kvs with|.int i=>V.int i|_=>V.non):=by
 intro kvs
 induction kvs with
 |nil=>rfl
 |cons p r ih=>
  unfold wH
  by_cases e:p.1=x
  ·rw[if_pos e,List.map_cons,vq (p:=((.inr p.1:Key),V.int p.2)) (by rw[e])];rfl
  ·rw[if_neg e,List.map_cons,vx (p:=((.inr p.1:Key),V.int p.2)) (λz=>e (Sum.inr.inj z))];exact ih
theorem x5{x:Str}:∀{kvs:List (Str×Int)},Den D φ α H (wH x kvs) (match wH x kvs with|.int i=>V.int i|_=>V.non)
 |[]=>rfl
 |p::r=>by
  unfold wH
  by_cases e:p.1=x
  ·rw[if_pos e];rfl
  ·rw[if_neg e];exact x5
theorem Kb(C:Ck D W Γ X k){x:Str}{kvs:List (Str×Int)}{p0 pa pc:Pos}(hx:x∈Γ.G)(hg:Γ.gl x=.tbl kvs)(hs:noStar a=true)(hline:(pa.endLine == pc.line)=true)(ha:PE X a (rdE D W f)) :
  PE X (.Call (.Attribute (.Name x p0) "get" pa) [a] [] pc) (rdE D W (Vi kvs f)):=by
 have hb:starEach [a] X.env=[(false,eval a X.env)]:=z6 hs
 have m:M1 X (.Name x p0) "get" pa a pc:=⟨qA rfl,by rw[hb];rfl,hline,by rw[hb];rfl⟩
 have hq:=C.glo x hx
 rw[hg] at hq
 obtain⟨ad,vs,hm,hS,kv,hD⟩:=hq
 rintro pins s σ H Q I ⟨φ,α,τ,μ,sr,mr,p⟩
 refine wpAny_Call_method m.base m.few m.line PySem.F.plainAttrs_dict PySem.F.slot_dict_get PySem.F.type_dict_get (qJ I (C.glb x hx) hm ?_ (C.dbG x hx))
 have dd:=hD _ I.kIn
 refine⟨dd.typeIs,λb e=>?_,?_⟩
 ·cases e
  obtain⟨ob,_,_,h1,h2,_⟩:=dd
  exact⟨ob,h1,h2.2.1⟩
 ·rw[m.trees]
  refine Calls.callWith_builtin rfl (Calls.evalArgs_plain (Calls.spliced_cons (thn (sub ha I sr mr p) ?_)))
  rintro iv s2 ⟨v,H2,t,μ2,α2,I2,ry,st2,sr2,mr2,d2,p2⟩
  refine Calls.spliced_nil ?_
  cases t with
  |str z=>
   have d2:v=.str z:=d2
   subst d2
   have dd2:=hD _ I2.kIn
   refine call_meetsIn PySem.F.slot_dict_get dd2.typeIs PySem.F.entry_dict_get (PySem.F.args_dict_get_2 _ _) (meets_dict_get (zk X.prog X.w) ad (Wo (k:=.inr z) ry) hS) ⟨_,dd2.mapOf,?_⟩
   have rv:=(KV.val kv (.inr z)).getD (d:=.non) (d':=.none) rfl
   rw[W7] at rv
   exact⟨_,H2,I2.tok _,rv,Post.here p2 mr2 x5⟩
  |_=>exact Post.elim p2
noncomputable def V4:ER:=λr Γ e=>match e with
 |.Call (.Attribute (.Name x _) m pa) [a] [] pc=>gd (m == ("get":Str)&&(idx Γ.N x).isNone&&noStar a&&pa.endLine == pc.line) ((r.e Γ a).bind λf=>(match Γ.look x with
  |.tbl kvs=>some (Vi kvs f)
  |_=>none))
 |_=>none
theorem V7{D:DP}:EOk D V4:=by
 intro r H X W Γ k e d C h
 unfold V4 at h
 split at h
 ·rename_i x p0 m pa a pc
  have hh:=zm h
  clear h
  obtain⟨hb,h⟩:=hh
  simp only[Bool.and_eq_true,beq_iff_eq] at hb
  obtain⟨⟨⟨rfl,h2⟩,h3⟩,h4⟩:=hb
  obtain⟨f,h1,h⟩:=bnd h
  cases hl:Γ.look x with
  |tbl kvs=>
   simp only[hl] at h
   cases h
   obtain⟨hx,hg⟩:=qO hl (by intro z;cases z)
   exact Kb C hx hg h3 (by simpa using h4) (H.e C h1)
  |_=>simp[hl] at h
 ·cases h
theorem jm{z:Key}{t:T}{u:V}:∀{kvs:List (Key×T)} {gs:List (Key×V)},DenK D φ α H kvs gs->Den D φ α H t u->Den D φ α H ((kK z kvs).getD t) ((j8 gs z).getD u)
 |[],_,h,d=>by cases h;exact d
 |p::r,_,h,d=>by
  obtain⟨v,q,rfl,d',l⟩:=h
  unfold kK
  by_cases e:p.1=z
  ·rw[if_pos e,vq (p:=(p.1,v)) e];exact d'
  ·rw[if_neg e,vx (p:=(p.1,v)) e];exact jm l d
theorem Qe{prog:Program}{w:World}{A:Around}{E:Value->Shared->Prop}{s:Shared}{env:Env}{vs:List Expr}{kx:List (Option Expr)}{p:Pos}{name:Str}{apos pos:Pos}{args:List Expr}{T id:String}{Q:Value->Shared->Prop}
  (hfew:((backTo pos (starEach args env)).all (λx=>!x.1)&&(backToKw pos (keywordEach [] env)).all (λx=>x.1.isSome)
   &&decide (args.length+([]:List Keyword).length+(if ([]:List Keyword).isEmpty then 0 else 1)<30))=true)
  (pa:PlainAttrs T) (slot:Slot T name id) (hty:typeOf (.builtin id)=pure (.type "method_descriptor"))
  (h:wpAny (model prog w) A (eval (.Dict kx vs p) env) (λov s₁=>s₁.TypeIs ov T/\(∀a,ov=.ref a->∃ob,s₁.heap.get? a=some ob/\ob.dict=none)/\
   ∀ps,wpAny (model prog w) A (callWith ps (.builtin id) [ov] (backTo pos (starEach args env)) []) Q E s₁) E s) :
  wpAny (model prog w) A (eval (.Call (.Attribute (.Dict kx vs p) name apos) args [] pos) env) Q E s:=by
 have hbase:attributeBase (.Dict kx vs p) name env (eval (.Dict kx vs p) env)=eval (.Dict kx vs p) env:=rfl
 rw[arm_eval_Call,hbase]
 refine wpAny_bind (wpAny_mono h (λov s₁ h₁=>?_) λ_ _ e=>e)
 obtain⟨hT,hd,hc⟩:=h₁
 refine wpAny_bind (wpAny_standAt ?_)
 have hform:methodCallForm (args.length+([]:List Keyword).length) (backTo pos (starEach args env)) (backToKw pos (keywordEach [] env))=true:=hfew
 unfold methodCall
 rw[hform]
 refine wpAny_bind (wpAny_holding (getMethod_builtin hT pa slot hty hd ?_))
 by_cases hl:(apos.endLine == pos.line)=true
 ·have hpos:methodCallPos true (.Dict kx vs p) env apos pos=pure pos:=by unfold methodCallPos;simp[hl]
  exact wpAny_bind (wpAny_of_eq hpos (hc pos))
 ·refine wpAny_bind ?_
  unfold methodCallPos
  simp only[hl,Bool.not_true,Bool.false_or]
  refine wpAny_bind (wpAny_pure ?_)
  exact wpAny_bind (wpAny_pure (wpAny_pure (hc _)))
theorem J3(C:Ck D W Γ X k){kx:List (Option Expr)}{vs:List Expr}{p:Pos}{c:Expr}{pa pc:Pos}{go:De}(hs:noStar a=true)(hs2:noStar c=true)(ho:PE X (.Dict kx vs p) (rdE D W go))(ha:PE X a (rdE D W f))(hc:PE X c (rdE D W g)) :
  PE X (.Call (.Attribute (.Dict kx vs p) "get" pa) [a,c] [] pc) (rdE D W (Ve go f g)):=by
 have hb:starEach [a,c] X.env=[(false,eval a X.env),(false,eval c X.env)]:=by
  have e1:starEach [a,c] X.env=(false,eval a X.env)::starEach [c] X.env:=z6 hs
  have e2:starEach [c] X.env=[(false,eval c X.env)]:=z6 hs2
  rw[e1,e2]
 have hu:X.A.units+1<cLine:=by have:=C.unt;omega
 have hpe:PE X (.Call (.Attribute (.Dict kx vs p) "get" pa) [a,c] [] pc) (XF (rdE D W go) (rdE D W f) (rdE D W g)):=by
  intro pins s σ H Q I h
  refine Qe (by rw[hb];rfl) PySem.F.plainAttrs_dict PySem.F.slot_dict_get PySem.F.type_dict_get (thn (ho pins s σ H _ I h) λu s1 ⟨x,H1,I1,rx,a',ex,d,q1⟩=>?_)
  subst ex
  obtain rfl:u=Value.ref a':=rx
  obtain⟨t1,t2,_⟩:=Yo I1 d
  refine⟨t1,t2,λps=>?_⟩
  rw[show backTo pc (starEach [a,c] X.env)=[(false,eval a X.env),(false,eval c X.env)] by rw[hb];rfl]
  refine Calls.callWith_builtin rfl (Calls.evalArgs_plain (Calls.spliced_cons (thn (ha pins s1 σ H1 _ I1 q1) λiv s2 ⟨y,H2,I2,ry,q2⟩=>
   Calls.spliced_cons (thn (hc pins s2 σ H2 _ I2 q2) λfv s3 ⟨z,H3,I3,rz,ov,g,q3⟩=>Calls.spliced_nil ?_))))
  exact Uc hu I3 g ry rz λw' s4 I4 rw'=>⟨_,H3,I4,rw',q3⟩
 refine PE.mono hpe ?_
 rintro σ H Q ⟨φ,α,τ,μ,sr,mr,p⟩
 refine⟨φ,α,τ,μ,sr,mr,p.bind.mono λot μ1 α1 H1 st1 m1 q ov dv=>?_⟩
 cases ot with
 |dic kvs=>
  obtain⟨x,gs,rfl,n1,n2,hx,lk⟩:=dv
  refine⟨x,rfl,.inl ⟨_,.inl hx⟩,φ,α1,τ,μ1,sr.step st1,m1,Post.mono (Post.bind q) λkt μ2 α2 H2 st2 m2 q2 kv dk=>?_⟩
  refine⟨φ,α2,τ,μ2,(sr.step st1).step st2,m2,Post.mono (Post.bind q2) λdt μ3 α3 H3 st3 m3 q3 dvv dd=>?_⟩
  cases kt with
  |str z=>
   have dk:kv=.str z:=dk
   subst dk
   have d3:Den D φ α3 H3 (.dic kvs) (.ref x):=Den.step st3 (Den.step st2 (show Den D φ α1 H1 (.dic kvs) (.ref x) from ⟨x,gs,rfl,n1,n2,hx,lk⟩))
   obtain⟨x',gs',e,_,_,hx3,lk3⟩:=d3
   cases e
   exact⟨_,DGet.k (k:=.inr z) hx3,Post.here q3 m3 (jm lk3 dd)⟩
  |_=>exact Post.elim q3
 |_=>exact Post.elim q
end
noncomputable def WR:ER:=λr Γ e=>match e with
 |.Call (.Attribute (.Dict kx vs p) m pa) [a,c] [] pc=>gd (m == ("get":Str)&&noStar a&&noStar c) ((r.e Γ (.Dict kx vs p)).bind λf=>(r.e Γ a).bind λg=>(r.e Γ c).bind λh=>some (Ve f g h))
 |_=>none
theorem QK{D:DP}:EOk D WR:=by
 intro r H X W Γ k e d C h
 unfold WR at h
 split at h
 ·have hh:=zm h
  clear h
  obtain⟨hb,h⟩:=hh
  simp only[Bool.and_eq_true] at hb
  obtain⟨⟨h0,h3⟩,h5⟩:=hb
  have h0:=beq_iff_eq.mp h0
  subst h0
  obtain⟨f,e1,h⟩:=bnd h
  obtain⟨g,e2,h⟩:=bnd h
  obtain⟨j,e3,h⟩:=bnd h
  cases h
  exact J3 C h3 h5 (H.e C e1) (H.e C e2) (H.e C e3)
 ·cases h
noncomputable def Ul(w:World):List DictEntry->List (Str×Int)->Prop
 |[],[]=>True
 |e::r,p::q=>(∃t u,e=⟨hashStr w p.1,.str p.1 t,.int p.2 u⟩)/\Ul w r q
 |_,_=>False
theorem Z2{P:Program}{w:World}:∀{es:List DictEntry} {kvs:List (Str×Int)},Ul w es kvs->∃vs,KV (kvs.map λp=>((.inr p.1:Key),V.int p.2)) vs/\Pairs (zk P w) es vs/\vs.map (·.1)=kvs.map (λp=>(.inr p.1:Key))/\∀e∈es,∃k,(zk P w).is k e.key=true/\e.hash=(zk P w).hash k
 |[],[],_=>⟨[],.nil,.nil,rfl,by simp⟩
 |e::r,p::q,h=>by
  obtain⟨⟨t,u,rfl⟩,h⟩:=h
  obtain⟨vs,h1,h2,h3,h4⟩:=Z2 (P:=P) h
  have ki:(zk P w).is (.inr p.1) (.str p.1 t)=true:=xk p.1 t
  refine⟨(.inr p.1,.int p.2 u)::vs,.cons ⟨rfl,u,rfl⟩ h1,.cons ki rfl h2,by rw[List.map_cons,List.map_cons,h3],λe he=>?_⟩
  rcases List.mem_cons.mp he with rfl|he
  ·exact⟨_,ki,rfl⟩
  ·exact h4 e he
 |[],_::_,h=>h.elim
 |_::_,[],h=>h.elim
theorem U4{D:DP}{P:Program}{w:World}{K:PySem.W.Frag}{mg:Str->Option Value}{base:Heap}{k:Nat}{x:Str}{a:Addr}{es:Array DictEntry}{ep:Nat}{kvs:List (Str×Int)}(hm:mg x=some (.ref a))(hs:(a == sysModules)=false)
  (lk:K.lookup a=some {cls:=.type "dict",data:=.dict es ep}) (hr:Ul w es.toList kvs) (nd:(kvs.map (·.1)).Nodup):GlOkM D P w K mg base k x (.tbl kvs):=by
 obtain⟨vs,h1,h2,h3,h4⟩:=Z2 (P:=P) hr
 refine⟨a,vs,hm,hs,h1,λh kin=>⟨_,es,ep,kin _ _ lk,⟨rfl,rfl,rfl⟩,rfl,λe he=>h4 e (Array.mem_toList_iff.mpr he),h2,?_⟩⟩
 rw[h3,List.nodup_iff_pairwise_ne,List.pairwise_map]
 have nd:=List.nodup_iff_pairwise_ne.mp nd
 rw[List.pairwise_map] at nd
 exact List.Pairwise.imp (λ{p q} n e=>n (Sum.inr.inj e)) nd
noncomputable def zW (x:T):List T->Option Bool
 |[]=>some false
 |y::r=>(scT y x).bind λb=>(zW x r).map (b || ·)
noncomputable abbrev y6(x y:T)(μ:Mem):RE T:=match y with
 |.tup ys=>.som (zW x ys) λb=>.ok (.bl b) μ
 |.lst ys=>.som (zW x ys) λb=>.ok (.bl b) μ
 |.mut i=>λK _=>∃ys b,μ[i]?=some (MO.lst ys)/\zW x ys=some b/\K (.bl b) μ
 |_=>.st
noncomputable def scV:Value->Value->Bool
 |.none,.none=>true
 |.int a _,.int b _=>a == b
 |.str a _,.str b _=>a == b
 |.bool a,.bool b=>a == b
 |_,_=>false
section
variable {X:Cx}{D:DP}{W:XW}{Γ:Cn}{k:Nat}{pins:List (Addr×Obj)}{s:Shared}{σ:St}{H:Hp}{φ α:List Addr}{τ:Sl}{μ:Mem}{f g:De}{a b:Expr}{pos:Pos}{A:Around}
theorem z0A{y x:T}{c:Bool}{v w:V}{u u':Value}(h:scT y x=some c)(d1:Den D φ α H y v)(d2:Den D φ α H x w)(r1:RelV v u)(r2:RelV w u'):SeqAt.EqAt A s u u' (scV u u')/\scV u u'=c:=by
 cases y with
 |non=>
  have d1:v=.non:=d1
  subst d1;cases r1
  cases x with
  |non=>have d2:w=.non:=d2;subst d2;cases r2;cases h;exact⟨SeqAt.EqAt.same _,rfl⟩
  |int j=>have d2:w=.int j:=d2;subst d2;obtain⟨t,rfl⟩:=r2;cases h;exact⟨SeqAt.EqAt.none_int j t,rfl⟩
  |bl j=>have d2:w=.bl j:=d2;subst d2;cases r2;cases h;exact⟨SeqAt.EqAt.none_bool j,rfl⟩
  |str j=>have d2:w=.str j:=d2;subst d2;obtain⟨t,rfl⟩:=r2;cases h;exact⟨SeqAt.EqAt.none_str j t,rfl⟩
  |_=>cases h
 |int i=>
  have d1:v=.int i:=d1
  subst d1;obtain⟨t0,rfl⟩:=r1
  cases x with
  |non=>have d2:w=.non:=d2;subst d2;cases r2;cases h;exact⟨SeqAt.EqAt.int_none i t0,rfl⟩
  |int j=>have d2:w=.int j:=d2;subst d2;obtain⟨t,rfl⟩:=r2;cases h;exact⟨SeqAt.EqAt.int_int i t0 j t,by show (i == j)=decide (i=j);by_cases e:i=j<;>simp[e]⟩
  |str j=>have d2:w=.str j:=d2;subst d2;obtain⟨t,rfl⟩:=r2;cases h;exact⟨SeqAt.EqAt.int_str i t0 j t,rfl⟩
  |_=>cases h
 |bl i=>
  have d1:v=.bl i:=d1
  subst d1;cases r1
  cases x with
  |non=>have d2:w=.non:=d2;subst d2;cases r2;cases h;exact⟨SeqAt.EqAt.bool_none i,rfl⟩
  |bl j=>have d2:w=.bl j:=d2;subst d2;cases r2;cases h;exact⟨SeqAt.EqAt.bool_bool i j,by cases i<;>cases j<;>rfl⟩
  |str j=>have d2:w=.str j:=d2;subst d2;obtain⟨t,rfl⟩:=r2;cases h;exact⟨SeqAt.EqAt.bool_str i j t,rfl⟩
  |_=>cases h
 |str i=>
  have d1:v=.str i:=d1
  subst d1;obtain⟨t0,rfl⟩:=r1
  cases x with
  |non=>have d2:w=.non:=d2;subst d2;cases r2;cases h;exact⟨SeqAt.EqAt.str_none i t0,rfl⟩
  |int j=>have d2:w=.int j:=d2;subst d2;obtain⟨t,rfl⟩:=r2;cases h;exact⟨SeqAt.EqAt.str_int i t0 j t,rfl⟩
  |bl j=>have d2:w=.bl j:=d2;subst d2;cases r2;cases h;exact⟨SeqAt.EqAt.str_bool i t0 j,rfl⟩
  |str j=>have d2:w=.str j:=d2;subst d2;obtain⟨t,rfl⟩:=r2;cases h;exact⟨SeqAt.EqAt.str_str i t0 j t,by show (i == j)=decide (i=j);by_cases e:i=j<;>simp[e]⟩
  |_=>cases h
 |_=>cases h
theorem uI{x:T}{w:V}{u':Value}(d2:Den D φ α H x w)(r2:RelV w u'):∀{ys:List T} {c:Bool} {vs:List V} {us:List Value},zW x ys=some c->DenL D φ α H ys vs->Vals vs us->(∀u∈us,SeqAt.EqAt A s u u' (scV u u'))/\(us.any λu=>scV u u')=c
 |[],c,vs,us,h,l,r=>by
  have l:vs=[]:=l
  subst l;cases r;cases h
  exact⟨by simp,rfl⟩
 |y::ys,c,vs,us,h,l,r=>by
  obtain⟨v,vs',rfl,d,l⟩:=l
  obtain⟨b1,e1,h⟩:=bnd (show ((scT y x).bind λb=>(zW x ys).map (b || ·))=some c from h)
  cases r with
  |cons r1 r2'=>
   obtain⟨b2,e2,rfl⟩:=Option.map_eq_some_iff.mp h
   obtain⟨q1,q2⟩:=z0A (A:=A) (s:=s) e1 d d2 r1 r2
   obtain⟨q3,q4⟩:=uI d2 r2 e2 l r2'
   refine⟨λu hu=>?_,?_⟩
   ·rcases List.mem_cons.mp hu with rfl|hu
    ·exact q1
    ·exact q3 u hu
   ·rw[List.any_cons,q2,q4]
theorem V9:OpC X D W .In y6:=by
 intro pins s σ H φ α μ x y v w u1 u2 Q I mr d1 d2 r1 r2 p
 have ls:∀{ad:Addr} {ys:List T} {ws:List V} {c:Bool},Rd H ad (.lst ws)->DenL D φ α H ys ws->zW x ys=some c->Post D W φ α H σ (RV D φ Q) (.ok (.bl c) μ)->wpAny (model X.prog X.w) X.A (compareOp .In u1 (.ref ad)) (EP X pins σ Q) X.xe s:=λ{ad ys ws c} rd l hc q=>by
  obtain⟨its,rv,pl,_⟩:=I.list (.inl rd)
  obtain⟨q1,q2⟩:=uI (A:=X.A.in1) (s:=s) d1 r1 hc l rv
  refine SeqAt.in_listAt (λz=>scV z u1) pl.isList (λz hz=>q1 z (by simpa using hz)) ⟨.bl _,H,I,rfl,?_⟩
  have ea:its.toArray.any (λz=>scV z u1)=c:=by rw[←q2];simp
  rw[ea]
  exact q.here mr rfl
 cases y with
 |tup ys=>
  obtain⟨c,hc,q⟩:=Post.som p
  obtain⟨ad,ws,rfl,_,_,rd,l⟩:=d2
  cases r2
  obtain⟨_,its,rv,pl⟩:=(show ObjOk X.prog X.w H s.heap ad (.tup ws) from rd.ok I.hok)
  obtain⟨q1,q2⟩:=uI (A:=X.A.in1) (s:=s) d1 r1 hc l rv
  refine SeqAt.in_tupleAt (λz=>scV z u1) pl (λz hz=>q1 z (by simpa using hz)) ⟨.bl _,H,I,rfl,?_⟩
  have ea:its.toArray.any (λz=>scV z u1)=c:=by rw[←q2];simp
  rw[ea]
  exact q.here mr rfl
 |lst ys=>
  obtain⟨c,hc,q⟩:=Post.som p
  obtain⟨ad,ws,rfl,_,_,rd,l⟩:=d2
  cases r2
  exact ls rd l hc q
 | «mut» i=>
  obtain⟨K0,Z0,⟨ys,c,hi,hc,hK⟩,k1,k2⟩:=p
  obtain⟨ad,ha,rfl⟩:=d2
  cases r2
  obtain⟨ws,hH,l⟩:=mr.ob i ad _ ha hi
  exact ls (.inl hH) l hc ⟨K0,Z0,hK,k1,k2⟩
 |_=>exact Post.elim p
end
noncomputable abbrev yl(t:T)(μ:Mem):RE T:=match t with
 |.int i=>.grd (i.natAbs<2 ^ 1900) (.ok (.str (toString i)) μ)
 |.str x=>.ok (.str x) μ
 |.non=>.ok (.str "None") μ
 |_=>.st
theorem XS{X:Cx}{D:DP}{W:XW}:B1 X D W (.type "str") yl:=by
 intro pins s σ H φ α μ t v u Q I mr d r p
 unfold yl at p
 split at p
 ·cases d
  obtain⟨hg,p⟩:=p.grd
  obtain⟨t1,rfl⟩:=r
  exact P.str_of_int (XT hg) ⟨.str _,H,I.tok _,⟨_,rfl⟩,p.here mr rfl⟩
 ·cases d
  obtain⟨t1,rfl⟩:=r
  exact P.str_of_str ⟨.str _,H,I,⟨_,rfl⟩,p.here mr rfl⟩
 ·cases d
  cases r
  exact P.str_of_none ⟨.str _,H,I.tok _,⟨_,rfl⟩,p.here mr rfl⟩
 ·exact p.elim
noncomputable def KH:ER:=rB1 "str" yl false
theorem QE{D:DP}:EOk D KH:=jY λC hx hg _ hs ha=>Vq C hx hg (by decide +kernel) (by decide) hs XS ha
noncomputable def Jx:Expr->Option (Expr×Expr)
 |.Compare a [.In] [b] _=>gd (wI .In b&&((match a with|.Constant .none _ _=>true|_=>false) || (match b with|.Tuple _ _ _=>true|_=>false))) (some (a,b))
 |_=>none
theorem Z5{e:Expr}{q:Expr×Expr}(h:Jx e=some q):wI .In q.2=true/\∃pos,e=.Compare q.1 [.In] [q.2] pos:=by
 unfold Jx at h
 split at h
 ·obtain⟨hb,h⟩:=zm h
  cases h
  exact⟨(Bool.and_eq_true _ _▸hb:wI .In _=true/\_).1,_,rfl⟩
 ·cases h
noncomputable def Wd:ER:=λr Γ e=>(Jx e).bind λq=>(r.e Γ q.1).bind λf=>(r.e Γ q.2).bind λg=>some (eC2 y6 f g)
theorem WN{D:DP}:EOk D Wd:=by
 intro r H X W Γ k e d C h
 unfold Wd at h
 obtain⟨q,hq,h⟩:=bnd h
 obtain⟨f,e1,h⟩:=bnd h
 obtain⟨g,e2,h⟩:=bnd h
 cases h
 obtain⟨ho,pos,rfl⟩:=Z5 hq
 exact Uz V9 ho (H.e C e1) (H.e C e2)
noncomputable def yN:TR:=λr Γ e=>(Jx e).bind λq=>(r.e Γ q.1).bind λf=>(r.e Γ q.2).bind λg=>some (tE (eC2 y6 f g))
theorem ZY{D:DP}:TOk D yN:=by
 intro r H X W Γ k e d C h
 unfold yN at h
 obtain⟨q,hq,h⟩:=bnd h
 obtain⟨f,e1,h⟩:=bnd h
 obtain⟨g,e2,h⟩:=bnd h
 cases h
 obtain⟨ho,pos,rfl⟩:=Z5 hq
 exact Vc V9 ho (H.e C e1) (H.e C e2)
end NH
namespace NH.P
open PySem L2 NH
@[reducible] noncomputable def jC:List Ds:=[(sIf (tOr (tE (zp .Eq (eB1 j3 (eV 0)) (eC (.int 0)))) (wz (tE (x_ [3] (eIx (eV 0) (eC (.int 0))))))) [(zu (eC (.bl false)))] []),(zu (zp .Eq (Vi [("lease",5),("ask",4),("store",4),("take",4),("back",3),("fall",3),("bare",3)] (eIx (eV 0) (eC (.int 0)))) (eB1 j3 (eV 0))))]
noncomputable def vg:Fn:=fnW 1 0 jC
@[reducible] noncomputable def we:List Ds:=[(zo 1 (eIf (tE (W_ anyC startT (eV 0) (eC (.str "-")))) (eSl (eV 0) (pS (eC (.int 1))) pN) (eV 0))),(sIf (tOr (wz (tE (eCh (eC (.int 1)) [(.LtE,(eB1 j3 (eV 1))),(.LtE,(eC (.int 40)))]))) (wz (tE (eB1 VF (qf 1 [] (.one 0) (iE (eV 1)) [] (zp .In (eV 0) (eC (.str "0123456789")))))))) [(zu (eC (.bl false)))] []),(zu (eOr (zp .NotEq (eIx (eV 1) (eC (.int 0))) (eC (.str "0"))) (zp .Eq (eV 0) (eC (.str "0")))))]
noncomputable def wu:Fn:=fnW 1 1 we
@[reducible] noncomputable def wG:List Ds:=[(sIf (wz (tE (za wu [(eV 0)]))) [(va 14 28 (eC (.int 0)))] []),(zu (eB1 vP (eV 0)))]
noncomputable def zQ:Fn:=fnW 1 0 wG
@[reducible] noncomputable def ju:List Ds:=[(zu (vU (eC (.str " ")) (qf 1 [] (.one 0) (iE (eV 0)) [] (eIf (tE (zp .Is (eV 0) (eC .non))) (eC (.str "any")) (eB1 yl (eV 0))))))]
noncomputable def qc:Fn:=fnW 1 0 ju
@[reducible] noncomputable def j2:List Ds:=[(sIf (yy (tE (zp .Eq (eIx (eV 0) (eC (.int 0))) (eC (.str "lease")))) (tE (zp .Eq (eIx (eV 0) (eC (.int 3))) (eC (.str "any"))))) [(zu (qm [(eC .non),(za zQ [(eIx (eV 0) (eC (.int 4)))])]))] []),(zu (qf 1 [] (.one 0) (iE (eSl (eV 0) (pS (eC (.int 3))) pN)) [] (za zQ [(eV 0)])))]
noncomputable def zS:Fn:=fnW 1 0 j2
@[reducible] noncomputable def wL:List Ds:=[(W6 (za zZ [(eV 0)])),(zo 1 (W_ uY ue (eV 0) (eC (.str " ")))),(sIf (tOr (wz (tE (za vg [(eV 1)]))) (wz (tE (za wo [(eIx (eV 1) (eC (.int 2)))])))) [(va 14 28 (eC (.int 0)))] []),(zu (eB1 jr (zi .Add (qm [(eIx (eV 1) (eC (.int 0))),(za zQ [(eIx (eV 1) (eC (.int 1)))]),(eIx (eV 1) (eC (.int 2)))]) (za zS [(eV 1)]))))]
noncomputable def zV:Fn:=fnW 1 1 wL
@[reducible] noncomputable def Zq:List Ds:=[(zo 1 (eIx (qm [(eC (.str "lease")),(eC (.str "ask")),(eC (.str "store")),(eC (.str "take")),(eC (.str "back")),(eC (.str "fall")),(eC (.str "bare")),(eC (.str "lease"))]) (za zr [(eV 0),(eC (.int 8))]))),(zo 2 (vC [(eV 1),(za ql [(eV 0)]),(za vj [(eV 0)])])),(sIf (tE (zp .Eq (eV 1) (eC (.str "lease")))) [(zu (zi .Add (eV 2) (vC [(eIx (qm [(eC .non),(za ql [(eV 0)])]) (za zr [(eV 0),(eC (.int 2))])),(za ql [(eV 0)])])))] []),(sIf (tE (eC2 y6 (eV 1) (vC [(eC (.str "ask")),(eC (.str "store")),(eC (.str "take"))]))) [(zu (zi .Add (eV 2) (vC [(za ql [(eV 0)])])))] []),(zu (eV 2))]
noncomputable def yf:Fn:=fnW 1 2 Zq
@[reducible] noncomputable def xq:List Ds:=[(zu (qf 1 [] (.one 0) (iE (eV 0)) [] (eIx (qm [(eB1 yl (eV 0)),(eC (.str "any"))]) (eB1 vP (zp .Is (eV 0) (eC .non))))))]
noncomputable def wj:Fn:=fnW 1 0 xq
@[reducible] noncomputable def q9:List Ds:=[(zo 1 (eV 0)),(sIf (tE (zp .Eq (eSl (eV 0) pN (pS (eC (.int 1)))) (eC (.str "-")))) [(zo 1 (eSl (eV 0) (pS (eC (.int 1))) pN))] []),(sIf (tOr (tE (zp .Eq (eV 1) (eC (.str "")))) (tOr (tE (zp .Gt (eB1 j3 (eV 1)) (eC (.int 40)))) (tE (zp .NotEq (qf 1 [] (.one 0) (iE (eV 1)) [(tE (zp .NotIn (eV 0) (eC (.str "0123456789"))))] (eV 0)) (qm []))))) [(zu (eC .non))] []),(sIf (yy (tE (zp .Eq (eIx (eV 1) (eC (.int 0))) (eC (.str "0")))) (tE (zp .NotEq (eV 0) (eC (.str "0"))))) [(zu (eC .non))] []),(zu (eB1 vP (eV 0)))]
noncomputable def qy:Fn:=fnW 1 1 q9
@[reducible] noncomputable def qY:List Ds:=[(zu (XC (eCh (eC (.int 1)) [(.LtE,(eB1 j3 (eV 0))),(.LtE,(eC (.int 8)))]) (zp .Eq (qf 1 [] (.one 0) (iE (eV 0)) [(tE (zp .NotIn (eV 0) (eC (.str "abcdefghijklmnopqrstuvwxyz"))))] (eV 0)) (qm []))))]
noncomputable def qa:Fn:=fnW 1 0 qY
@[reducible] noncomputable def zN:List Ds:=[(zo 1 (Ve (Xf [((eC (.str "lease")),(eC (.int 5))),((eC (.str "ask")),(eC (.int 4))),((eC (.str "store")),(eC (.int 4))),((eC (.str "take")),(eC (.int 4))),((eC (.str "back")),(eC (.int 3))),((eC (.str "fall")),(eC (.int 3))),((eC (.str "bare")),(eC (.int 3)))]) (eIx (zi .Add (eV 0) (qm [(eC (.str ""))])) (eC (.int 0))) (eC (.int 0)))),(sIf (tOr (tE (zp .Eq (eV 1) (eC (.int 0)))) (tOr (tE (zp .NotEq (eB1 j3 (eV 0)) (eV 1))) (wz (tE (za qa [(eIx (eV 0) (eC (.int 2)))]))))) [(zu (eC .non))] []),(zo 2 (wW 1 [] (.one 0) (iE (zi .Add (eSl (eV 0) (pS (eC (.int 1))) (pS (eC (.int 2)))) (eSl (eV 0) (pS (eC (.int 3))) pN))) [] (za qy [(eV 0)]))),(sIf (yy (tE (zp .Eq (eV 1) (eC (.int 5)))) (tE (zp .Eq (eIx (eV 0) (eC (.int 3))) (eC (.str "any"))))) [(Ww (eV 2) (eC (.int 1)) (eC (.str "any")))] []),(sIf (tE (eC2 y6 (eC .non) (eV 2))) [(zu (eC .non))] []),(zo 3 (zi .Add (vC [(eIx (eV 0) (eC (.int 0))),(eIx (eV 2) (eC (.int 0))),(eIx (eV 0) (eC (.int 2)))]) (eB1 jr (eSl (eV 2) (pS (eC (.int 1))) pN)))),(sIf (yy (tE (zp .Eq (eV 1) (eC (.int 5)))) (tE (zp .Eq (eIx (eV 0) (eC (.int 3))) (eC (.str "any"))))) [(zo 3 (zi .Add (zi .Add (eSl (eV 3) pN (pS (eC (.int 3)))) (vC [(eC .non)])) (eSl (eV 3) (pS (eC (.int 4))) pN)))] []),(zu (eV 3))]
noncomputable def wd:Fn:=fnW 1 3 zN
@[reducible] noncomputable def wB:List Ds:=[(zo 2 (qm [(eC (.str "any")),(eC (.str "none")),(eC (.str "lease")),(eC (.str "leases")),(eC (.str "0")),(eC (.str "-0")),(eC (.str "05")),(eC (.str "-7")),(eC (.str "+7")),(eC (.str "7.0")),(eC (.str "")),(eC (.str "anna")),(eC (.str "Anna")),(eC (.str "abcdefghi")),(eC (.str "a1"))])),(zo 2 (zi .Add (eV 2) (qm [(xZ (eC (.str "1")) (eC (.int 40))),(xZ (eC (.str "1")) (eC (.int 41))),(zi .Add (eC (.str "-")) (xZ (eC (.str "1")) (eC (.int 40)))),(eC (.str "runs")),(eC (.str "-"))]))),(zo 3 (za zr [(eV 0),(eC (.int 5))])),(zo 4 (za zr [(eV 0),(eB1 j3 (eV 1))])),(sIf (tE (zp .Eq (eV 3) (eC (.int 0)))) [(zu (zi .Add (eSl (eV 1) pN (pS (eV 4))) (eSl (eV 1) (pS (zi .Add (eV 4) (eC (.int 1)))) pN)))] []),(sIf (tE (zp .Eq (eV 3) (eC (.int 1)))) [(zu (zi .Add (eSl (eV 1) pN (pS (zi .Add (eV 4) (eC (.int 1))))) (eSl (eV 1) (pS (eV 4)) pN)))] []),(zu (zi .Add (zi .Add (eSl (eV 1) pN (pS (eV 4))) (qm [(eIx (eV 2) (za zr [(eV 0),(eC (.int 20))]))])) (eSl (eV 1) (pS (zi .Add (eV 4) (zi .Mod (eV 3) (eC (.int 2))))) pN)))]
noncomputable def qb:Fn:=fnW 2 3 wB
@[reducible] noncomputable def jO:List Ds:=[(zo 1 (eC .non)),(zo 2 (QU (eC (.int 1)))),(X5 [(zo 1 (za zV [(eV 0)]))] [([14],some 3,[(zo 2 (WH 14 28 (eV 3)))])]),(zu (vC [(eV 1),(eV 2)]))]
noncomputable def zK:Fn:=fnW 1 3 jO
@[reducible] noncomputable def jF:List Ds:=[(zu (zp .NotEq (qf 1 [] (.one 0) (iE (eV 0)) [(tE (x_ [1] (eV 0)))] (eV 0)) (qm [])))]
noncomputable def wa:Fn:=fnW 1 0 jF
@[reducible] noncomputable def xn:List Ds:=[(Yb (.one 1) (iE (zi .Add (qm [(eC (.int 0))]) (eSl (eV 0) pN (pS (eC (.int 16)))))) [(zo 2 (za w_ [(eV 1)])),(zo 3 (za yf [(eV 2)])),(zo 4 (za wj [(eV 3)])),(zo 5 (vU (eC (.str " ")) (eV 4))),(sIf (tOr (tE (zp .NotEq (za qc [(eV 3)]) (eV 5))) (tE (zp .NotEq (za qc [(eV 3)]) (eV 5)))) [(zu (eC (.bl false)))] []),(zo 6 (za zV [(eV 5)])),(sIf (tOr (wz (tE (x_ [4] (eV 6)))) (tOr (tE (zp .NotEq (eV 6) (eV 3))) (tE (za wa [(eV 6)])))) [(zu (eC (.bl false)))] []),(zo 4 (za qb [(eV 2),(eV 4)])),(zo 7 (za wd [(eV 4)])),(sIf (tE (zp .NotEq (za zK [(vU (eC (.str " ")) (eV 4))]) (vC [(eV 7),(eIx (qm [(QU (eC (.int 1))),(eC (.int 0))]) (eB1 vP (zp .Is (eV 7) (eC .non))))]))) [(zu (eC (.bl false)))] []),(zo 8 (qm [(zi .Add (eC (.str " ")) (eV 5)),(zi .Add (eV 5) (eC (.str " "))),(zi .Add (eV 5) (eC (.str "\n"))),(JC xI xx (eV 5)),(eC .non),(eC (.int 5)),(qm [(eV 5)]),(eV 3),(eC (.str ""))])),(sIf (tE (zp .NotEq (za zK [(eIx (eV 8) (za zr [(eV 2),(eC (.int 9))]))]) (vC [(eC .non),(eC (.int 0))]))) [(zu (eC (.bl false)))] [])]),(zu (eC (.bl true)))]
noncomputable def vw:Fn:=fnW 1 8 xn
end NH.P
namespace NH.K81
open PySem PySem.Spec PyProof.Rows L2 NH NH.P
noncomputable def st(i:Nat):Stmt:=PySem.Challenge.pw_namehouses_k81_rows_as_texts.main.body.getD i (.Pass ⟨0,0,0,0⟩)
noncomputable def cls:List (Str×Nat):=[("NoText",14),("bool",1),("str",3),("tuple",4)]
noncomputable def fld:List (Str×Nat):=[("line",28)]
noncomputable def RU:Rules:=⟨[KH,Wd,V4,WR,KR,Wt,WD,z0B,Xm,z0z,rUn,KD,UZ,z0b,Ub,z04,Um,z0n,X0,US,X4,rJoin,Wr,z09,W2,WA,We],[yN,KA],[QM],[Vw,riE],[Ks],[KU,KL,UJ,KN,Km,uA,Kx]⟩
theorem Kk{D:DP}:RulesOk D RU:=⟨⟨QE,WN,V7,QK,QI,V6,Vu,JI,VY,Jd,Xd,Qx,JQ,JW,J2,Jf,Jk,J7,Qw,Ja,Kc,Vx,VP,Kj,Qj,Z_,ZT,trivial⟩,⟨ZY,Vr,trivial⟩,⟨ZN,trivial⟩,⟨Vy,YV,trivial⟩,⟨QH,trivial⟩,⟨QC,V8,J_,VR,QL,Qb,V0,trivial⟩⟩
noncomputable def gs0:List (Str×GM):=u_ ["ValueError","all","bool","int","isinstance","len","range","str","tuple"] [("HouseError",10)] [("NoText",14,28)]
noncomputable def z_:=inClass (st 2) 0
noncomputable def gs1:List (Str×GM):=(hash "NoText",GM.xin 14 28 "NoText" "line")::gs0
noncomputable def gs2:List (Str×GM):=(hash "line",GM.xin 14 28 "NoText" "line")::gs1
noncomputable def gs3:List (Str×GM):=("LETTERS",GM.cst (.str "abcdefghijklmnopqrstuvwxyz"))::gs2
noncomputable def gs4:List (Str×GM):=("LONGEST_HOLDER",GM.cst (.int 8))::gs3
noncomputable def vS:=st 6
noncomputable def yF:Cn:=cn cls fld gs4 ["thing"] ["isinstance","str","len","LONGEST_HOLDER","all"] [] []
theorem ym:zD ((comp RU 60).s yF) (zd vS)=some vR:=by kernel_rfl
noncomputable def gs5:List (Str×GM):=("is_holder",GM.fn wo)::gs4
noncomputable def gs6:List (Str×GM):=("LENGTHS",GM.tbl [("lease",5),("ask",4),("store",4),("take",4),("back",3),("fall",3),("bare",3)])::gs5
noncomputable def gs7:List (Str×GM):=("WORD",GM.cst (.int 0))::gs6
noncomputable def jS:=st 10
noncomputable def yS:Cn:=cn cls fld gs7 ["parts"] ["len","isinstance","WORD","str","LENGTHS"] [] []
theorem uz:zD ((comp RU 60).s yS) (zd jS)=some jC:=by kernel_rfl
noncomputable def gs8:List (Str×GM):=("has_form",GM.fn vg)::gs7
noncomputable def gs9:List (Str×GM):=("BLANK",GM.cst (.str " "))::gs8
noncomputable def Ut:List (Str×GM):=("NO_HOUSE",GM.cst (.str "any"))::gs9
noncomputable def UB:List (Str×GM):=("FIGURES",GM.cst (.str "0123456789"))::Ut
noncomputable def Xq:List (Str×GM):=("MOST_FIGURES",GM.cst (.int 40))::UB
noncomputable def vT:=st 16
noncomputable def yB:Cn:=cn cls fld Xq ["word","figures"] ["len","MOST_FIGURES","all"] [] []
theorem yH:zD ((comp RU 60).s yB) (zd vT)=some we:=by kernel_rfl
noncomputable def Y4:List (Str×GM):=("is_number",GM.fn wu)::Xq
noncomputable def vt:=st 17
noncomputable def xQ:Cn:=cn cls fld Y4 ["thing"] ["isinstance","str","NoText"] [] []
theorem xO:zD ((comp RU 60).s xQ) (zd vt)=some vk:=by kernel_rfl
noncomputable def Xg:List (Str×GM):=("check_text",GM.fn zZ)::Y4
noncomputable def wF:=st 18
noncomputable def kr:Cn:=cn cls fld Xg ["word"] ["is_number","NoText","int"] [] []
theorem ky:zD ((comp RU 60).s kr) (zd wF)=some wG:=by kernel_rfl
noncomputable def YB:List (Str×GM):=("read_number",GM.fn zQ)::Xg
noncomputable def kh:=st 19
noncomputable def uw:Cn:=cn cls fld YB ["row"] ["BLANK"] [] []
theorem uQ:zD ((comp RU 60).s uw) (zd kh)=some ju:=by kernel_rfl
noncomputable def Xs:List (Str×GM):=("show_row",GM.fn qc)::YB
noncomputable def vQ:=st 21
noncomputable def yx:Cn:=cn cls fld Xs ["words"] ["NO_HOUSE","read_number"] [] []
theorem yz:zD ((comp RU 60).s yx) (zd vQ)=some j2:=by kernel_rfl
noncomputable def XG:List (Str×GM):=("read_rest",GM.fn zS)::Xs
noncomputable def jw:=st 20
noncomputable def ud:Cn:=cn cls fld XG ["text","words"] ["check_text","BLANK","has_form","is_holder","NoText","tuple","read_number","read_rest"] [] []
theorem uP:zD ((comp RU 60).s ud) (zd jw)=some wL:=by kernel_rfl
noncomputable def Y0:List (Str×GM):=("read_row",GM.fn zV)::XG
noncomputable def kT:=st 24
noncomputable def Qn:Cn:=cn cls fld Y0 ["_law_cell"] [] [] ["return"]
theorem ZJ:zD ((comp RU 60).s Qn) (zd kT)=some kH:=by kernel_rfl
noncomputable def Y6:List (Str×GM):=("_law_begin",GM.fn w_)::Y0
noncomputable def yi:=st 25
noncomputable def Wc:Cn:=cn cls fld Y6 ["_law_state","_law_base","_law_found","_law_number_here"] [] [] []
theorem Vl:zD ((comp RU 60).s Wc) (zd yi)=some yL:=by kernel_rfl
noncomputable def YE:List (Str×GM):=("_law_next",GM.fn zr)::Y6
noncomputable def jG:=st 26
noncomputable def uT:Cn:=cn cls fld YE ["_law_state","_law_letters","_law_way","_law_some","_law_word","_law_at"] ["_law_next","len","range"] ["_law_state","_law_letters"] []
theorem yX:zD ((comp RU 60).s uT) (zd jG)=some jx:=by kernel_rfl
noncomputable def U7:List (Str×GM):=("_law_holder",GM.fn vj)::YE
noncomputable def jN:=st 27
noncomputable def ur:Cn:=cn cls fld U7 ["_law_state","_law_small","_law_far"] ["_law_next"] [] []
theorem ui:zD ((comp RU 60).s ur) (zd jN)=some jI:=by kernel_rfl
noncomputable def Yw:List (Str×GM):=("_law_number",GM.fn ql)::U7
noncomputable def Zm:=st 28
noncomputable def JK:Cn:=cn cls fld Yw ["_law_state","_law_word","_law_row_here"] ["_law_next","_law_number","_law_holder"] [] []
theorem JP:zD ((comp RU 60).s JK) (zd Zm)=some Zq:=by kernel_rfl
noncomputable def X3:List (Str×GM):=("_law_row",GM.fn yf)::Yw
noncomputable def xr:=st 29
noncomputable def Q0:Cn:=cn cls fld X3 ["_law_row_here"] [] [] []
theorem Qk:zD ((comp RU 60).s Q0) (zd xr)=some xq:=by kernel_rfl
noncomputable def Yj:List (Str×GM):=("_law_words",GM.fn wj)::X3
noncomputable def wJ:=st 30
noncomputable def kD:Cn:=cn cls fld Yj ["_law_word","_law_figures"] ["len","int"] [] []
theorem kE:zD ((comp RU 60).s kD) (zd wJ)=some q9:=by kernel_rfl
noncomputable def YD:List (Str×GM):=("_law_number_of",GM.fn qy)::Yj
noncomputable def qW:=st 31
noncomputable def j6:Cn:=cn cls fld YD ["_law_word"] ["len"] [] []
theorem j4:zD ((comp RU 60).s j6) (zd qW)=some qY:=by kernel_rfl
noncomputable def Ui:List (Str×GM):=("_law_is_holder",GM.fn qa)::YD
noncomputable def jy:=st 32
noncomputable def uk:Cn:=cn cls fld Ui ["_law_words_here","_law_many","_law_numbers","_law_row_here"] ["len","_law_is_holder","tuple"] [] ["_law_numbers"]
theorem uK:zD ((comp RU 60).s uk) (zd jy)=some zN:=by kernel_rfl
noncomputable def XH:List (Str×GM):=("_law_due",GM.fn wd)::Ui
noncomputable def wD:=st 33
noncomputable def kq:Cn:=cn cls fld XH ["_law_state","_law_words_here","_law_some","_law_way","_law_at"] ["_law_next","len"] [] []
theorem km:zD ((comp RU 60).s kq) (zd wD)=some wB:=by kernel_rfl
noncomputable def Uh:List (Str×GM):=("_law_changed",GM.fn qb)::XH
noncomputable def k9:=st 34
noncomputable def yR:Cn:=cn cls fld Uh ["_law_text","_law_found","_law_line","e"] ["read_row","NoText"] [] []
theorem uV:zD ((comp RU 60).s yR) (zd k9)=some jO:=by kernel_rfl
noncomputable def Ym:List (Str×GM):=("_law_told",GM.fn zK)::Uh
noncomputable def jQ:=st 35
noncomputable def uZ:Cn:=cn cls fld Ym ["_law_row_here"] [] [] []
theorem yZ:zD ((comp RU 60).s uZ) (zd jQ)=some jF:=by kernel_rfl
noncomputable def z07:List (Str×GM):=("_law_truths",GM.fn wa)::Ym
noncomputable def zT:=st 36
noncomputable def Q8:Cn:=cn cls fld z07 ["_law_script","_law_cell","_law_state","_law_row_here","_law_words_here","_law_text","_law_found","_law_due_here","_law_odd"] ["_law_begin","_law_row","_law_words","show_row","read_row","isinstance","tuple","_law_truths","_law_changed","_law_due","_law_told","int","_law_next"] [] []
theorem Qs:zD ((comp RU 60).s Q8) (zd zT)=some xn:=by kernel_rfl
end NH.K81
namespace NH
open PySem PySem.Spec PyProof.Rows L2
theorem qd{p:Prop}{i:Decidable p}{A B:Prop}(h1:p->A)(h2:¬p->B):brW (decide p) A B:=by
 cases i with
 |isTrue h=>exact h1 h
 |isFalse h=>exact h2 h
theorem zG{p:Prop}{i:Decidable p}{A B:Prop}(h:p)(a:A):brW (decide p) A B:=qd (λ_=>a) λn=>absurd h n
theorem zH{p:Prop}{i:Decidable p}{A B:Prop}(h:¬p)(b:B):brW (decide p) A B:=qd (λy=>absurd y h) λ_=>b
theorem vm{p:Prop}{i:Decidable p}{A B:Prop}(h1:p->B)(h2:¬p->A):brW (!decide p) A B:=by
 cases i with
 |isTrue h=>exact h1 h
 |isFalse h=>exact h2 h
theorem qv{p:Prop}{i:Decidable p}{A B:Prop}(h:p)(b:B):brW (!decide p) A B:=vm (λ_=>b) λn=>absurd h n
theorem qK{p:Prop}{i:Decidable p}{A B:Prop}(h:¬p)(a:A):brW (!decide p) A B:=vm (λy=>absurd y h) λ_=>a
theorem ve{b:Bool}{A B:Prop}(h1:b=true->A)(h2:b=false->B):brW b A B:=by
 cases b with
 |true=>exact h1 rfl
 |false=>exact h2 rfl
theorem z0P{b:Bool}{A B:Prop}(h:b=true)(a:A):brW b A B:=by rw[h];exact a
theorem z0F{b:Bool}{A B:Prop}(h:b=false)(a:B):brW b A B:=by rw[h];exact a
theorem qH{tg:Tg}{g:Sl->Mem->RE (Option T)}{lv:Mem->Prop}{τ:Sl}{μ:Mem}{Z:Xp}(f:T->Option T){xs:List T}{K:List T->Mem->Prop}
  (h:∀x∈xs,∀k:Option T->Mem->Prop,k (f x) μ->∃τ',asg tg x τ=some τ'/\g τ' μ k Z) (k:K (xs.filterMap f) μ) (hl:lv μ:=by trivial):zx tg g lv τ xs μ K Z:=by
 induction xs generalizing K with
 |nil=>exact k
 |cons x r ih=>
  unfold zx
  obtain⟨τ',e,hg⟩:=h x List.mem_cons_self (λo μ1=>lv μ1/\(match o with
   |some y=>(zx tg g lv τ r μ1).bind λys μ2=>RE.ok (y::ys) μ2
   |none=>zx tg g lv τ r μ1) K Z) (by
    refine⟨hl,?_⟩
    cases q:f x with
    |none=>
     rw[List.filterMap_cons_none q] at k
     exact ih (λy hy=>h y (List.mem_cons_of_mem _ hy)) k
    |some y=>
     rw[List.filterMap_cons_some q] at k
     exact ih (K:=λys μ2=>K (y::ys) μ2) (λy hy=>h y (List.mem_cons_of_mem _ hy)) k)
  exact⟨τ',e,hg⟩
theorem wm{tg:Tg}{g:Sl->Mem->RE (Option T)}{lv:Mem->Prop}{τ:Sl}{μ:Mem}{Z:Xp}(f:T->T){xs:List T}{K:List T->Mem->Prop}
  (h:∀x∈xs,∀k:Option T->Mem->Prop,k (some (f x)) μ->∃τ',asg tg x τ=some τ'/\g τ' μ k Z) (k:K (xs.map f) μ) (hl:lv μ:=by trivial):zx tg g lv τ xs μ K Z:=
 qH (λx=>some (f x)) h (by rw[List.filterMap_eq_map'];exact k) hl
theorem ZV{tg:Tg}{g:Sl->Mem->RE (Option T)}{lv:Mem->Prop}{τ:Sl}{Z:Xp}(I:Nat->List T->Mem->Prop){xs:List T}{K:List T->Mem->Prop}{μ:Mem}
  (h0:I 0 [] μ) (h:∀i x ys μ,xs[i]?=some x->I i ys μ->∀k:Option T->Mem->Prop,(∀o μ',I (i+1) (match o with|some y=>ys++[y]|none=>ys) μ'->k o μ')->∃τ',asg tg x τ=some τ'/\g τ' μ k Z)
  (k:∀ys μ',I xs.length ys μ'->K ys μ') (hl:∀i ys μ,I i ys μ->lv μ:=by intros;trivial):zx tg g lv τ xs μ K Z:=by
 have go:∀(rest:List T) (i:Nat) (ys:List T) (μ:Mem) (K:List T->Mem->Prop),xs.drop i=rest->i<=xs.length->I i ys μ->(∀zs μ',I xs.length (ys++zs) μ'->K zs μ')->zx tg g lv τ rest μ K Z:=by
  intro rest
  induction rest with
  |nil=>
   intro i ys μ K hd hi hI hK
   have:i=xs.length:=by
    have:=congrArg List.length hd
    simp at this;omega
   subst this
   exact hK [] μ (by simpa using hI)
  |cons x r ih=>
   intro i ys μ K hd hi hI hK
   have hx:xs[i]?=some x:=by
    have:(xs.drop i)[0]?=some x:=by rw[hd];rfl
    simpa using this
   have hlt:i<xs.length:=(List.getElem?_eq_some_iff.mp hx).1
   have hd':xs.drop (i+1)=r:=by
    have:(xs.drop i).tail=r:=by rw[hd];rfl
    simpa using this
   unfold zx
   refine h i x ys μ hx hI _ λo μ' hI'=>⟨hl _ _ _ hI',?_⟩
   cases o with
   |none=>exact ih (i+1) ys μ' K hd' hlt hI' hK
   |some y=>exact ih (i+1) (ys++[y]) μ' _ hd' hlt hI' λzs μ2 hz=>hK (y::zs) μ2 (by simpa using hz)
 exact go xs 0 [] μ K rfl (Nat.zero_le _) h0 λzs μ' hz=>k zs μ' (by simpa using hz)
theorem Wy{tg:Tg}{body:Ds}{lv:Mem->Prop}{xs:List T}{τ:Sl}{μ:Mem}{E:En}(I:Nat->Sl->Mem->Prop)(h0:I 0 τ μ)
  (h:∀i x τ μ,xs[i]?=some x->I i τ μ->∀N:Sl->Mem->Prop,(∀τ μ,I (i+1) τ μ->N τ μ)->∃τ',asg tg x τ=some τ'/\body τ' μ (E.turn N))
  (k:∀τ μ,I xs.length τ μ->E.nx τ μ) (hl:∀i τ μ,I i τ μ->lv μ:=by intros;trivial):forM tg body lv xs τ μ E:=by
 have go:∀(rest:List T) (i:Nat) (τ:Sl) (μ:Mem),xs.drop i=rest->i<=xs.length->I i τ μ->forM tg body lv rest τ μ E:=by
  intro rest
  induction rest with
  |nil=>
   intro i τ μ hd hi hI
   have:i=xs.length:=by
    have:=congrArg List.length hd
    simp at this;omega
   subst this
   exact k τ μ hI
  |cons x r ih=>
   intro i τ μ hd hi hI
   have hx:xs[i]?=some x:=by
    have:(xs.drop i)[0]?=some x:=by rw[hd];rfl
    simpa using this
   have hlt:i<xs.length:=(List.getElem?_eq_some_iff.mp hx).1
   have hd':xs.drop (i+1)=r:=by
    have:(xs.drop i).tail=r:=by rw[hd];rfl
    simpa using this
   exact h i x τ μ hx hI _ λτ2 μ2 z=>⟨hl _ _ _ z,ih (i+1) τ2 μ2 hd' hlt z⟩
 exact go xs 0 τ μ rfl (Nat.zero_le _) h0
end NH
namespace NH.P
open PySem L2 NH
section
local macro_rules | `(tactic| walk_at "grd") => `(tactic| first | decide | exact Or.inl (by decide) | exact Or.inr (by decide) | omega | (simp only [big, room]; omega) | fail)
local macro_rules | `(tactic| walk_at "go") => `(tactic| repeat' (first | (with_reducible refine ⟨_, rfl, ?_⟩) | (with_reducible refine ⟨?w, ?h, ?_⟩; case h => exact rfl) | (with_reducible refine And.intro ?_ ?_; walk_at "grd") | (with_reducible refine qv ?_ ?_; rfl) | (with_reducible refine zG ?_ ?_; rfl) | (with_reducible refine qK ?_ ?_; decide) | (with_reducible refine zH ?_ ?_; decide) | fail))
variable {μ:Mem}{K:T->Mem->Prop}{Z:Xp}
theorem uH{n:Int}:(rangeT n).length=n.toNat:=by simp[rangeT]
noncomputable def isL(z:Str):Bool:=!(Builtin.Str.occurrences "abcdefghijklmnopqrstuvwxyz" z 0 (Str.length "abcdefghijklmnopqrstuvwxyz") 1).isEmpty
noncomputable def sgn(z:Str):List Str:=z.cps.toList.map λc=>⟨#[c]⟩
theorem wt(z:Str):q_ z=(sgn z).map T.str:=by simp[q_,sgn]
theorem jk(z:Str):(sgn z).length=z.length:=by simp[sgn,Str.length]
noncomputable def zj(z:Str):Bool:=decide (1<=(z.length:Int))&&decide ((z.length:Int)<=8)&&(sgn z).all isL
theorem vy{α:Type}(f:α->Bool):∀xs:List α,bools (xs.map λx=>T.bl (f x))=some (xs.map f)
 |[]=>rfl
 |x::r=>by simp[bools,vy f r]
theorem qD{z:Str}(hz:z.length<=room)(q:K (.bl (zj z)) μ):wo [.str z] μ K Z:=by
 unfold wo
 refine⟨rfl,?_⟩
 unfold zj at q
 refine⟨hz,?_⟩
 refine qd (λh1=>?_) (λh1=>?_)
 ·refine vm (λh2=>?_) (λh2=>?_)
  ·show (q_ z).length<=room/\_
   rw[wt]
   refine⟨by rw[List.length_map,jk];exact hz,?_⟩
   refine wm (λx=>match x with|.str y=>.bl (isL y)|t=>t) (λx hx k hk=>?_) ?_
   ·obtain⟨y,hy,rfl⟩:=List.mem_map.mp hx
    exact⟨_,rfl,hk⟩
   ·rw[List.map_map]
    refine⟨_,vy isL (sgn z),?_⟩
    rw[decide_eq_true h1,decide_eq_true h2] at q
    rw[List.all_map]
    exact q
  ·have q:K (.bl false) μ:=by simpa[h2] using q
   exact q
 ·have q:K (.bl false) μ:=by simpa[h1] using q
  exact q
theorem jE{α:Type}{xs:List α}{k:Int}(h0:0<=k)(h1:k<xs.length):wy xs k=xs[k.toNat]?:=by
 unfold wy JZ
 rw[if_pos h0,if_pos h1]
 rfl
theorem VB{α:Type}{xs:List α}{k:Int}{n:Nat}{P:α->Prop}(hl:xs.length=n)(h0:0<=k)(h1:k<n)(q:∀c,xs[k.toNat]?=some c->P c):∃c,wy xs k=some c/\P c:=by
 rw[jE h0 (by omega)]
 exact⟨xs[k.toNat]'(by omega),by simp,q _ (by simp)⟩
theorem Zj(c:Nat):(⟨#[c]⟩:Str).length=1:=rfl
theorem y9{α:Type}{xs:List α}{lo hi:Option Int}{x:α}(h:x∈zU xs lo hi):x∈xs:=List.mem_of_mem_drop (List.mem_of_mem_take h)
end
section
local macro_rules | `(tactic| walk_at "grd") => `(tactic| first | decide | exact Or.inl (by decide) | exact Or.inr (by decide) | omega | (simp only [big, room]; omega) | fail)
local macro_rules | `(tactic| walk_at "go") => `(tactic| repeat' (first | (with_reducible refine ⟨_, rfl, ?_⟩) | (with_reducible refine ⟨?w, ?h, ?_⟩; case h => exact rfl) | (with_reducible refine And.intro ?_ ?_; walk_at "grd") | (with_reducible refine qv ?_ ?_; rfl) | (with_reducible refine zG ?_ ?_; rfl) | (with_reducible refine qK ?_ ?_; decide) | (with_reducible refine zH ?_ ?_; decide) | fail))
variable {μ μ1 μ2:Mem}{K:T->Mem->Prop}{Z:Xp}
theorem y0:∀(xs:List Str) (a:Array Nat),xs.foldl (λacc p=>acc++(Str.empty).cps++p.cps) a=a++(xs.map (·.cps.toList)).flatten.toArray
 |[],a=>by simp
 |x::xs,a=>by
  rw[List.foldl_cons,y0 xs]
  apply Array.ext'
  simp[Str.empty]
theorem Qd:∀(xs:List Str),Txt.join Str.empty xs=⟨((xs.map (·.cps.toList)).flatten).toArray⟩
 |[]=>by
  show (⟨([]:List Str).foldl _ (Str.empty).cps⟩:Str)=_
  simp[Str.empty]
 |x::xs=>by
  show (⟨xs.foldl (λacc p=>acc++(Str.empty).cps++p.cps) x.cps⟩:Str)=_
  rw[y0]
  simp
noncomputable def St (μ:Mem)(i:Nat):Prop:=∃a b c:Int,μ[i]?=some (.lst [.int a,.int b,.int c])
structure Up(μ:Mem)(i:Nat)(μ':Mem):Prop where
 len:μ'.length=μ.length
 ot:∀j,j≠i->μ'[j]?=μ[j]?
 st:St μ' i
theorem Up.trans{i:Nat}(a:Up μ i μ1)(b:Up μ1 i μ2):Up μ i μ2:=⟨b.len.trans a.len,λj h=>(b.ot j h).trans (a.ot j h),b.st⟩
theorem get_set{i:Nat}{x y:MO}(h:μ[i]?=some x):(μ.set i y)[i]?=some y:=by
 have:=(List.getElem?_eq_some_iff.mp h).1
 simp[this]
theorem Up.set{i:Nat}{x:MO}{a b c:Int}(h:μ[i]?=some x):Up μ i (μ.set i (.lst [.int a,.int b,.int c])):=⟨by simp,λj hj=>by rw[List.getElem?_set_ne (Ne.symm hj)],a,b,c,get_set h⟩
theorem zw{x:MO}:(μ++[x])[μ.length]?=some x:=by rw[List.getElem?_append_right (Nat.le_refl _)];simp
theorem uO{c:Int}(q:∀x y,K (.mut μ.length) (μ++[.lst [.int x,.int y,.int 0]])):w_ [.int c] μ K Z:=by
 unfold w_
 refine⟨rfl,?_⟩
 walk_at "go"
 exact q _ _
theorem qj{i:Nat}{base:Int}(hs:St μ i)(h0:0<base)(h1:base<1073741824)(q:∀v μ',0<=v->v<base->Up μ i μ'->K (.int v) μ'):zr [.mut i,.int base] μ K Z:=by
 obtain⟨a,b,c,h⟩:=hs
 have mn:∀x:Int,0<=x % base/\x % base<base:=λx=>⟨Int.emod_nonneg _ (by omega),Int.emod_lt_of_pos _ h0⟩
 unfold zr
 refine⟨rfl,?_⟩
 refine⟨_,_,h,rfl,?_⟩
 refine qd (λh2=>?_) (λh2=>?_)
 ·refine⟨_,_,h,rfl,h0,?_⟩
  refine⟨_,_,h,rfl,⟨h0,by omega⟩,?_⟩
  refine⟨_,h,by simp,?_⟩
  exact q _ _ (mn _).1 (mn _).2 (Up.set h)
 ·refine⟨_,_,h,rfl,?_⟩
  refine⟨_,h,by simp,?_⟩
  refine⟨_,_,get_set h,rfl,?_⟩
  refine⟨_,_,get_set h,rfl,?_⟩
  walk_at "go"
  exact q _ _ (mn _).1 (mn _).2 (Up.set h)
end
section
local macro_rules | `(tactic| walk_at "grd") => `(tactic| first | decide | exact Or.inl (by decide) | exact Or.inr (by decide) | omega | (simp only [big, room]; omega) | fail)
local macro_rules | `(tactic| walk_at "go") => `(tactic| repeat' (first | (with_reducible refine ⟨_, rfl, ?_⟩) | (with_reducible refine ⟨?w, ?h, ?_⟩; case h => exact rfl) | (with_reducible refine And.intro ?_ ?_; walk_at "grd") | (with_reducible refine qv ?_ ?_; rfl) | (with_reducible refine zG ?_ ?_; rfl) | (with_reducible refine qK ?_ ?_; decide) | (with_reducible refine zH ?_ ?_; decide) | fail))
variable {μ μ1 μ2:Mem}{K:T->Mem->Prop}{Z:Xp}
theorem vD:∀ns:List Str,zL (ns.map T.str)=0
 |[]=>rfl
 |n::r=>by simp[zL,qR,vD r]
theorem qo:∀zs:List Str,strsOf (zs.map T.str)=some zs
 |[]=>rfl
 |z::r=>by simp[strsOf,qo r]
end
section
variable {μ μ1 μ2:Mem}{K:T->Mem->Prop}{Z:Xp}
theorem x6{l:List T}:eqL l []=some l.isEmpty:=by
 cases l<;>rfl
theorem kf{α:Type}(p:α->Bool):∀xs:List α,(xs.filterMap λy=>if p y=true then none else some y).isEmpty=xs.all p
 |[]=>rfl
 |x::r=>by
  cases h:p x with
  |true=>simp[h];simpa using kf p r
  |false=>simp[h]
theorem Qc{ns:List Int}{i:Nat}{t:T}{hi:Option Int}(h:([T.int 0]++zU (ns.map T.int) none hi)[i]?=some t):∃c,t=.int c:=by
 rcases List.mem_append.mp (List.mem_of_getElem? h) with h|h
 ·exact⟨0,List.mem_singleton.mp h⟩
 ·obtain⟨n,_,e⟩:=List.mem_map.mp (y9 h)
  exact⟨n,e.symm⟩
end
section
local macro_rules | `(tactic| walk_at "grd") => `(tactic| first | decide | exact Or.inl (by decide) | exact Or.inr (by decide) | omega | (simp only [big, room]; omega) | fail)
local macro_rules | `(tactic| walk_at "go") => `(tactic| repeat' (first | (with_reducible refine ⟨_, rfl, ?_⟩) | (with_reducible refine ⟨?w, ?h, ?_⟩; case h => exact rfl) | (with_reducible refine And.intro ?_ ?_; walk_at "grd") | (with_reducible refine qv ?_ ?_; rfl) | (with_reducible refine zG ?_ ?_; rfl) | (with_reducible refine qK ?_ ?_; decide) | (with_reducible refine zH ?_ ?_; decide) | fail))
variable {μ μ1 μ2:Mem}{K:T->Mem->Prop}{Z:Xp}
theorem zE{tg:Tg}{g:Sl->Mem->RE (Option T)}{lv:Mem->Prop}{τ:Sl}{x:T}{r:List T}{K:List T->Mem->Prop}(h:∃τ',asg tg x τ=some τ'/\g τ' μ (λo μ1=>lv μ1/\(match o with
  |some y=>zx tg g lv τ r μ1 (λys μ2=>K (y::ys) μ2) Z
  |none=>zx tg g lv τ r μ1 K Z)) Z):zx tg g lv τ (x::r) μ K Z:=by
 obtain⟨τ',e,h⟩:=h
 unfold zx
 refine⟨τ',e,?_⟩
 have:(λ(o:Option T) μ1=>lv μ1/\(match o with
  |some y=>zx tg g lv τ r μ1 (λys μ2=>K (y::ys) μ2) Z
  |none=>zx tg g lv τ r μ1 K Z))=λo μ1=>lv μ1/\(match o with
   |some y=>(zx tg g lv τ r μ1).bind λys μ2=>RE.ok (y::ys) μ2
   |none=>zx tg g lv τ r μ1) K Z:=by
  funext o μ1
  cases o<;>rfl
 rw[this] at h
 exact h
theorem qk{tg:Tg}{g:Sl->Mem->RE (Option T)}{lv:Mem->Prop}{τ:Sl}{K:List T->Mem->Prop}(h:K [] μ):zx tg g lv τ [] μ K Z:=by
 unfold zx
 exact h
end
section
variable {μ μ1 μ2:Mem}{K:T->Mem->Prop}{Z:Xp}
noncomputable abbrev cd(z:Str):List Nat:=z.cps.toList
theorem qL(a b:Str):cd (a++b)=cd a++cd b:=by simp[cd,Str.cps_append]
theorem zF(a:Str):(cd a).length=a.length:=by simp[cd,Str.length]
theorem vK{a b:Str}(h:cd a=cd b):a=b:=by
 apply Str.ext'
 exact Array.toList_inj.mp h
end
section
variable {μ μ1 μ2:Mem}{K:T->Mem->Prop}{Z:Xp}{x y z:Int}{i:Nat}
theorem join_cons{c:Nat}{a:Str}{r:List Str}(h:r≠[]):cd (Str.join ⟨#[c]⟩ (a::r))=cd a++c::cd (Str.join ⟨#[c]⟩ r):=by
 cases r with
 |nil=>exact absurd rfl h
 |cons b r=>
  show cd (a++⟨#[c]⟩++Str.join ⟨#[c]⟩ (b::r))=_
  rw[qL,qL]
  simp[cd]
theorem W5{c:Nat}:∀{l m x y:List Nat},c∉l->c∉m->l++c::x=m++c::y->l=m/\x=y
 |[],[],x,y,_,_,e=>⟨rfl,(List.cons.inj e).2⟩
 |[],b::m,x,y,_,hm,e=>by
  have:=(List.cons.inj e).1
  exact absurd (by rw[this];simp) hm
 |a::l,[],x,y,hl,_,e=>by
  have:=(List.cons.inj e).1
  exact absurd (by rw[←this];simp) hl
 |a::l,b::m,x,y,hl,hm,e=>by
  obtain⟨e1,e2⟩:=List.cons.inj e
  obtain⟨f1,f2⟩:=W5 (λw=>hl (List.mem_cons_of_mem _ w)) (λw=>hm (List.mem_cons_of_mem _ w)) e2
  exact⟨by rw[e1,f1],f2⟩
theorem yh{c:Nat}:∀{xs ys:List Str},xs≠[]->ys≠[]->(∀a∈xs,c∉cd a)->(∀a∈ys,c∉cd a)->cd (Str.join ⟨#[c]⟩ xs)=cd (Str.join ⟨#[c]⟩ ys)->xs=ys
 |[],_,h,_,_,_,_=>absurd rfl h
 |_::_,[],_,h,_,_,_=>absurd rfl h
 |a::xs,b::ys,_,_,hx,hy,e=>by
  have ha:=hx a List.mem_cons_self
  have hb:=hy b List.mem_cons_self
  by_cases e1:xs=[]
  ·by_cases e2:ys=[]
   ·subst e1 e2
    have e:cd a=cd b:=e
    rw[vK e]
   ·subst e1
    rw[join_cons e2] at e
    have e:cd a=cd b++c::_:=e
    exact absurd (by rw[e];simp) ha
  ·by_cases e2:ys=[]
   ·subst e2
    rw[join_cons e1] at e
    have e:cd a++c::_=cd b:=e
    exact absurd (by rw[←e];simp) hb
   ·rw[join_cons e1,join_cons e2] at e
    obtain⟨f1,f2⟩:=W5 ha hb e
    rw[vK f1,yh e1 e2 (λa h=>hx a (List.mem_cons_of_mem _ h)) (λa h=>hy a (List.mem_cons_of_mem _ h)) f2]
theorem k8{c:Nat}{xs:List Str}(h:xs≠[])(hx:∀a∈xs,c∉cd a):Txt.split (Txt.join ⟨#[c]⟩ xs) ⟨#[c]⟩=xs:=by
 have e:Txt.join ⟨#[c]⟩ xs=Str.join ⟨#[c]⟩ xs:=StrLaws.glued_eq_join _ _
 rw[e]
 have p:=PyProof.Rows.split_pos (Str.join ⟨#[c]⟩ xs) ⟨#[c]⟩
 refine yh (λw=>by rw[w] at p;simp at p) h (λa ha=>StrLaws.split_free _ c a ha) hx ?_
 rw[StrLaws.join_split]
noncomputable abbrev NLs:Str:="\n"
noncomputable abbrev SPs:Str:=" "
theorem kQ:SPs=⟨#[32]⟩:=by decide +kernel
noncomputable abbrev AZ:Str:="abcdefghijklmnopqrstuvwxyz"
noncomputable def gH(h:Str):Bool:=decide (1<=h.length)&&decide (h.length<=8)&&h.cps.toList.all λc=>decide (97<=c)&&decide (c<=122)
theorem XN:(List.range 123).all (λc=>decide (c<97) || decide (c∈AZ.cps.toList))=true:=by decide +kernel
theorem Ud:AZ.cps.toList.all (λc=>decide (97<=c)&&decide (c<=122))=true:=by decide +kernel
theorem z0y{c:Nat}(h0:97<=c)(h1:c<=122):c∈AZ.cps.toList:=by
 have:=List.all_eq_true.mp XN c (List.mem_range.mpr (by omega))
 simp only[Bool.or_eq_true,decide_eq_true_eq] at this
 rcases this with h|h
 ·omega
 ·exact h
structure GH(h:Str):Prop where
 l1:1<=h.length
 l8:h.length<=8
 az:∀c∈cd h,97<=c/\c<=122
theorem yp{h:Str}(e:gH h=true):GH h:=by
 unfold gH at e
 simp only[Bool.and_eq_true,decide_eq_true_eq,List.all_eq_true] at e
 exact⟨e.1.1,e.1.2,λc hc=>e.2 c hc⟩
theorem GH.hol{h:Str}(g:GH h):zj h=true:=by
 unfold zj
 rw[decide_eq_true (by have:=g.l1;omega),decide_eq_true (by have:=g.l8;omega)]
 simp only[Bool.true_and,List.all_eq_true]
 intro s hs
 obtain⟨c,hc,rfl⟩:=List.mem_map.mp hs
 have:=g.az c hc
 unfold isL
 rw[StrLaws.found_one]
 exact decide_eq_true (z0y this.1 this.2)
theorem GH.free{h:Str}(g:GH h){c:Nat}(hc:c<97):c∉cd h:=λw=>by have:=g.az c w;omega
noncomputable def w1:List Str:=["any","lease","ask","store","take","back","fall","bare","runs","stands","world","judge","who","tell","book","z"]
theorem z08:w1.all gH=true:=by decide +kernel
noncomputable abbrev BI:Str:="bcdefghi"
noncomputable abbrev AXZ:Str:="axz"
noncomputable def w2 (n a k:Nat):Str:=Txt.slice (Txt.slice BI none (some (1+(n:Int)))) none (some (a:Int))++⟨#[AXZ.cps.toList.getD k 0]⟩++Txt.slice (Txt.slice BI none (some (1+(n:Int)))) (some ((a:Int)+1)) none
theorem U5:(List.range 8).all (λn=>decide ((Txt.slice BI none (some (1+(n:Int)))).length=n+1))=true:=by decide +kernel
theorem U_:(List.range 8).all (λn=>(List.range (n+1)).all λa=>(List.range 3).all λk=>gH (w2 n a k))=true:=by decide +kernel
theorem Yt{n:Nat}(h:n<8):(Txt.slice BI none (some (1+(n:Int)))).length=n+1:=of_decide_eq_true (List.all_eq_true.mp U5 n (List.mem_range.mpr h))
theorem UD{n a k:Nat}(h:n<8)(ha:a<n+1)(hk:k<3):GH (w2 n a k):=yp (List.all_eq_true.mp (List.all_eq_true.mp (List.all_eq_true.mp U_ n (List.mem_range.mpr h)) a (List.mem_range.mpr ha)) k (List.mem_range.mpr hk))
theorem qE{i:Nat}{base:Int}(hs:St μ i)(h0:0<base)(h1:base<1073741824)(q:∀(v:Nat) μ',(v:Int)<base->Up μ i μ'->K (.int v) μ'):zr [.mut i,.int base] μ K Z:=
 qj hs h0 h1 λv μ' v0 v1 u=>by
  obtain⟨n,rfl⟩:=Int.eq_ofNat_of_zero_le v0
  exact q n μ' v1 u
theorem z06:∀v:Nat,v<16->∃h,wy ([T.str "any",.str "lease",.str "ask",.str "store",.str "take",.str "back",.str "fall",.str "bare",.str "runs",.str "stands",.str "world",.str "judge"]++[T.str "who",.str "tell",.str "book",.str "z"]) (v:Int)=some (.str h)/\GH h:=by
 have mem:∀h∈w1,GH h:=λh hh=>yp (List.all_eq_true.mp z08 h hh)
 intro v hv
 have hl:w1.length=16:=rfl
 refine⟨w1[v],?_,mem _ (List.getElem_mem _)⟩
 have:v=0\/v=1\/v=2\/v=3\/v=4\/v=5\/v=6\/v=7\/v=8\/v=9\/v=10\/v=11\/v=12\/v=13\/v=14\/v=15:=by omega
 rcases this with rfl|rfl|rfl|rfl|rfl|rfl|rfl|rfl|rfl|rfl|rfl|rfl|rfl|rfl|rfl|rfl<;>rfl
theorem xh{sep:Str}{xs:List Str}(hl:xs.length<=1000)(hx:∀a∈xs,a.length<=1000)(hs:sep.length<=16):JoinOk sep xs=true:=by
 refine PyProof.Rows.joinOk_of_weight ?_ hs
 have:=StrLaws.sumLen_le xs hx
 have h2:xs.length * 1000<=1000 * 1000:=Nat.mul_le_mul_right _ hl
 omega
theorem ZM{i:Nat}(hs:St μ i)(q:∀(h:Str) μ',GH h->Up μ i μ'->K (.str h) μ'):vj [.mut i] μ K Z:=by
 unfold vj
 refine⟨rfl,?_⟩
 refine qE hs (by decide) (by decide) λway μ1 w1' u1=>?_
 refine qd (λe=>?_) (λe=>?_)
 ·refine⟨by decide,?_⟩
  refine qE u1.st (by decide) (by decide) λv μ2 v1 u2=>?_
  obtain⟨h,hh,g⟩:=z06 v (by omega)
  exact⟨_,hh,q h μ2 g (u1.trans u2)⟩
 ·refine qd (λe2=>?_) (λe2=>?_)
  ·refine qE u1.st (by decide) (by decide) λn μ2 n1 u2=>?_
   have hn:n<8:=by omega
   refine⟨by decide,?_⟩
   have bl:=Yt hn
   have br:(Txt.slice BI none (some (1+(n:Int)))).length<=room:=by rw[bl];unfold room;omega
   refine⟨br,?_⟩
   refine qE u2.st (by rw[bl];omega) (by rw[bl];omega) λa μ3 a1 u3=>?_
   rw[bl] at a1
   refine⟨br,?_⟩
   refine qE u3.st (by decide) (by decide) λk μ4 k1 u4=>?_
   refine⟨by decide,?_⟩
   refine VB (n:=3) (by decide +kernel) (by omega) k1 λch hch=>?_
   have s1:=Txt.slice_le (Txt.slice BI none (some (1+(n:Int)))) none (some (a:Int))
   have s2:=Txt.slice_le (Txt.slice BI none (some (1+(n:Int)))) (some ((a:Int)+1)) none
   refine⟨by show (Txt.slice (Txt.slice BI none (some (1+(n:Int)))) none (some (a:Int))).length+1<=room;unfold room;omega,?_⟩
   refine⟨br,?_⟩
   refine⟨by rw[Str.length_append,Zj];show (Txt.slice (Txt.slice BI none (some (1+(n:Int)))) none (some (a:Int))).length+1+(Txt.slice (Txt.slice BI none (some (1+(n:Int)))) (some ((a:Int)+1)) none).length<=room;unfold room;omega,?_⟩
   have ek:AXZ.cps.toList.getD k 0=ch:=by
    rw[List.getD_eq_getElem?_getD]
    have:((k:Int).toNat)=k:=by omega
    rw[this] at hch
    rw[hch];rfl
   have g:=UD hn (show a<n+1 by omega) (show k<3 by omega)
   unfold w2 at g
   rw[ek] at g
   exact q _ μ4 g (((u1.trans u2).trans u3).trans u4)
  ·refine qE u1.st (by decide) (by decide) λn μ2 n1 u2=>?_
   refine⟨⟨by omega,by omega⟩,?_⟩
   have hlr:(rangeT (1+(n:Int))).length=n+1:=by rw[uH];omega
   refine⟨by rw[hlr];unfold room;omega,?_⟩
   refine ZV (λj ys μ'=>∃cs:List Nat,ys=(cs.map λc=>(⟨#[c]⟩:Str)).map T.str/\cs.length=j/\(∀c∈cs,97<=c/\c<=122)/\Up μ i μ') ⟨[],rfl,rfl,by simp,u1.trans u2⟩ ?_ ?_
   ·rintro j t ys μ' hx ⟨cs,rfl,hc,hz,U⟩ kk hkk
    refine⟨_,rfl,?_⟩
    refine qE U.st (by decide) (by decide) λv μ3 v1 u3=>?_
    refine⟨by decide,?_⟩
    refine VB (n:=26) (by decide +kernel) (by omega) v1 λch hch=>?_
    refine hkk _ _ ⟨cs++[ch],by simp,by simp[hc],λc hc'=>?_,U.trans u3⟩
    rcases List.mem_append.mp hc' with w|w
    ·exact hz c w
    ·rw[List.mem_singleton.mp w]
     have:=List.all_eq_true.mp Ud ch (List.mem_of_getElem? hch)
     simpa using this
   ·rintro ys μ' ⟨cs,rfl,hc,hz,U⟩
    rw[hlr] at hc
    refine⟨_,qo _,xh (by simp;omega) (λa ha=>?_) (by decide),?_⟩
    ·obtain⟨c,_,rfl⟩:=List.mem_map.mp ha
     rw[Zj];omega
    ·have e:Txt.join ("":Str) (cs.map λc=>(⟨#[c]⟩:Str))=⟨cs.toArray⟩:=by
      have e0:("":Str)=Str.empty:=rfl
      rw[e0,Qd]
      congr 1
      rw[List.map_map]
      have:((cs.map ((λx=>x.cps.toList) ∘ λc=>(⟨#[c]⟩:Str))).flatten)=cs:=by
       clear hc hz
       induction cs with
       |nil=>rfl
       |cons c r ih=>simp only[List.map_cons,List.flatten_cons,ih];rfl
      rw[this]
     rw[e]
     exact q _ μ' ⟨by show 1<=cs.toArray.size;simp;omega,by show cs.toArray.size<=8;simp;omega,λc hc'=>hz c (by simpa[cd] using hc')⟩ U
end
section
variable {μ μ1 μ2:Mem}{K:T->Mem->Prop}{Z:Xp}{x y z:Int}{i L:Nat}
theorem jZ{t:Str}(q:K .non μ):zZ [.str t] μ K Z:=by
 unfold zZ
 exact⟨rfl,q⟩
end
end NH.P
namespace NH.P
open PySem L2 NH PyProof.Rows
section
variable {μ μ1 μ2:Mem}{K:T->Mem->Prop}{Z:Xp}{i:Nat}
noncomputable abbrev FGs:Str:="0123456789"
noncomputable abbrev MNs:Str:="-"
theorem X1:MNs=⟨#[45]⟩:=by decide +kernel
noncomputable abbrev Z0s:Str:="0"
theorem Kt:Z0s=⟨#[48]⟩:=by decide +kernel
noncomputable def inD (y:Str):Bool:=!(Builtin.Str.occurrences FGs y 0 FGs.length 1).isEmpty
theorem U6:(List.range 58).all (λc=>decide (c<48) || decide (c∈FGs.cps.toList))=true:=by decide +kernel
theorem Xi:FGs.cps.toList.all (λc=>decide (48<=c)&&decide (c<=57))=true:=by decide +kernel
theorem xG(c:Nat):inD ⟨#[c]⟩=decide (48<=c/\c<=57):=by
 unfold inD
 rw[StrLaws.found_one]
 by_cases h:48<=c/\c<=57
 ·rw[decide_eq_true h]
  have:=List.all_eq_true.mp U6 c (List.mem_range.mpr (by omega))
  simp only[Bool.or_eq_true,decide_eq_true_eq] at this
  rcases this with w|w
  ·omega
  ·exact decide_eq_true w
 ·rw[decide_eq_false h]
  refine decide_eq_false λw=>h ?_
  have:=List.all_eq_true.mp Xi c w
  simpa using this
theorem yM{w:Str}:Txt.startswith w MNs=decide ((cd w).head?=some 45):=by
 rw[X1]
 unfold Txt.startswith
 rw[StrLaws.subAt_eq]
 have hl:w.length=(cd w).length:=(zF w).symm
 rw[hl]
 cases h:cd w with
 |nil=>
  rw[show w.cps.toList=[] from h]
  rfl
 |cons c r=>
  rw[show w.cps.toList=c::r from h]
  simp[Str.length]
  by_cases e:c=45
  ·subst e;simp
  ·simp[e]
theorem Vo{w:Str}:Txt.slice w none (some 1)=MNs↔(cd w).head?=some 45:=by
 by_cases h:w.length=0
 ·have e:cd w=[]:=List.eq_nil_of_length_eq_zero (by rw[zF];exact h)
  rw[e]
  constructor
  ·intro x
   have:=congrArg Str.length x
   have l:=Txt.slice_le w none (some 1)
   have:MNs.length=1:=by decide
   omega
  ·intro x;cases x
 ·have s:=beq_iff_eq.mp (slice_closes_toL (x:=w) (j:=1) (by decide) (by omega))
  rw[s,X1]
  have hl:(cd w).length≠0:=by rw[zF];exact h
  cases e:cd w with
  |nil=>rw[e] at hl;exact absurd rfl hl
  |cons c r=>
   rw[show w.cps.toList=c::r from e]
   simp
theorem jX{w:Str}(h:1<=w.length):cd (Txt.slice w (some 1) none)=(cd w).tail:=by
 have s:=slice_from_eq (x:=w) (i:=1) (b:=w.length) (by decide) (by omega) rfl
 rw[s]
 show ((cd w).drop 1).take _=_
 rw[List.take_of_length_le (by rw[List.length_drop,zF];omega),List.drop_one]
noncomputable def fgs(w:Str):Str:=if (cd w).head?=some 45 then Txt.slice w (some 1) none else w
theorem VQ(w:Str):(fgs w).length<=w.length:=by
 unfold fgs
 split
 ·exact Txt.slice_le _ _ _
 ·exact Nat.le_refl _
noncomputable def hd(w:Str):Str:=⟨#[(cd w).headD 0]⟩
noncomputable def z9(w:Str):Bool:=decide (1<=(fgs w).length)&&decide ((fgs w).length<=40)&&(sgn (fgs w)).all inD&&(!decide (hd (fgs w)=Z0s) || decide (w=Z0s))
noncomputable def nv(w:Str):Int:=(intText? w).getD 0
theorem Kn{w:Str}(h:1<=w.length):wy (cd w) 0=some ((cd w).headD 0):=by
 have hl:=zF w
 cases e:cd w with
 |nil=>rw[e] at hl;simp at hl;omega
 |cons c r=>rw[jE (by decide) (by simp)];rfl
theorem KI{w:Str}(h:z9 w=true):intText? w=some (nv w)/\w.length<=41:=by
 unfold z9 at h
 simp only[Bool.and_eq_true,decide_eq_true_eq] at h
 obtain⟨⟨⟨h1,h2⟩,h3⟩,h4⟩:=h
 have dg:∀c∈cd (fgs w),48<=c/\c<=57:=λc hc=>by
  have:=List.all_eq_true.mp h3 ⟨#[c]⟩ (List.mem_map.mpr ⟨c,hc,rfl⟩)
  rw[xG] at this
  exact of_decide_eq_true this
 have ne:cd (fgs w)≠[]:=λe=>by have:=zF (fgs w);rw[e] at this;simp at this;omega
 by_cases e:(cd w).head?=some 45
 ·have ef:fgs w=Txt.slice w (some 1) none:=by unfold fgs;rw[if_pos e]
  have wl:1<=w.length:=by
   rw[←zF]
   cases e2:cd w with
   |nil=>rw[e2] at e;cases e
   |cons c r=>simp
  have ct:cd w=45::cd (fgs w):=by
   rw[ef,jX wl]
   cases e2:cd w with
   |nil=>rw[e2] at e;cases e
   |cons c r=>rw[e2] at e;cases e;rfl
  have lw:w.length=(fgs w).length+1:=by rw[←zF,ct,List.length_cons,zF]
  have r:=PySem.intText_neg ct dg ne (by omega)
  unfold nv
  rw[r]
  exact⟨rfl,by omega⟩
 ·have ef:fgs w=w:=by unfold fgs;rw[if_neg e]
  rw[ef] at dg ne h2
  have r:=PySem.intText_digits dg ne (by omega)
  unfold nv
  rw[r]
  exact⟨rfl,by omega⟩
theorem xv{w:Str}(hw:w.length<=room)(q:K (.bl (z9 w)) μ):wu [.str w] μ K Z:=by
 unfold wu
 refine⟨rfl,?_⟩
 have fl:=VQ w
 have rest:∀f:Str,f=fgs w->zO (we.drop 1) [some (.str w),some (.str f)] μ (En.fn K Z):=by
  intro f hf
  subst hf
  unfold z9 at q
  have hr:(fgs w).length<=room:=Nat.le_trans fl hw
  refine⟨hr,?_⟩
  by_cases h1:1<=(fgs w).length
  ·by_cases h2:(fgs w).length<=40
   ·refine zG (by omega) ?_
    refine qv (by omega) ?_
    show (q_ (fgs w)).length<=room/\_
    rw[wt]
    refine⟨by rw[List.length_map,jk];exact hr,?_⟩
    refine wm (λx=>match x with|.str y=>.bl (inD y)|t=>t) (λx hx k hk=>?_) ?_
    ·obtain⟨y,hy,rfl⟩:=List.mem_map.mp hx
     exact⟨_,rfl,hk⟩
    ·rw[List.map_map]
     refine⟨_,vy inD (sgn (fgs w)),?_⟩
     rw[decide_eq_true h1,decide_eq_true h2] at q
     rw[List.all_map]
     refine ve (λe=>?_) (λe=>?_)
     ·have e:(!((sgn (fgs w)).all inD))=true:=e
      have e:(sgn (fgs w)).all inD=false:=by simpa using e
      rw[e] at q
      exact q
     ·have e:(!((sgn (fgs w)).all inD))=false:=e
      have e:(sgn (fgs w)).all inD=true:=by simpa using e
      rw[e] at q
      refine⟨hr,_,Kn h1,?_⟩
      refine vm (λe=>?_) (λe=>?_)
      ·have e:hd (fgs w)=Z0s:=e
       rw[decide_eq_true e] at q
       exact q
      ·have e:¬hd (fgs w)=Z0s:=e
       rw[decide_eq_false e] at q
       exact q
   ·rw[decide_eq_false h2,Bool.and_false,Bool.false_and,Bool.false_and] at q
    refine zG (by omega) ?_
    refine qK (by omega) ?_
    exact q
  ·rw[decide_eq_false h1,Bool.false_and,Bool.false_and,Bool.false_and] at q
   refine zH (by omega) ?_
   exact q
 refine⟨trivial,?_⟩
 by_cases e:(cd w).head?=some 45
 ·refine z0P (by rw[yM];exact decide_eq_true e) ?_
  refine⟨hw,?_⟩
  exact rest _ (by unfold fgs;rw[if_pos e])
 ·refine z0F (by rw[yM];exact decide_eq_false e) ?_
  exact rest _ (by unfold fgs;rw[if_neg e])
theorem zq{w:Str}(hw:w.length<=room)(q1:z9 w=true->K (.int (nv w)) μ)(q2:z9 w=false->Z 14 [(28,.int 0)] μ):zQ [.str w] μ K Z:=by
 unfold zQ
 refine⟨rfl,?_⟩
 refine xv hw ?_
 refine ve (λe=>?_) (λe=>?_)
 ·exact⟨by decide,q2 (by simpa using e)⟩
 ·have e:z9 w=true:=by simpa using e
  obtain⟨r,l⟩:=KI e
  exact⟨by omega,_,r,q1 e⟩
noncomputable def Wj(p:Str->Bool):T->Option T
 |.str y=>if p y=true then none else some (.str y)
 |u=>some u
theorem vc(p:Str->Bool):∀l:List Str,(l.map T.str).filterMap (Wj p)=(l.filterMap λy=>if p y=true then none else some y).map T.str
 |[]=>rfl
 |y::r=>by
  rw[List.map_cons]
  cases h:p y with
  |true=>rw[List.filterMap_cons_none (by simp[Wj,h]),List.filterMap_cons_none (by simp[h])];exact vc p r
  |false=>rw[List.filterMap_cons_some (b:=T.str y) (by simp[Wj,h]),List.filterMap_cons_some (b:=y) (by simp[h]),List.map_cons,vc p r]
theorem zB{w:Str}(hw:w.length<=room)(q:K (if z9 w=true then .int (nv w) else .non) μ):qy [.str w] μ K Z:=by
 unfold qy
 refine⟨rfl,?_⟩
 have fl:=VQ w
 have rest:∀f:Str,f=fgs w->zO (q9.drop 2) [some (.str w),some (.str f)] μ (En.fn K Z):=by
  intro f hf
  subst hf
  have hr:(fgs w).length<=room:=Nat.le_trans fl hw
  by_cases h1:1<=(fgs w).length
  ·refine zH (λe=>?_) ?_
   ·have:=congrArg Str.length e
    have:("":Str).length=0:=rfl
    omega
   refine⟨hr,?_⟩
   by_cases h2:(fgs w).length<=40
   ·refine zH (by omega) ?_
    show (q_ (fgs w)).length<=room/\_
    rw[wt]
    refine⟨by rw[List.length_map,jk];exact hr,?_⟩
    refine qH (Wj inD) (λu hu k hk=>?_) ?_
    ·obtain⟨y,hy,rfl⟩:=List.mem_map.mp hu
     refine⟨_,rfl,?_⟩
     refine ve (λe=>?_) (λe=>?_)
     ·have e:(!inD y)=true:=e
      have e:inD y=false:=by simpa using e
      have hk:k (if inD y=true then none else some (.str y)) μ:=hk
      rw[e] at hk
      exact hk
     ·have e:(!inD y)=false:=e
      have e:inD y=true:=by simpa using e
      have hk:k (if inD y=true then none else some (.str y)) μ:=hk
      rw[e] at hk
      exact hk
    ·have ef:=vc inD (sgn (fgs w))
     rw[ef]
     refine⟨by rw[vD];decide,_,x6,?_⟩
     rw[List.isEmpty_map,kf]
     unfold z9 at q
     rw[decide_eq_true h1,decide_eq_true h2] at q
     cases h3:(sgn (fgs w)).all inD with
     |false=>rw[h3] at q;exact q
     |true=>
      rw[h3] at q
      refine⟨hr,_,Kn h1,?_⟩
      have fin:z9 w=true->K (.int (nv w)) μ->zO (q9.drop 4) [some (.str w),some (.str (fgs w))] μ (En.fn K Z):=λe q=>by
       obtain⟨r,l⟩:=KI e
       exact⟨by omega,_,r,q⟩
      have ok:∀b,(!decide (hd (fgs w)=Z0s) || decide (w=Z0s))=b->z9 w=b:=λb hb=>by
       unfold z9
       rw[decide_eq_true h1,decide_eq_true h2,h3,hb];rfl
      refine qd (λe=>?_) (λe=>?_)
      ·have e:hd (fgs w)=Z0s:=e
       refine vm (λe2=>?_) (λe2=>?_)
       ·have e2:w=Z0s:=e2
        have e3:(!decide (hd (fgs w)=Z0s) || decide (w=Z0s))=true:=by rw[decide_eq_true e2];simp
        rw[e3] at q
        exact fin (ok _ e3) q
       ·have e2:¬w=Z0s:=e2
        have e3:(!decide (hd (fgs w)=Z0s) || decide (w=Z0s))=false:=by rw[decide_eq_false e2,decide_eq_true e];rfl
        rw[e3] at q
        exact q
      ·have e:¬hd (fgs w)=Z0s:=e
       have e3:(!decide (hd (fgs w)=Z0s) || decide (w=Z0s))=true:=by rw[decide_eq_false e];rfl
       rw[e3] at q
       exact fin (ok _ e3) q
   ·unfold z9 at q
    rw[decide_eq_false h2,Bool.and_false,Bool.false_and,Bool.false_and] at q
    refine zG (by omega) ?_
    exact q
  ·unfold z9 at q
   rw[decide_eq_false h1,Bool.false_and,Bool.false_and,Bool.false_and] at q
   have e:fgs w=("":Str):=by
    refine vK ?_
    have:cd (fgs w)=[]:=List.eq_nil_of_length_eq_zero (by rw[zF];omega)
    rw[this];rfl
   refine zG e ?_
   exact q
 refine⟨hw,?_⟩
 by_cases e:(cd w).head?=some 45
 ·refine zG (Vo.mpr e) ?_
  refine⟨hw,?_⟩
  exact rest _ (by unfold fgs;rw[if_pos e])
 ·refine zH (λh=>e (Vo.mp h)) ?_
  exact rest _ (by unfold fgs;rw[if_neg e])
noncomputable abbrev sI(n:Int):Str:=(toString n:String)
theorem VH(m:Nat):∀c∈(Nat.toDigits 10 m).map Char.toNat,48<=c/\c<=57:=by
 intro c hc
 obtain⟨ch,hch,e⟩:=List.mem_map.mp hc
 have r:=digit_range (Nat.isDigit_of_mem_toDigits (by decide) (by decide) hch)
 rw[←e]
 exact r
theorem Zv:∀(m:Nat),0<m->∃c r,(Nat.toDigits 10 m).map Char.toNat=c::r/\c≠48:=by
 intro m
 induction m using Nat.strongRecOn with
 |_ m ih=>
  intro hm
  by_cases h:m<10
  ·rw[Nat.toDigits_of_lt_base h]
   refine⟨_,_,rfl,?_⟩
   have:m=1\/m=2\/m=3\/m=4\/m=5\/m=6\/m=7\/m=8\/m=9:=by omega
   rcases this with rfl|rfl|rfl|rfl|rfl|rfl|rfl|rfl|rfl<;>decide
  ·have hm10:m % 10<10:=Nat.mod_lt m (by decide)
   have t:Nat.toDigits 10 (m / 10)++Nat.toDigits 10 (m % 10)=Nat.toDigits 10 (10 * (m / 10)+m % 10):=Nat.toDigits_append_toDigits (by decide) (by omega) hm10
   rw[Nat.div_add_mod] at t
   obtain⟨c,r,e,hc⟩:=ih (m / 10) (by omega) (by omega)
   rw[←t,List.map_append,e]
   exact⟨c,_,rfl,hc⟩
theorem Yp(m:Nat):cd (sI (m:Int))=(Nat.toDigits 10 m).map Char.toNat:=PySem.W.KIN.signs_num m
theorem Xu(m:Nat):cd (sI (-((m+1:Nat):Int)))=45::(Nat.toDigits 10 (m+1)).map Char.toNat:=by
 show (PySem.Str.ofString (toString (Int.negSucc m))).cps.toList=_
 rw[signs_ofString]
 show ("-"++Nat.repr (m+1)).toList.map Char.toNat=_
 rw[String.toList_append,List.map_append,Nat.toList_repr]
 rfl
theorem WY{m:Nat}(h:m<10 ^ 39):((Nat.toDigits 10 m).map Char.toNat).length<=39/\1<=((Nat.toDigits 10 m).map Char.toNat).length:=by
 rw[List.length_map]
 exact⟨toDigits_len_pow (by decide) (by decide) h,toDigits_len_ge 10 m⟩
theorem Vz{f:Str}(h:∀c∈cd f,48<=c/\c<=57):(sgn f).all inD=true:=by
 refine List.all_eq_true.mpr λy hy=>?_
 obtain⟨c,hc,rfl⟩:=List.mem_map.mp hy
 rw[xG]
 exact decide_eq_true (h c hc)
structure NumT(n:Int):Prop where
 ok:z9 (sI n)=true
 v:nv (sI n)=n
 l:(sI n).length<=40
 f:∀c,c≠45->(c<48\/57<c)->c∉cd (sI n)
theorem Uu{n:Int}(h:n.natAbs<10 ^ 39):NumT n:=by
 have hf:∀c,c≠45->(c<48\/57<c)->c∉cd (sI n):=λc h1 h2=>int_text_free' c ⟨h1,h2⟩ n
 by_cases hn:0<=n
 ·obtain⟨m,rfl⟩:=Int.eq_ofNat_of_zero_le hn
  have hm:m<10 ^ 39:=h
  have ec:=Yp m
  obtain⟨l1,l2⟩:=WY hm
  have lw:(sI (m:Int)).length=((Nat.toDigits 10 m).map Char.toNat).length:=by rw[←zF,ec]
  have da:=VH m
  have nh:¬(cd (sI (m:Int))).head?=some 45:=by
   rw[ec]
   intro e
   have:=da 45 (List.mem_of_mem_head? e)
   omega
  have ef:fgs (sI (m:Int))=sI (m:Int):=by unfold fgs;rw[if_neg nh]
  have ok:z9 (sI (m:Int))=true:=by
   unfold z9
   rw[ef,decide_eq_true (by omega),decide_eq_true (by omega),Vz (by rw[ec];exact da)]
   simp only[Bool.and_true,Bool.true_and]
   by_cases z:m=0
   ·subst z
    have:sI ((0:Nat):Int)=Z0s:=by decide +kernel
    rw[decide_eq_true this];simp
   ·obtain⟨c,r,e,hc⟩:=Zv m (by omega)
    have:¬hd (sI (m:Int))=Z0s:=by
     unfold hd
     rw[ec,e,Kt]
     intro x
     simp at x
     exact hc x
    rw[decide_eq_false this];rfl
  refine⟨ok,?_,by omega,hf⟩
  unfold nv
  rw[PySem.intText_digits (by rw[show (sI (m:Int)).cps.toList=_ from ec];exact da) (by rw[show (sI (m:Int)).cps.toList=_ from ec];intro e;rw[e] at l2;simp at l2) (by omega)]
  rw[show (sI (m:Int)).cps.toList=_ from ec,PySem.W.KIN.val_back]
  rfl
 ·obtain⟨m,rfl⟩:∃m:Nat,n = -((m+1:Nat):Int):=⟨n.natAbs-1,by omega⟩
  have hm:m+1<10 ^ 39:=by rw[Int.natAbs_neg] at h;exact h
  have ec:=Xu m
  obtain⟨l1,l2⟩:=WY hm
  have lw:(sI (-((m+1:Nat):Int))).length=((Nat.toDigits 10 (m+1)).map Char.toNat).length+1:=by rw[←zF,ec];rfl
  have da:=VH (m+1)
  have nh:(cd (sI (-((m+1:Nat):Int)))).head?=some 45:=by rw[ec];rfl
  have ef:fgs (sI (-((m+1:Nat):Int)))=Txt.slice (sI (-((m+1:Nat):Int))) (some 1) none:=by unfold fgs;rw[if_pos nh]
  have ecf:cd (fgs (sI (-((m+1:Nat):Int))))=(Nat.toDigits 10 (m+1)).map Char.toNat:=by rw[ef,jX (by omega),ec];rfl
  have lf:(fgs (sI (-((m+1:Nat):Int)))).length=((Nat.toDigits 10 (m+1)).map Char.toNat).length:=by rw[←zF,ecf]
  have ok:z9 (sI (-((m+1:Nat):Int)))=true:=by
   unfold z9
   rw[decide_eq_true (by omega),decide_eq_true (by omega),Vz (by rw[ecf];exact da)]
   simp only[Bool.and_true,Bool.true_and]
   obtain⟨c,r,e,hc⟩:=Zv (m+1) (by omega)
   have:¬hd (fgs (sI (-((m+1:Nat):Int))))=Z0s:=by
    unfold hd
    rw[ecf,e,Kt]
    intro x
    simp at x
    exact hc x
   rw[decide_eq_false this];rfl
  refine⟨ok,?_,by omega,hf⟩
  unfold nv
  rw[PySem.intText_neg (show (sI (-((m+1:Nat):Int))).cps.toList=_ from ec) da (by intro e;rw[e] at l2;simp at l2) (by omega)]
  rw[PySem.W.KIN.val_back]
  rfl
end
section
variable {μ μ1 μ2:Mem}{K:T->Mem->Prop}{Z:Xp}{i:Nat}
noncomputable abbrev LEN:List (Str×Int):=[("lease",5),("ask",4),("store",4),("take",4),("back",3),("fall",3),("bare",3)]
noncomputable def kn(x:Str):Nat:=if ("lease":Str)=x then 5 else if ("ask":Str)=x then 4 else if ("store":Str)=x then 4 else if ("take":Str)=x then 4 else if ("back":Str)=x then 3 else if ("fall":Str)=x then 3 else if ("bare":Str)=x then 3 else 0
theorem JH(x:Str):wH x LEN=if kn x=0 then .non else .int (kn x:Nat):=by
 unfold kn
 simp only[wH]
 by_cases h1:("lease":Str)=x
 ·rw[if_pos h1,if_pos h1];rfl
 rw[if_neg h1,if_neg h1]
 by_cases h2:("ask":Str)=x
 ·rw[if_pos h2,if_pos h2];rfl
 rw[if_neg h2,if_neg h2]
 by_cases h3:("store":Str)=x
 ·rw[if_pos h3,if_pos h3];rfl
 rw[if_neg h3,if_neg h3]
 by_cases h4:("take":Str)=x
 ·rw[if_pos h4,if_pos h4];rfl
 rw[if_neg h4,if_neg h4]
 by_cases h5:("back":Str)=x
 ·rw[if_pos h5,if_pos h5];rfl
 rw[if_neg h5,if_neg h5]
 by_cases h6:("fall":Str)=x
 ·rw[if_pos h6,if_pos h6];rfl
 rw[if_neg h6,if_neg h6]
 by_cases h7:("bare":Str)=x
 ·rw[if_pos h7,if_pos h7];rfl
 rw[if_neg h7,if_neg h7];rfl
noncomputable abbrev DK:List (Key×T):=[(.inr "lease",.int 5),(.inr "ask",.int 4),(.inr "store",.int 4),(.inr "take",.int 4),(.inr "back",.int 3),(.inr "fall",.int 3),(.inr "bare",.int 3)]
theorem WB(x:Str):(kK (.inr x) DK).getD (.int 0)=.int (kn x:Nat):=by
 have e:∀(w:Str),((Sum.inr w:Key)=.inr x)↔w=x:=λw=>⟨λh=>by cases h;rfl,λh=>by rw[h]⟩
 unfold kn
 simp only[kK,e]
 by_cases h1:("lease":Str)=x
 ·rw[if_pos h1,if_pos h1];rfl
 rw[if_neg h1,if_neg h1]
 by_cases h2:("ask":Str)=x
 ·rw[if_pos h2,if_pos h2];rfl
 rw[if_neg h2,if_neg h2]
 by_cases h3:("store":Str)=x
 ·rw[if_pos h3,if_pos h3];rfl
 rw[if_neg h3,if_neg h3]
 by_cases h4:("take":Str)=x
 ·rw[if_pos h4,if_pos h4];rfl
 rw[if_neg h4,if_neg h4]
 by_cases h5:("back":Str)=x
 ·rw[if_pos h5,if_pos h5];rfl
 rw[if_neg h5,if_neg h5]
 by_cases h6:("fall":Str)=x
 ·rw[if_pos h6,if_pos h6];rfl
 rw[if_neg h6,if_neg h6]
 by_cases h7:("bare":Str)=x
 ·rw[if_pos h7,if_pos h7];rfl
 rw[if_neg h7,if_neg h7];rfl
noncomputable abbrev LSs:Str:="lease"
noncomputable abbrev ANs:Str:="any"
theorem xm(x:Str):kn x=0\/kn x=3\/kn x=4\/kn x=5:=by
 unfold kn
 repeat' split
 all_goals simp
theorem kn5{x:Str}:kn x=5↔x=LSs:=by
 constructor
 ·intro h
  unfold kn at h
  by_cases h1:("lease":Str)=x
  ·exact h1.symm
  rw[if_neg h1] at h
  exfalso
  revert h
  repeat' split
  all_goals simp
 ·intro h
  subst h
  unfold kn
  rw[if_pos rfl]
noncomputable def vv:List Str->Bool
 |[]=>false
 |a::r=>decide (kn a=r.length+1)
theorem ix0{α:Type}{x:α}{r:List α}:wy (x::r) 0=some x:=by rw[jE (by decide) (by simp)];rfl
theorem yJ{ws:List Str}(q:K (.bl (vv ws)) μ):vg [.lst (ws.map T.str)] μ K Z:=by
 unfold vg
 refine⟨rfl,?_⟩
 cases ws with
 |nil=>exact q
 |cons a r=>
  refine⟨_,ix0,?_⟩
  refine⟨_,ix0,?_⟩
  have go:∀t:T,t=wH a LEN->kB .Eq t (.int ((T.str a::r.map T.str).length:Nat)) μ K Z:=by
   intro t ht
   rw[JH] at ht
   have q:K (.bl (decide (kn a=r.length+1))) μ:=q
   by_cases h0:kn a=0
   ·rw[if_pos h0] at ht
    subst ht
    rw[decide_eq_false (by omega)] at q
    exact q
   ·rw[if_neg h0] at ht
    subst ht
    have e:decide ((kn a:Int)=((T.str a::r.map T.str).length:Nat))=decide (kn a=r.length+1):=by
     congr 1
     simp only[List.length_cons,List.length_map,eq_iff_iff]
     omega
    show K (.bl (decide ((kn a:Int)=((T.str a::r.map T.str).length:Nat)))) μ
    rw[e]
    exact q
  exact go _ rfl
theorem jV{ws:List Str}(h:vv ws=true):(∃a b h,ws=[a,b,h]/\kn a=3)\/(∃a b h c,ws=[a,b,h,c]/\kn a=4)\/(∃a b h c d,ws=[a,b,h,c,d]/\kn a=5):=by
 unfold vv at h
 match ws,h with
 |[],h=>cases h
 |[a],h=>have:=of_decide_eq_true h;have:=xm a;simp at *;omega
 |[a,b],h=>have:=of_decide_eq_true h;have:=xm a;simp at *;omega
 |[a,b,c],h=>exact .inl ⟨a,b,c,rfl,of_decide_eq_true h⟩
 |[a,b,c,d],h=>exact .inr (.inl ⟨a,b,c,d,rfl,of_decide_eq_true h⟩)
 |[a,b,c,d,e],h=>exact .inr (.inr ⟨a,b,c,d,e,rfl,of_decide_eq_true h⟩)
 |a::b::c::d::e::f::r,h=>have:=of_decide_eq_true h;have:=xm a;simp at *;omega
noncomputable def rdF:List Str->Option (List T)
 |[a,b,h]=>if (decide (kn a=3)&&zj h&&z9 b)=true then some [.str a,.int (nv b),.str h] else none
 |[a,b,h,c]=>if (decide (kn a=4)&&zj h&&z9 b&&z9 c)=true then some [.str a,.int (nv b),.str h,.int (nv c)] else none
 |[a,b,h,c,d]=>if (decide (kn a=5)&&zj h&&z9 b&&(decide (c=ANs) || z9 c)&&z9 d)=true then some [.str a,.int (nv b),.str h,if c=ANs then .non else .int (nv c),.int (nv d)] else none
 |_=>none
theorem kz{a b h c d:Str}:rdF [a,b,h,c,d]=if (decide (kn a=5)&&zj h&&z9 b&&(decide (c=ANs) || z9 c)&&z9 d)=true then some [.str a,.int (nv b),.str h,if c=ANs then .non else .int (nv c),.int (nv d)] else none:=rfl
theorem vG{ws:List Str}(h:vv ws=false):rdF ws=none:=by
 unfold rdF
 split
 ·rw[if_neg];intro e;simp[vv] at h e;exact h e.1.1
 ·rw[if_neg];intro e;simp[vv] at h e;exact h e.1.1.1
 ·rw[if_neg];intro e;simp[vv] at h e;exact h e.1.1.1.1
 ·rfl
theorem uq{a b h:Str}(e:kn a=3)(q:K (.lst []) μ):zS [.lst [.str a,.str b,.str h]] μ K Z:=by
 unfold zS
 refine⟨rfl,?_⟩
 refine⟨_,rfl,?_⟩
 refine zH (λx=>by rw[kn5.mpr x] at e;omega) ?_
 refine⟨by show (0:Nat)<=room;decide,?_⟩
 exact qk q
theorem uX{a b h c:Str}(e:kn a=4)(hc:c.length<=room)(q1:z9 c=true->K (.lst [.int (nv c)]) μ)(q2:z9 c=false->Z 14 [(28,.int 0)] μ):zS [.lst [.str a,.str b,.str h,.str c]] μ K Z:=by
 unfold zS
 refine⟨rfl,?_⟩
 refine⟨_,rfl,?_⟩
 refine zH (λx=>by rw[kn5.mpr x] at e;omega) ?_
 refine⟨by show (1:Nat)<=room;decide,?_⟩
 refine zE ⟨_,rfl,?_⟩
 refine zq hc (λn=>?_) q2
 exact⟨trivial,qk (q1 n)⟩
theorem uM{a b h c d:Str}(e:kn a=5)(hc:c.length<=room)(hd:d.length<=room)(q1:(decide (c=ANs) || z9 c)=true->z9 d=true->K (.lst [if c=ANs then .non else .int (nv c),.int (nv d)]) μ)(q2:((decide (c=ANs) || z9 c)&&z9 d)=false->Z 14 [(28,.int 0)] μ):zS [.lst [.str a,.str b,.str h,.str c,.str d]] μ K Z:=by
 unfold zS
 refine⟨rfl,?_⟩
 refine⟨_,rfl,?_⟩
 refine zG (kn5.mp e) ?_
 refine⟨_,rfl,?_⟩
 by_cases ea:c=ANs
 ·refine zG ea ?_
  refine⟨_,rfl,?_⟩
  rw[if_pos ea,decide_eq_true ea] at q1
  rw[decide_eq_true ea] at q2
  exact zq hd (λn=>q1 rfl n) λn=>q2 (by rw[n];rfl)
 ·refine zH ea ?_
  rw[if_neg ea,decide_eq_false ea] at q1
  rw[decide_eq_false ea] at q2
  refine⟨by show (2:Nat)<=room;decide,?_⟩
  refine zE ⟨_,rfl,?_⟩
  refine zq hc (λn=>?_) λn=>q2 (by rw[n];rfl)
  refine⟨trivial,zE ⟨_,rfl,?_⟩⟩
  refine zq hd (λn2=>?_) λn2=>q2 (by rw[n,n2];rfl)
  exact⟨trivial,qk (q1 (by rw[n];rfl) n2)⟩
theorem w6{t:Str}{ws:List Str}(ht:t.length<=room)(e:Txt.split t SPs=ws)(hw:∀a∈ws,a.length<=room)(q1:∀r,rdF ws=some r->K (.tup r) μ)(q2:rdF ws=none->Z 14 [(28,.int 0)] μ):zV [.str t] μ K Z:=by
 unfold zV
 refine⟨rfl,?_⟩
 refine jZ ?_
 refine⟨⟨ht,by decide⟩,?_⟩
 have rest:∀v:T,v=.lst (ws.map T.str)->zO (wL.drop 2) [some (.str t),some v] μ (En.fn K Z):=by
  intro v hv
  subst hv
  refine yJ ?_
  cases hf:vv ws with
  |false=>exact⟨by decide,q2 (vG hf)⟩
  |true=>
   rcases jV hf with⟨a,b,h,rfl,k⟩|⟨a,b,h,c,rfl,k⟩|⟨a,b,h,c,d,rfl,k⟩
   ·refine⟨_,rfl,?_⟩
    refine qD (hw h (by simp)) ?_
    cases hh:zj h with
    |false=>exact⟨by decide,q2 (by simp[rdF,hh])⟩
    |true=>
     refine⟨_,rfl,?_⟩
     refine⟨_,rfl,?_⟩
     refine zq (hw b (by simp)) (λn=>?_) λn=>q2 (by simp[rdF,n])
     refine⟨_,rfl,?_⟩
     refine uq k ?_
     refine⟨by show (3:Nat)<=room;decide,?_⟩
     exact q1 _ (by simp[rdF,k,hh,n])
   ·refine⟨_,rfl,?_⟩
    refine qD (hw h (by simp)) ?_
    cases hh:zj h with
    |false=>exact⟨by decide,q2 (by simp[rdF,hh])⟩
    |true=>
     refine⟨_,rfl,?_⟩
     refine⟨_,rfl,?_⟩
     refine zq (hw b (by simp)) (λn=>?_) λn=>q2 (by simp[rdF,n])
     refine⟨_,rfl,?_⟩
     refine uX k (hw c (by simp)) (λn2=>?_) λn2=>q2 (by simp[rdF,n2])
     refine⟨by show (4:Nat)<=room;decide,?_⟩
     exact q1 _ (by simp[rdF,k,hh,n,n2])
   ·refine⟨_,rfl,?_⟩
    refine qD (hw h (by simp)) ?_
    cases hh:zj h with
    |false=>exact⟨by decide,q2 (by simp[rdF,hh])⟩
    |true=>
     refine⟨_,rfl,?_⟩
     refine⟨_,rfl,?_⟩
     refine zq (hw b (by simp)) (λn=>?_) λn=>q2 (by simp[rdF,n])
     refine⟨_,rfl,?_⟩
     refine uM k (hw c (by simp)) (hw d (by simp)) (λn2 n3=>?_) λn2=>q2 (by
      rw[kz,if_neg]
      rw[Bool.and_assoc,n2]
      simp)
     refine⟨by show (5:Nat)<=room;decide,?_⟩
     exact q1 _ (by
      rw[kz,if_pos]
      ·rfl
      ·rw[decide_eq_true k,hh,n,n2,n3];rfl)
 exact rest _ (by show T.lst ((Txt.split t SPs).map T.str)=_;rw[e])
end
section
variable {μ μ1 μ2:Mem}{K:T->Mem->Prop}{Z:Xp}{i:Nat}
theorem qC{z:Str}(hz:z.length<=room)(q:K (.bl (zj z)) μ):qa [.str z] μ K Z:=by
 unfold qa
 refine⟨rfl,?_⟩
 refine⟨hz,?_⟩
 unfold zj at q
 by_cases h1:1<=(z.length:Int)
 ·refine zG h1 ?_
  by_cases h2:(z.length:Int)<=8
  ·refine zG h2 ?_
   rw[decide_eq_true h1,decide_eq_true h2] at q
   show (q_ z).length<=room/\_
   rw[wt]
   refine⟨by rw[List.length_map,jk];exact hz,?_⟩
   refine qH (Wj isL) (λu hu k hk=>?_) ?_
   ·obtain⟨y,hy,rfl⟩:=List.mem_map.mp hu
    refine⟨_,rfl,?_⟩
    refine ve (λe=>?_) (λe=>?_)
    ·have e:(!isL y)=true:=e
     have e:isL y=false:=by simpa using e
     have hk:k (if isL y=true then none else some (.str y)) μ:=hk
     rw[e] at hk
     exact hk
    ·have e:(!isL y)=false:=e
     have e:isL y=true:=by simpa using e
     have hk:k (if isL y=true then none else some (.str y)) μ:=hk
     rw[e] at hk
     exact hk
   ·rw[vc isL (sgn z)]
    refine⟨by rw[vD];decide,_,x6,?_⟩
    rw[List.isEmpty_map,kf]
    exact q
  ·refine zH h2 ?_
   rw[decide_eq_false h2,Bool.and_false] at q
   exact q
 ·refine zH h1 ?_
  rw[decide_eq_false h1] at q
  exact q
noncomputable def jc(ws:List Str):T:=match rdF ws with
 |some r=>.tup r
 |none=>.non
noncomputable def nT(w:Str):T:=if z9 w=true then .int (nv w) else .non
theorem qZ{w:Str}:scT (nT w) .non=some (!z9 w):=by
 unfold nT
 cases z9 w<;>rfl
@[reducible] noncomputable def yY:List Ds:=zN.drop 2
theorem jB{ws:List Str}(h:rdF ws=none)(q:∀o,K (jc ws) (μ++o)):∀o,K .non (μ++o):=λo=>by have:=q o;unfold jc at this;rw[h] at this;exact this
theorem je{ws:List Str}{r:List T}(h:rdF ws=some r)(q:∀o,K (jc ws) (μ++o)):∀o,K (.tup r) (μ++o):=λo=>by have:=q o;unfold jc at this;rw[h] at this;exact this
theorem z0M{a b h:Str}(k:kn a=3)(hh:zj h=true)(hb:b.length<=room)(q:∀o,K (jc [a,b,h]) (μ++o)):zO yY [some (.lst [.str a,.str b,.str h]),some (.int (3:Nat)),none,none] μ (En.fn K Z):=by
 refine⟨by show (1:Nat)+0<=room;decide,?_⟩
 refine⟨by show (1:Nat)<=room;decide,?_⟩
 refine zE ⟨_,rfl,?_⟩
 refine zB hb ?_
 refine⟨trivial,qk ?_⟩
 have rest:∀t:T,t=nT b->zO (zN.drop 3) [some (.lst [.str a,.str b,.str h]),some (.int (3:Nat)),some (.mut μ.length),none] (μ++[.lst [t]]) (En.fn K Z):=by
  intro t ht
  refine⟨_,_,zw,(show zW .non [t]=some (!z9 b) by rw[ht];unfold zW;rw[qZ];cases z9 b<;>rfl),?_⟩
  cases n:z9 b with
  |false=>exact jB (by simp[rdF,n]) q _
  |true=>
   subst ht
   refine⟨_,rfl,_,_,zw,rfl,_,rfl,?_⟩
   refine⟨_,zw,?_⟩
   refine⟨by show (3:Nat)<=room;decide,?_⟩
   have:=je (r:=[.str a,.int (nv b),.str h]) (by simp[rdF,k,hh,n]) q [.lst [nT b]]
   unfold nT
   unfold nT at this
   rw[n] at this ⊢
   exact this
 exact rest _ rfl
theorem Yc{a b h c:Str}:rdF [a,b,h,c]=if (decide (kn a=4)&&zj h&&z9 b&&z9 c)=true then some [.str a,.int (nv b),.str h,.int (nv c)] else none:=rfl
theorem wN{w:Str}(h:z9 w=true):nT w=.int (nv w):=by unfold nT;rw[if_pos h]
theorem z0V{b c:Str}:zW .non [nT b,nT c]=some (!(z9 b&&z9 c)):=by
 unfold zW zW zW
 rw[qZ,qZ]
 cases z9 b<;>cases z9 c<;>rfl
theorem z17{b c d:Str}:zW .non [nT b,nT c,nT d]=some (!(z9 b&&z9 c&&z9 d)):=by
 unfold zW zW zW zW
 rw[qZ,qZ,qZ]
 cases z9 b<;>cases z9 c<;>cases z9 d<;>rfl
theorem Us{b d:Str}:zW .non [nT b,.str "any",nT d]=some (!(z9 b&&z9 d)):=by
 unfold zW zW zW zW
 rw[qZ,qZ]
 cases z9 b<;>cases z9 d<;>rfl
theorem z10{a b h c:Str}(k:kn a=4)(hh:zj h=true)(hb:b.length<=room)(hc:c.length<=room)(q:∀o,K (jc [a,b,h,c]) (μ++o)):zO yY [some (.lst [.str a,.str b,.str h,.str c]),some (.int (4:Nat)),none,none] μ (En.fn K Z):=by
 refine⟨by show (1:Nat)+1<=room;decide,?_⟩
 refine⟨by show (2:Nat)<=room;decide,?_⟩
 refine zE ⟨_,rfl,?_⟩
 refine zB hb ?_
 refine⟨trivial,zE ⟨_,rfl,?_⟩⟩
 refine zB hc ?_
 refine⟨trivial,qk ?_⟩
 have rest:∀t u:T,t=nT b->u=nT c->zO (zN.drop 3) [some (.lst [.str a,.str b,.str h,.str c]),some (.int (4:Nat)),some (.mut μ.length),none] (μ++[.lst [t,u]]) (En.fn K Z):=by
  intro t u ht hu
  subst ht hu
  refine⟨_,_,zw,z0V,?_⟩
  cases n:z9 b&&z9 c with
  |false=>exact jB (by rw[Yc,if_neg];rw[Bool.and_assoc,n];simp) q _
  |true=>
   obtain⟨n1,n2⟩:=(Bool.and_eq_true _ _▸n:z9 b=true/\z9 c=true)
   refine⟨_,rfl,_,_,zw,rfl,_,rfl,?_⟩
   refine⟨_,zw,?_⟩
   refine⟨by show (3:Nat)+1<=room;decide,?_⟩
   have:=je (r:=[.str a,.int (nv b),.str h,.int (nv c)]) (by simp[rdF,k,hh,n1,n2]) q [.lst [nT b,nT c]]
   rw[←wN n1,←wN n2] at this
   exact this
 exact rest _ _ rfl rfl
theorem kO{x y:MO}:∀{μ:List MO},(μ++[x]).set μ.length y=μ++[y]
 |[]=>rfl
 |m::r=>by
  show m::(r++[x]).set r.length y=_
  rw[kO];rfl
theorem z0J{a b h c d:Str}(k:kn a=5)(hh:zj h=true)(hb:b.length<=room)(hc:c.length<=room)(hd:d.length<=room)(q:∀o,K (jc [a,b,h,c,d]) (μ++o)):zO yY [some (.lst [.str a,.str b,.str h,.str c,.str d]),some (.int (5:Nat)),none,none] μ (En.fn K Z):=by
 refine⟨by show (1:Nat)+2<=room;decide,?_⟩
 refine⟨by show (3:Nat)<=room;decide,?_⟩
 refine zE ⟨_,rfl,?_⟩
 refine zB hb ?_
 refine⟨trivial,zE ⟨_,rfl,?_⟩⟩
 refine zB hc ?_
 refine⟨trivial,zE ⟨_,rfl,?_⟩⟩
 refine zB hd ?_
 refine⟨trivial,qk ?_⟩
 have rest:∀t u v:T,t=nT b->u=nT c->v=nT d->zO (zN.drop 3) [some (.lst [.str a,.str b,.str h,.str c,.str d]),some (.int (5:Nat)),some (.mut μ.length),none] (μ++[.lst [t,u,v]]) (En.fn K Z):=by
  intro t u v ht hu hv
  subst ht hu hv
  refine⟨_,rfl,?_⟩
  by_cases ea:c=ANs
  ·refine zG ea ?_
   refine⟨_,zw,⟨by decide,by show (1:Int)<(3:Nat);decide,by decide⟩,?_⟩
   rw[kO]
   refine⟨_,_,zw,Us,?_⟩
   cases n:z9 b&&z9 d with
   |false=>exact jB (by
     rw[kz,if_neg,]
     intro x
     simp only[Bool.and_eq_true] at x
     rw[x.1.1.2,x.2] at n
     cases n) q _
   |true=>
    obtain⟨n1,n2⟩:=(Bool.and_eq_true _ _▸n:z9 b=true/\z9 d=true)
    refine⟨_,rfl,_,_,zw,rfl,_,rfl,?_⟩
    refine⟨_,zw,?_⟩
    refine⟨by show (3:Nat)+2<=room;decide,?_⟩
    refine⟨_,rfl,?_⟩
    refine zG ea ?_
    refine⟨by show (3:Nat)+1<=room;decide,?_⟩
    refine⟨by show (4:Nat)+1<=room;decide,?_⟩
    have:=je (r:=[.str a,.int (nv b),.str h,.non,.int (nv d)]) (by
     rw[kz,if_pos]
     ·rw[if_pos ea]
     ·rw[decide_eq_true k,hh,n1,n2,decide_eq_true ea];rfl) q [.lst [nT b,.str "any",nT d]]
    rw[←wN n1,←wN n2] at this
    exact this
  ·refine zH ea ?_
   refine⟨_,_,zw,z17,?_⟩
   cases n:z9 b&&z9 c&&z9 d with
   |false=>exact jB (by
     rw[kz,if_neg]
     intro x
     simp only[Bool.and_eq_true,Bool.or_eq_true,decide_eq_true_eq] at x
     rw[x.1.1.2,x.2,x.1.2.resolve_left ea] at n
     cases n) q _
   |true=>
    simp only[Bool.and_eq_true] at n
    obtain⟨⟨n1,n2⟩,n3⟩:=n
    refine⟨_,rfl,_,_,zw,rfl,_,rfl,?_⟩
    refine⟨_,zw,?_⟩
    refine⟨by show (3:Nat)+2<=room;decide,?_⟩
    refine⟨_,rfl,?_⟩
    refine zH ea ?_
    have:=je (r:=[.str a,.int (nv b),.str h,.int (nv c),.int (nv d)]) (by
     rw[kz,if_pos]
     ·rw[if_neg ea]
     ·rw[decide_eq_true k,hh,n1,n2,n3];simp) q [.lst [nT b,nT c,nT d]]
    rw[←wN n1,←wN n2,←wN n3] at this
    exact this
 exact rest _ _ _ rfl rfl rfl
theorem WT{ws:List Str}(hl:ws.length<=1000)(hw:∀a∈ws,a.length<=room)(q:∀o,K (jc ws) (μ++o)):wd [.lst (ws.map T.str)] μ K Z:=by
 have q0:rdF ws=none->K .non μ:=λh=>by have:=jB h q [];rw[List.append_nil] at this;exact this
 unfold wd
 refine⟨rfl,?_⟩
 refine⟨by decide +kernel,?_⟩
 refine⟨by rw[List.length_map];show ws.length+1<=room;unfold room;omega,?_⟩
 have rest:∀t:T,t=.int (kn (ws.headD ""):Nat)->zO (zN.drop 1) [some (.lst (ws.map T.str)),some t,none,none] μ (En.fn K Z):=by
  intro t ht
  subst ht
  cases hf:vv ws with
  |false=>
   have qn:=q0 (vG hf)
   refine qd (λe=>qn) (λe=>?_)
   refine qK (λx=>?_) qn
   rw[List.length_map] at x
   cases ws with
   |nil=>exact e x.symm
   |cons a r=>
    have:=of_decide_eq_false hf
    simp only[List.headD_cons,List.length_cons] at x
    omega
  |true=>
   rcases jV hf with⟨a,b,h,rfl,k⟩|⟨a,b,h,c,rfl,k⟩|⟨a,b,h,c,d,rfl,k⟩
   ·rw[show (([a,b,h]:List Str).headD "")=a from rfl,k]
    refine⟨_,rfl,?_⟩
    refine qC (hw h (by simp)) ?_
    cases hh:zj h with
    |false=>exact q0 (by simp[rdF,hh])
    |true=>exact z0M k hh (hw b (by simp)) q
   ·rw[show (([a,b,h,c]:List Str).headD "")=a from rfl,k]
    refine⟨_,rfl,?_⟩
    refine qC (hw h (by simp)) ?_
    cases hh:zj h with
    |false=>exact q0 (by simp[rdF,hh])
    |true=>exact z10 k hh (hw b (by simp)) (hw c (by simp)) q
   ·rw[show (([a,b,h,c,d]:List Str).headD "")=a from rfl,k]
    refine⟨_,rfl,?_⟩
    refine qC (hw h (by simp)) ?_
    cases hh:zj h with
    |false=>exact q0 (by simp[rdF,hh])
    |true=>exact z0J k hh (hw b (by simp)) (hw c (by simp)) (hw d (by simp)) q
 have ix:wy (ws.map T.str++[.str ""]) 0=some (.str (ws.headD "")):=by
  cases ws with
  |nil=>rfl
  |cons a r=>exact ix0
 refine⟨_,ix,?_⟩
 exact rest _ (WB _)
end
section
local macro_rules | `(tactic| walk_at "grd") => `(tactic| first | decide | exact Or.inl (by decide) | exact Or.inr (by decide) | omega | (simp only [big, room]; omega) | fail)
local macro_rules | `(tactic| walk_at "go") => `(tactic| repeat' (first | (with_reducible refine ⟨_, rfl, ?_⟩) | (with_reducible refine ⟨?w, ?h, ?_⟩; case h => exact rfl) | (with_reducible refine And.intro ?_ ?_; walk_at "grd") | (with_reducible refine qv ?_ ?_; rfl) | (with_reducible refine zG ?_ ?_; rfl) | (with_reducible refine qK ?_ ?_; decide) | (with_reducible refine zH ?_ ?_; decide) | fail))
variable {μ μ1 μ2:Mem}{K:T->Mem->Prop}{Z:Xp}{i:Nat}
theorem qF{i:Nat}(hs:St μ i)(q:∀v μ',v.natAbs<10000000000000->Up μ i μ'->K (.int v) μ'):ql [.mut i] μ K Z:=by
 unfold ql
 refine⟨rfl,?_⟩
 walk_at "go"
 refine qj hs (by decide) (by decide) λv1 μ1 a1 b1 u1=>?_
 walk_at "go"
 refine qj u1.st (by decide) (by decide) λv2 μ2 a2 b2 u2=>?_
 refine qd (λh=>?_) (λh=>?_)
 ·exact q _ _ (by omega) (u1.trans u2)
 ·walk_at "go"
  refine qj u2.st (by decide) (by decide) λv3 μ3 a3 b3 u3=>?_
  walk_at "go"
  refine qj u3.st (by decide) (by decide) λv4 μ4 a4 b4 u4=>?_
  walk_at "go"
  refine qj u4.st (by decide) (by decide) λv5 μ5 a5 b5 u5=>?_
  walk_at "go"
  refine q _ _ ?_ ((((u1.trans u2).trans u3).trans u4).trans u5)
  have e6:((10:Int) ^ (6:Int).toNat)=1000000:=by decide
  rw[e6] at b3 b4 ⊢
  have:v5=0\/v5=1:=by omega
  rcases this with rfl|rfl
  ·rw[show (1:Int)-2 * 0=1 from rfl,Int.mul_one];omega
  ·rw[show (1:Int)-2 * 1 = -1 from rfl,Int.mul_neg,Int.mul_one];omega
noncomputable def oT:Option Int->T
 |none=>.non
 |some m=>.int m
noncomputable def oW:Option Int->Str
 |none=>ANs
 |some m=>sI m
noncomputable def wM (a:Str)(n:Int)(h:Str)(ps:List (Option Int)):List T:=.str a::.int n::.str h::ps.map oT
noncomputable def wV (a:Str)(n:Int)(h:Str)(ps:List (Option Int)):List Str:=a::sI n::h::ps.map oW
abbrev Sm(n:Int):Prop:=n.natAbs<10000000000000
structure R8(a:Str)(n:Int)(h:Str)(ps:List (Option Int)):Prop where
 ga:GH a
 k:kn a=3+ps.length
 n:Sm n
 g:GH h
 sh:ps=[]\/(∃m,Sm m/\ps=[some m])\/(∃m,Sm m/\ps=[none,some m])\/(∃l m,Sm l/\Sm m/\ps=[some l,some m])
theorem Sm.t{n:Int}(h:Sm n):NumT n:=Uu (Nat.lt_trans h (by decide))
noncomputable def w8:List Str:=["lease","ask","store","take","back","fall","bare","lease"]
theorem Kv:w8.all (λa=>gH a&&decide (kn a≠0))=true:=by decide +kernel
theorem UY:∀v:Nat,v<8->∃a,wy [T.str "lease",.str "ask",.str "store",.str "take",.str "back",.str "fall",.str "bare",.str "lease"] (v:Int)=some (.str a)/\GH a/\kn a≠0:=by
 have mem:∀h∈w8,GH h/\kn h≠0:=λh hh=>by
  have:=List.all_eq_true.mp Kv h hh
  simp only[Bool.and_eq_true,decide_eq_true_eq] at this
  exact⟨yp this.1,this.2⟩
 intro v hv
 have hl:w8.length=8:=rfl
 refine⟨w8[v],?_,mem _ (List.getElem_mem _)⟩
 have:v=0\/v=1\/v=2\/v=3\/v=4\/v=5\/v=6\/v=7:=by omega
 rcases this with rfl|rfl|rfl|rfl|rfl|rfl|rfl|rfl<;>rfl
theorem Xh{a:Str}(h:kn a≠0)(h5:kn a≠5):zW (.str a) [.str "ask",.str "store",.str "take"]=some (decide (kn a=4)):=by
 unfold zW zW zW zW
 show some (decide (("ask":Str)=a) || (decide (("store":Str)=a) || (decide (("take":Str)=a) || false)))=_
 congr 1
 by_cases h1:("ask":Str)=a
 ·subst h1;decide +kernel
 by_cases h2:("store":Str)=a
 ·subst h2;decide +kernel
 by_cases h3:("take":Str)=a
 ·subst h3;decide +kernel
 rw[decide_eq_false h1,decide_eq_false h2,decide_eq_false h3]
 symm
 refine decide_eq_false ?_
 unfold kn at *
 rw[if_neg h1,if_neg h2,if_neg h3] at *
 by_cases h0:("lease":Str)=a
 ·rw[if_pos h0];decide
 rw[if_neg h0]
 repeat' split
 all_goals decide
theorem Xt{i:Nat}(hs:St μ i)(q:∀a n h ps μ',R8 a n h ps->Up μ i μ'->K (.tup (wM a n h ps)) μ'):yf [.mut i] μ K Z:=by
 unfold yf
 refine⟨rfl,?_⟩
 refine qE hs (by decide) (by decide) λv μ1 v1 u1=>?_
 obtain⟨a,ea,ga,k0⟩:=UY v (by omega)
 refine⟨_,ea,?_⟩
 refine qF u1.st λn μ2 hn u2=>?_
 refine ZM u2.st λh μ3 g u3=>?_
 have u:=(u1.trans u2).trans u3
 by_cases k5:kn a=5
 ·refine zG (kn5.mp k5) ?_
  refine qF u.st λl μ4 hl u4=>?_
  refine qE u4.st (by decide) (by decide) λw μ5 w5 u5=>?_
  have:w=0\/w=1:=by omega
  rcases this with rfl|rfl
  ·refine⟨_,rfl,?_⟩
   refine qF u5.st λm μ6 hm u6=>?_
   refine⟨by show (3:Nat)+2<=room;decide,?_⟩
   exact q a n h [none,some m] μ6 ⟨ga,k5,hn,g,.inr (.inr (.inl ⟨m,hm,rfl⟩))⟩ (((u.trans u4).trans u5).trans u6)
  ·refine⟨_,rfl,?_⟩
   refine qF u5.st λm μ6 hm u6=>?_
   refine⟨by show (3:Nat)+2<=room;decide,?_⟩
   exact q a n h [some l,some m] μ6 ⟨ga,k5,hn,g,.inr (.inr (.inr ⟨l,m,hl,hm,rfl⟩))⟩ (((u.trans u4).trans u5).trans u6)
 ·refine zH (λx=>k5 (kn5.mpr x)) ?_
  refine⟨_,Xh k0 k5,?_⟩
  refine qd (λk4=>?_) (λk4=>?_)
  ·refine qF u.st λm μ6 hm u6=>?_
   refine⟨by show (3:Nat)+1<=room;decide,?_⟩
   exact q a n h [some m] μ6 ⟨ga,k4,hn,g,.inr (.inl ⟨m,hm,rfl⟩)⟩ (u.trans u6)
  ·have:=xm a
   exact q a n h [] μ3 ⟨ga,by show kn a=3;omega,hn,g,.inl rfl⟩ u
theorem KG{n:Int}(h:Sm n):n.natAbs<2 ^ 1900:=Nat.lt_trans h (by decide +kernel)
noncomputable def tW:T->Str
 |.int n=>sI n
 |.str x=>x
 |_=>ANs
theorem Je(a:Str)(n:Int)(h:Str)(ps:List (Option Int)):(wM a n h ps).map tW=wV a n h ps:=by
 unfold wM wV
 rw[List.map_cons,List.map_cons,List.map_cons,List.map_map]
 show a::sI n::h::_=_
 congr 3
 refine List.map_congr_left λo _=>?_
 cases o<;>rfl
noncomputable def Pt (t:T):Prop:=(∃n,t=.int n/\Sm n)\/(∃x,t=.str x)\/t=.non
theorem R8.pt{a:Str}{n:Int}{h:Str}{ps:List (Option Int)}(r:R8 a n h ps):∀t∈wM a n h ps,Pt t:=by
 intro t ht
 unfold wM at ht
 simp only[List.mem_cons] at ht
 rcases ht with rfl|rfl|rfl|ht
 ·exact .inr (.inl ⟨_,rfl⟩)
 ·exact .inl ⟨_,rfl,r.n⟩
 ·exact .inr (.inl ⟨_,rfl⟩)
 ·rcases r.sh with rfl|⟨m,hm,rfl⟩|⟨m,hm,rfl⟩|⟨l,m,hl,hm,rfl⟩
  ·cases ht
  ·simp only[List.map_cons,List.map_nil,List.mem_singleton] at ht
   exact .inl ⟨m,ht,hm⟩
  ·simp only[List.map_cons,List.map_nil,List.mem_cons,List.not_mem_nil,or_false] at ht
   rcases ht with rfl|rfl
   ·exact .inr (.inr rfl)
   ·exact .inl ⟨m,rfl,hm⟩
  ·simp only[List.map_cons,List.map_nil,List.mem_cons,List.not_mem_nil,or_false] at ht
   rcases ht with rfl|rfl
   ·exact .inl ⟨l,rfl,hl⟩
   ·exact .inl ⟨m,rfl,hm⟩
theorem R8.len{a:Str}{n:Int}{h:Str}{ps:List (Option Int)}(r:R8 a n h ps):(wM a n h ps).length<=5:=by
 unfold wM
 have:=r.k
 have:=xm a
 simp only[List.length_cons,List.length_map]
 omega
theorem Vv{ts:List T}(hl:ts.length<=5)(hp:∀t∈ts,Pt t)(q:K (.lst ((ts.map tW).map T.str)) μ):wj [.tup ts] μ K Z:=by
 unfold wj
 refine⟨rfl,?_⟩
 refine⟨by show ts.length<=room;unfold room;omega,?_⟩
 refine wm (λt=>.str (tW t)) (λt ht k hk=>?_) ?_
 ·rcases hp t ht with⟨n,rfl,hn⟩|⟨x,rfl⟩|rfl
  ·exact⟨_,rfl,KG hn,_,rfl,hk⟩
  ·exact⟨_,rfl,_,rfl,hk⟩
  ·exact⟨_,rfl,_,rfl,hk⟩
 ·rw[List.map_map] at q
  exact q
theorem xY{ts:List T}(hl:ts.length<=5)(hp:∀t∈ts,Pt t)(hj:JoinOk SPs (ts.map tW)=true)(q:K (.str (Txt.join SPs (ts.map tW))) μ):qc [.tup ts] μ K Z:=by
 unfold qc
 refine⟨rfl,?_⟩
 refine⟨by show ts.length<=room;unfold room;omega,?_⟩
 refine wm (λt=>.str (tW t)) (λt ht k hk=>?_) ?_
 ·rcases hp t ht with⟨n,rfl,hn⟩|⟨x,rfl⟩|rfl
  ·exact⟨_,rfl,KG hn,hk⟩
  ·exact⟨_,rfl,hk⟩
  ·exact⟨_,rfl,hk⟩
 ·have e:ts.map (λt=>T.str (tW t))=(ts.map tW).map T.str:=by rw[List.map_map];rfl
  rw[e]
  exact⟨_,qo _,hj,q⟩
end
section
variable {μ μ1 μ2:Mem}{K:T->Mem->Prop}{Z:Xp}{i:Nat}
structure Wk(a:Str):Prop where
 f:(32:Nat)∉cd a
 l:a.length<=50
theorem GH.wk{h:Str}(g:GH h):Wk h:=⟨g.free (by decide),by have:=g.l8;omega⟩
theorem NumT.wk{n:Int}(t:NumT n):Wk (sI n):=⟨t.f 32 (by decide) (by decide),by have:=t.l;omega⟩
theorem YS:GH ANs:=yp (by decide +kernel)
theorem Sm.wk{n:Int}(h:Sm n):Wk (sI n):=h.t.wk
theorem R8.wk{a:Str}{n:Int}{h:Str}{ps:List (Option Int)}(r:R8 a n h ps):∀w∈wV a n h ps,Wk w:=by
 intro w hw
 unfold wV at hw
 simp only[List.mem_cons] at hw
 rcases hw with rfl|rfl|rfl|hw
 ·exact r.ga.wk
 ·exact r.n.wk
 ·exact r.g.wk
 ·rcases r.sh with rfl|⟨m,hm,rfl⟩|⟨m,hm,rfl⟩|⟨l,m,hl,hm,rfl⟩
  ·cases hw
  ·simp only[List.map_cons,List.map_nil,List.mem_singleton] at hw
   rw[hw];exact hm.wk
  ·simp only[List.map_cons,List.map_nil,List.mem_cons,List.not_mem_nil,or_false] at hw
   rcases hw with rfl|rfl
   ·exact YS.wk
   ·exact hm.wk
  ·simp only[List.map_cons,List.map_nil,List.mem_cons,List.not_mem_nil,or_false] at hw
   rcases hw with rfl|rfl
   ·exact hl.wk
   ·exact hm.wk
theorem R8.lw{a:Str}{n:Int}{h:Str}{ps:List (Option Int)}(r:R8 a n h ps):3<=(wV a n h ps).length/\(wV a n h ps).length<=5:=by
 unfold wV
 have:=r.k
 have:=xm a
 simp only[List.length_cons,List.length_map]
 omega
structure Ws(ws:List Str):Prop where
 ne:ws≠[]
 l:ws.length<=12
 w:∀a∈ws,Wk a
theorem Ws.ok{ws:List Str}(h:Ws ws):JoinOk SPs ws=true:=xh (by have:=h.l;omega) (λa ha=>by have:=(h.w a ha).l;omega) (by decide)
theorem Ws.len{ws:List Str}(h:Ws ws):(Txt.join SPs ws).length<=1000:=by
 rw[show Txt.join SPs ws=Str.join SPs ws from StrLaws.glued_eq_join _ _]
 have h1:=StrLaws.join_length_le SPs ws
 have h2:=StrLaws.sumLen_le (B:=50) ws λa ha=>(h.w a ha).l
 have h3:SPs.length=1:=by decide
 rw[h3] at h1
 have h4:ws.length * 50<=12 * 50:=Nat.mul_le_mul_right _ h.l
 have:=h.l
 omega
theorem Ws.split{ws:List Str}(h:Ws ws):Txt.split (Txt.join SPs ws) SPs=ws:=by
 rw[kQ]
 exact k8 h.ne λa ha=>(h.w a ha).f
theorem Ws.room{ws:List Str}(h:Ws ws):∀a∈ws,a.length<=room:=λa ha=>by have:=(h.w a ha).l;unfold NH.room;omega
theorem R8.ws{a:Str}{n:Int}{h:Str}{ps:List (Option Int)}(r:R8 a n h ps):Ws (wV a n h ps):=⟨by unfold wV;simp,by have:=r.lw;omega,r.wk⟩
theorem R8.rd{a:Str}{n:Int}{h:Str}{ps:List (Option Int)}(r:R8 a n h ps):rdF (wV a n h ps)=some (wM a n h ps):=by
 have k:=r.k
 have hn:=r.n.t
 have hh:=r.g.hol
 have ne:∀m,Sm m->¬sI m=ANs:=λm hm e=>by
  have:=hm.t.f 97 (by decide) (by decide)
  rw[e] at this
  exact this (by decide)
 rcases r.sh with rfl|⟨m,hm,rfl⟩|⟨m,hm,rfl⟩|⟨l,m,hl,hm,rfl⟩
 ·have k:kn a=3:=k
  show rdF [a,sI n,h]=_
  simp only[rdF,k,hh,hn.ok,hn.v]
  rfl
 ·have k:kn a=4:=k
  show rdF [a,sI n,h,sI m]=_
  rw[Yc,if_pos (by rw[decide_eq_true k,hh,hn.ok,hm.t.ok];rfl),hn.v,hm.t.v]
  rfl
 ·have k:kn a=5:=k
  show rdF [a,sI n,h,ANs,sI m]=_
  rw[kz,if_pos (by rw[decide_eq_true k,hh,hn.ok,hm.t.ok,decide_eq_true rfl];rfl),if_pos rfl,hn.v,hm.t.v]
  rfl
 ·have k:kn a=5:=k
  show rdF [a,sI n,h,sI l,sI m]=_
  rw[kz,if_pos (by rw[decide_eq_true k,hh,hn.ok,hm.t.ok,hl.t.ok];simp),if_neg (ne l hl),hn.v,hm.t.v,hl.t.v]
  rfl
noncomputable def Zo(ws:List Str):Int:=match rdF ws with
 |some _ => -1
 |none=>0
theorem JU{t:Str}{ws:List Str}(ht:t.length<=room)(e:Txt.split t SPs=ws)(hw:∀a∈ws,a.length<=room)(q:K (.tup [jc ws,.int (Zo ws)]) μ):zK [.str t] μ K Z:=by
 unfold zK
 refine⟨rfl,?_⟩
 unfold jc Zo at q
 refine w6 ht e hw (λr h=>?_) λh=>?_
 ·rw[h] at q;exact q
 ·rw[h] at q
  refine⟨rfl,?_⟩
  exact q
noncomputable def xU (t:T):Prop:=∀(μ:Mem) (K:T->Mem->Prop) (Z:Xp),Z 14 [(28,.int 0)] μ->zV [t] μ K Z
theorem Vj{t:T}(b:xU t)(q:K (.tup [.non,.int 0]) μ):zK [t] μ K Z:=by
 unfold zK
 refine⟨rfl,?_⟩
 refine b _ _ _ ?_
 refine⟨rfl,?_⟩
 exact q
theorem W3{t:T}(h:(match t with|.str _=>false|.mut _=>false|.clo _ _=>false|.exc _ _=>false|.obj _ _=>false|_=>true)=true)(q:Z 14 [(28,.int 0)] μ):zZ [t] μ K Z:=by
 unfold zZ
 cases t<;>first|(cases h;done)|exact⟨rfl,by decide,q⟩
theorem xw{t:T}(h:(match t with|.str _=>false|.mut _=>false|.clo _ _=>false|.exc _ _=>false|.obj _ _=>false|_=>true)=true):xU t:=by
 intro μ K Z q
 unfold zV
 refine⟨rfl,?_⟩
 exact W3 h q
theorem vh{t:Str}{ws:List Str}(ht:t.length<=room)(e:Txt.split t SPs=ws)(hw:∀a∈ws,a.length<=room)(h:rdF ws=none):xU (.str t):=λμ K Z q=>w6 ht e hw (λr w=>by rw[h] at w;cases w) λ_=>q
theorem join_snoc{c:Nat}{b:Str}:∀{ws:List Str},ws≠[]->cd (Str.join ⟨#[c]⟩ (ws++[b]))=cd (Str.join ⟨#[c]⟩ ws)++c::cd b
 |[],h=>absurd rfl h
 |[a],_=>by rw[List.cons_append,join_cons (by simp)];rfl
 |a::a2::r,_=>by
  rw[List.cons_append,join_cons (by simp),join_snoc (ws:=a2::r) (by simp),join_cons (r:=a2::r) (by simp),List.append_assoc,List.cons_append]
theorem jn(ws:List Str):Txt.join SPs ws=Str.join ⟨#[32]⟩ ws:=by rw[kQ];exact StrLaws.glued_eq_join _ _
theorem Qg{w:Str}(h:z9 w=true):∀c∈cd w,c=45\/(48<=c/\c<=57):=by
 unfold z9 at h
 simp only[Bool.and_eq_true,decide_eq_true_eq] at h
 obtain⟨⟨⟨h1,h2⟩,h3⟩,h4⟩:=h
 have dg:∀c∈cd (fgs w),48<=c/\c<=57:=λc hc=>by
  have:=List.all_eq_true.mp h3 ⟨#[c]⟩ (List.mem_map.mpr ⟨c,hc,rfl⟩)
  rw[xG] at this
  exact of_decide_eq_true this
 by_cases e:(cd w).head?=some 45
 ·have ef:fgs w=Txt.slice w (some 1) none:=by unfold fgs;rw[if_pos e]
  have wl:1<=w.length:=by
   rw[←zF]
   cases e2:cd w with
   |nil=>rw[e2] at e;cases e
   |cons c r=>simp
  intro c hc
  rw[ef,jX wl] at dg
  cases e2:cd w with
  |nil=>rw[e2] at e;cases e
  |cons c0 r=>
   rw[e2] at e hc dg
   cases e
   rcases List.mem_cons.mp hc with rfl|hc
   ·exact .inl rfl
   ·exact .inr (dg c hc)
 ·have ef:fgs w=w:=by unfold fgs;rw[if_neg e]
  rw[ef] at dg
  exact λc hc=>.inr (dg c hc)
theorem uC{w:Str}:z9 (w++NLs)=false:=by
 cases h:z9 (w++NLs) with
 |false=>rfl
 |true=>
  have:=Qg h 10 (by rw[qL];exact List.mem_append_right _ (by decide))
  omega
theorem Xr{w:Str}:zj (w++NLs)=false:=by
 cases h:zj (w++NLs) with
 |false=>rfl
 |true=>
  unfold zj at h
  simp only[Bool.and_eq_true] at h
  have:=List.all_eq_true.mp h.2 ⟨#[10]⟩ (List.mem_map.mpr ⟨10,by rw[show (w++NLs).cps.toList=cd (w++NLs) from rfl,qL];exact List.mem_append_right _ (by decide),rfl⟩)
  revert this
  decide +kernel
noncomputable abbrev EMs:Str:=""
theorem Xx:kn EMs=0:=by decide +kernel
theorem KW:Wk EMs:=⟨by decide,by decide⟩
theorem WU{ws:List Str}(h:Ws ws)(hl:ws.length<=5):xU (.str (SPs++Txt.join SPs ws)):=by
 have w2:Ws (EMs::ws):=⟨by simp,by simp;omega,λa ha=>by rcases List.mem_cons.mp ha with rfl|ha;exact KW;exact h.w a ha⟩
 have e:SPs++Txt.join SPs ws=Txt.join SPs (EMs::ws):=vK (by
  rw[qL,jn (EMs::ws),join_cons h.ne,jn]
  rfl)
 rw[e]
 exact vh (Nat.le_trans w2.len (by decide)) w2.split w2.room (vG (by
  show decide (kn EMs=ws.length+1)=false
  rw[Xx]
  exact decide_eq_false (by omega)))
theorem WG{a:Str}{r:List Str}(h:Ws (a::r))(hl:r.length<=5)(k:kn a=r.length+1):xU (.str (Txt.join SPs (a::r)++SPs)):=by
 have w2:Ws (a::r++[EMs]):=⟨by simp,by simp;omega,λb hb=>by rcases List.mem_append.mp hb with hb|hb;exact h.w b hb;rw[List.mem_singleton.mp hb];exact KW⟩
 have e:Txt.join SPs (a::r)++SPs=Txt.join SPs (a::r++[EMs]):=vK (by
  rw[qL,jn (a::r++[EMs]),join_snoc h.ne,jn]
  rfl)
 rw[e]
 exact vh (Nat.le_trans w2.len (by decide)) w2.split w2.room (vG (by
  show decide (kn a=(r++[EMs]).length+1)=false
  rw[List.length_append,k]
  exact decide_eq_false (by simp)))
theorem xX{ini:List Str}{b:Str}(h:Ws (ini++[b]))(hi:ini≠[])(hb:rdF (ini++[b++NLs])=none):xU (.str (Txt.join SPs (ini++[b])++NLs)):=by
 have wb:=h.w b (by simp)
 have w2:Ws (ini++[b])->∀a∈ini++[b++NLs],(32:Nat)∉cd a/\a.length<=51:=λh a ha=>by
  rcases List.mem_append.mp ha with ha|ha
  ·have:=h.w a (by simp[ha])
   exact⟨this.f,by have:=this.l;omega⟩
  ·rw[List.mem_singleton.mp ha]
   refine⟨λw=>?_,?_⟩
   ·rw[qL] at w
    rcases List.mem_append.mp w with w|w
    ·exact wb.f w
    ·exact absurd w (by decide)
   ·rw[Str.length_append]
    have:=wb.l
    have:NLs.length=1:=by decide
    omega
 have e:Txt.join SPs (ini++[b])++NLs=Txt.join SPs (ini++[b++NLs]):=vK (by
  rw[qL,jn (ini++[b++NLs]),join_snoc hi,jn,join_snoc hi,qL]
  simp)
 have l1:=h.len
 have tl:(Txt.join SPs (ini++[b])++NLs).length<=room:=by
  rw[Str.length_append]
  have:NLs.length=1:=by decide
  unfold room
  omega
 refine vh tl (ws:=ini++[b++NLs]) ?_ (λa ha=>by have:=(w2 h a ha).2;unfold room;omega) hb
 rw[e,kQ]
 exact k8 (by simp) λa ha=>(w2 h a ha).1
theorem R8.nl{a:Str}{n:Int}{h:Str}{ps:List (Option Int)}(r:R8 a n h ps):xU (.str (Txt.join SPs (wV a n h ps)++NLs)):=by
 have w:=r.ws
 rcases r.sh with rfl|⟨m,hm,rfl⟩|⟨m,hm,rfl⟩|⟨l,m,hl,hm,rfl⟩
 ·exact xX (ini:=[a,sI n]) (b:=h) w (by simp) (by
   show rdF [a,sI n,h++NLs]=none
   simp only[rdF,Xr];simp)
 ·exact xX (ini:=[a,sI n,h]) (b:=sI m) w (by simp) (by
   show rdF [a,sI n,h,sI m++NLs]=none
   rw[Yc,uC];simp)
 ·exact xX (ini:=[a,sI n,h,ANs]) (b:=sI m) w (by simp) (by
   show rdF [a,sI n,h,ANs,sI m++NLs]=none
   rw[kz,uC];simp)
 ·exact xX (ini:=[a,sI n,h,sI l]) (b:=sI m) w (by simp) (by
   show rdF [a,sI n,h,sI l,sI m++NLs]=none
   rw[kz,uC];simp)
theorem yU{x:Str}{c:Nat}{r:List Nat}(h:cd x=c::r):∃s,cd (Txt.upper x)=Unicode.upperOf c++s:=by
 obtain⟨⟨l⟩⟩:=x
 have h:l=c::r:=h
 subst h
 unfold Txt.upper placed cd
 simp
theorem YG:(List.range 123).all (λc=>decide (c<97) || decide (Unicode.upperOf c=[c-32]))=true:=by decide +kernel
end
section
variable {μ μ1 μ2:Mem}{K:T->Mem->Prop}{Z:Xp}{i:Nat}
theorem ZG{c:Nat}:∀{ws:List Str} {a:Str},a∈ws->a.length<=(Str.join ⟨#[c]⟩ ws).length
 |[],a,h=>by cases h
 |[x],a,h=>by rw[List.mem_singleton.mp h];exact Nat.le_refl _
 |x::y::r,a,h=>by
  have e:=congrArg List.length (join_cons (c:=c) (a:=x) (r:=y::r) (by simp))
  rw[zF,List.length_append,List.length_cons,zF,zF] at e
  rcases List.mem_cons.mp h with rfl|h
  ·omega
  ·have:=ZG (c:=c) h;omega
theorem xb{c:Nat}{a:Str}{s:List Nat}{r:List Str}(h:cd a=c::s):∃s',cd (Str.join ⟨#[32]⟩ (a::r))=c::s':=by
 by_cases e:r=[]
 ·subst e;exact⟨s,h⟩
 ·rw[join_cons e,h];exact⟨_,rfl⟩
theorem GH.head{a:Str}(g:GH a):∃c s,cd a=c::s/\97<=c/\c<=122:=by
 cases e:cd a with
 |nil=>have:=g.l1;rw[←zF,e] at this;simp at this
 |cons c s=>exact⟨c,s,rfl,g.az c (by rw[e];simp)⟩
theorem UQ{a:Str}(h:kn a≠0):GH a:=by
 have mem:∀h∈w8,GH h:=λh hh=>by
  have:=List.all_eq_true.mp Kv h hh
  simp only[Bool.and_eq_true,decide_eq_true_eq] at this
  exact yp this.1
 unfold kn at h
 by_cases h1:("lease":Str)=a
 ·rw[←h1];exact mem _ (by simp[w8])
 by_cases h2:("ask":Str)=a
 ·rw[←h2];exact mem _ (by simp[w8])
 by_cases h3:("store":Str)=a
 ·rw[←h3];exact mem _ (by simp[w8])
 by_cases h4:("take":Str)=a
 ·rw[←h4];exact mem _ (by simp[w8])
 by_cases h5:("back":Str)=a
 ·rw[←h5];exact mem _ (by simp[w8])
 by_cases h6:("fall":Str)=a
 ·rw[←h6];exact mem _ (by simp[w8])
 by_cases h7:("bare":Str)=a
 ·rw[←h7];exact mem _ (by simp[w8])
 rw[if_neg h1,if_neg h2,if_neg h3,if_neg h4,if_neg h5,if_neg h6,if_neg h7] at h
 exact absurd rfl h
theorem X_{a:Str}{r:List Str}(h:Ws (a::r))(g:GH a):xU (.str (Txt.upper (Txt.join SPs (a::r)))):=by
 have l:=h.len
 have lu:=len_upper (Txt.join SPs (a::r))
 have tl:(Txt.upper (Txt.join SPs (a::r))).length<=room:=by unfold room;omega
 refine vh tl rfl (λb hb=>?_) (vG ?_)
 ·rw[kQ] at hb
  have:=ZG (c:=32) hb
  rw[StrLaws.join_split] at this
  rw[kQ] at tl
  omega
 ·cases e:Txt.split (Txt.upper (Txt.join SPs (a::r))) SPs with
  |nil=>rfl
  |cons b s=>
   refine decide_eq_false λk=>?_
   obtain⟨c,s1,e1,c1,_⟩:=(UQ (a:=b) (by omega)).head
   obtain⟨c0,s0,e0,d1,d2⟩:=g.head
   obtain⟨s2,e2⟩:=xb (r:=s) e1
   have j:=StrLaws.join_split (Txt.upper (Txt.join SPs (a::r))) SPs
   rw[e] at j
   rw[show Str.join SPs (b::s)=Str.join ⟨#[32]⟩ (b::s) by rw[kQ]] at j
   rw[j] at e2
   obtain⟨s3,e3⟩:=xb (r:=r) e0
   rw[←jn] at e3
   obtain⟨s4,e4⟩:=yU e3
   have up:=List.all_eq_true.mp YG c0 (List.mem_range.mpr (by omega))
   simp only[Bool.or_eq_true,decide_eq_true_eq] at up
   have up:=up.resolve_left (by omega)
   rw[e4,up] at e2
   have:=(List.cons.inj e2).1
   omega
noncomputable abbrev W20:List Str:=["any","none","lease","leases","0","-0","05","-7","+7","7.0","","anna","Anna","abcdefghi","a1",Txt.mul "1" 40,Txt.mul "1" 41,"-"++Txt.mul "1" 40,"runs","-"]
theorem Uk:W20.all (λa=>decide ((32:Nat)∉cd a)&&decide (a.length<=50))=true:=by decide +kernel
theorem Y8:∀v:Nat,v<20->∃a,wy ([T.str "any",.str "none",.str "lease",.str "leases",.str "0",.str "-0",.str "05",.str "-7",.str "+7",.str "7.0",.str "",.str "anna",.str "Anna",.str "abcdefghi",.str "a1"]++[T.str (Txt.mul "1" 40),.str (Txt.mul "1" 41),.str ("-"++Txt.mul "1" 40),.str "runs",.str "-"]) (v:Int)=some (.str a)/\Wk a:=by
 have mem:∀h∈W20,Wk h:=λh hh=>by
  have:=List.all_eq_true.mp Uk h hh
  simp only[Bool.and_eq_true,decide_eq_true_eq] at this
  exact⟨this.1,this.2⟩
 intro v hv
 have hl:W20.length=20:=rfl
 refine⟨W20[v],?_,mem _ (List.getElem_mem _)⟩
 have:v=0\/v=1\/v=2\/v=3\/v=4\/v=5\/v=6\/v=7\/v=8\/v=9\/v=10\/v=11\/v=12\/v=13\/v=14\/v=15\/v=16\/v=17\/v=18\/v=19:=by omega
 rcases this with rfl|rfl|rfl|rfl|rfl|rfl|rfl|rfl|rfl|rfl|rfl|rfl|rfl|rfl|rfl|rfl|rfl|rfl|rfl|rfl<;>rfl
theorem zJ{α β:Type}(f:α->β)(xs:List α)(l h:Option Int):zU (xs.map f) l h=(zU xs l h).map f:=by
 unfold zU
 rw[List.length_map,List.map_take,List.map_drop]
theorem ixn{n d:Nat}{a:Int}(h:0<=a):ZU n d (some a)=min a.toNat n:=by
 show (if a<0 then _ else min a.toNat n)=_
 rw[if_neg (by omega)]
theorem QY{α:Type}(xs:List α)(a:Nat):(zU xs none (some (a:Int))).length=min a xs.length:=by
 unfold zU
 rw[ixn (by omega)]
 show ((xs.drop 0).take (min ((a:Int).toNat) xs.length-0)).length=_
 rw[List.length_take,List.length_drop]
 omega
theorem jR{α:Type}(xs:List α)(a:Int)(h:0<=a):(zU xs (some a) none).length=xs.length-a.toNat:=by
 unfold zU
 rw[ixn h]
 show ((xs.drop (min a.toNat xs.length)).take (xs.length-min a.toNat xs.length)).length=_
 rw[List.length_take,List.length_drop]
 omega
theorem yK{i:Nat}{ws:List Str}(hs:St μ i)(h:Ws ws)(h3:3<=ws.length)(h5:ws.length<=5)(q:∀ws' μ',Ws ws'->Up μ i μ'->K (.lst (ws'.map T.str)) μ'):qb [.mut i,.lst (ws.map T.str)] μ K Z:=by
 have app:∀(xs ys:List Str),(∀a∈xs,Wk a)->(∀a∈ys,Wk a)->1<=xs.length+ys.length->xs.length+ys.length<=12->Ws (xs++ys):=λxs ys hx hy l1 l2=>⟨λe=>by have:=congrArg List.length e;rw[List.length_append] at this;have:xs.length+ys.length=0:=this;omega,by rw[List.length_append];omega,λa ha=>by rcases List.mem_append.mp ha with w|w;exact hx a w;exact hy a w⟩
 have cm:∀l u,∀a∈zU ws l u,Wk a:=λl u a ha=>h.w a (y9 ha)
 unfold qb
 refine⟨rfl,?_⟩
 refine⟨⟨rfl,by decide,by decide⟩,?_⟩
 refine⟨⟨rfl,by decide,by decide⟩,?_⟩
 refine⟨⟨rfl,by decide,by decide⟩,?_⟩
 refine⟨by decide +kernel,?_⟩
 refine⟨by show (15:Nat)+5<=room;decide,?_⟩
 refine qE hs (by decide) (by decide) λway μ1 w1' u1=>?_
 refine qE u1.st (by rw[List.length_map];omega) (by rw[List.length_map];omega) λat' μ2 a1 u2=>?_
 rw[List.length_map] at a1
 have t1:=QY ws at'
 have f0:=jR ws (at':Int) (by omega)
 have f1:=jR ws ((at':Int)+1) (by omega)
 have t2:=QY ws (at'+1)
 rw[show ((at'+1:Nat):Int)=(at':Int)+1 from rfl] at t2
 have sum:∀l u l2 u2,(zU (ws.map T.str) l u).length+(zU (ws.map T.str) l2 u2).length<=room:=λl u l2 u2=>by
  rw[zJ,zJ,List.length_map,List.length_map]
  have c1:(zU ws l u).length<=5:=by unfold zU;rw[List.length_take,List.length_drop];omega
  have c2:(zU ws l2 u2).length<=5:=by unfold zU;rw[List.length_take,List.length_drop];omega
  unfold room;omega
 refine qd (λe=>?_) (λe=>?_)
 ·refine⟨sum _ _ _ _,?_⟩
  have:=q _ μ2 (app (zU ws none (some (at':Int))) (zU ws (some ((at':Int)+1)) none) (cm _ _) (cm _ _) (by omega) (by omega)) (u1.trans u2)
  rw[List.map_append,←zJ,←zJ] at this
  exact this
 ·refine qd (λe2=>?_) (λe2=>?_)
  ·refine⟨sum _ _ _ _,?_⟩
   have:=q _ μ2 (app (zU ws none (some ((at':Int)+1))) (zU ws (some (at':Int)) none) (cm _ _) (cm _ _) (by omega) (by omega)) (u1.trans u2)
   rw[List.map_append,←zJ,←zJ] at this
   exact this
  ·refine qE u2.st (by decide) (by decide) λv μ3 v1 u3=>?_
   obtain⟨x,hx,wx⟩:=Y8 v (by omega)
   refine⟨_,hx,?_⟩
   refine⟨by rw[zJ,List.length_map,t1];show min at' ws.length+1<=room;unfold room;omega,?_⟩
   refine⟨by decide,?_⟩
   have m0:0<=(way:Int) % 2:=Int.emod_nonneg _ (by decide)
   have f2:=jR ws ((at':Int)+(way:Int) % 2) (by omega)
   refine⟨by rw[zJ,zJ,List.length_append,List.length_map,List.length_map,t1,f2];show min at' ws.length+1+_<=room;unfold room;omega,?_⟩
   have a2:=app (zU ws none (some (at':Int))) [x] (cm _ _) (λa ha=>by rw[List.mem_singleton.mp ha];exact wx) (by simp) (by simp;omega)
   have:=q _ μ3 (app (zU ws none (some (at':Int))++[x]) (zU ws (some ((at':Int)+(way:Int) % 2)) none) a2.w (cm _ _) (by simp;omega) (by rw[List.length_append];simp;omega)) ((u1.trans u2).trans u3)
   rw[List.map_append,List.map_append,←zJ,←zJ] at this
   exact this
theorem uJ{ts:List T}(hl:ts.length<=5)(hp:∀t∈ts,Pt t)(q:K (.bl false) μ):wa [.tup ts] μ K Z:=by
 unfold wa
 refine⟨rfl,?_⟩
 refine⟨by show ts.length<=room;unfold room;omega,?_⟩
 refine qH (λ_=>none) (λt ht k hk=>?_) ?_
 ·rcases hp t ht with⟨n,rfl,hn⟩|⟨x,rfl⟩|rfl
  ·exact⟨_,rfl,hk⟩
  ·exact⟨_,rfl,hk⟩
  ·exact⟨_,rfl,hk⟩
 ·rw[show (ts.filterMap λ_=>(none:Option T))=[] by simp]
  exact⟨by decide,_,rfl,q⟩
theorem WJ:∀{ts:List T},(∀t∈ts,Pt t)->eqL ts ts=some true
 |[],_=>by simp[eqL]
 |t::r,h=>by
  have ih:=WJ (ts:=r) λt ht=>h t (List.mem_cons_of_mem _ ht)
  rcases h t List.mem_cons_self with⟨n,rfl,hn⟩|⟨x,rfl⟩|rfl<;>simp[eqL,eqT,ih]
theorem Z3:∀{ts:List T},(∀t∈ts,Pt t)->zL ts=0
 |[],_=>by simp[zL]
 |t::r,h=>by
  have ih:=Z3 (ts:=r) λt ht=>h t (List.mem_cons_of_mem _ ht)
  rcases h t List.mem_cons_self with⟨n,rfl,hn⟩|⟨x,rfl⟩|rfl<;>simp[zL,qR,ih]
end
end NH.P
section
namespace NH.P
open PySem L2 NH PyProof.Rows
variable {μ μ1 μ2:Mem}{K:T->Mem->Prop}{Z:Xp}{i:Nat}
@[reducible] noncomputable def uh:List Ds:=[(zo 2 (za w_ [(eV 1)])),(zo 3 (za yf [(eV 2)])),(zo 4 (za wj [(eV 3)])),(zo 5 (vU (eC (.str " ")) (eV 4))),(sIf (tOr (tE (zp .NotEq (za qc [(eV 3)]) (eV 5))) (tE (zp .NotEq (za qc [(eV 3)]) (eV 5)))) [(zu (eC (.bl false)))] []),(zo 6 (za zV [(eV 5)])),(sIf (tOr (wz (tE (x_ [4] (eV 6)))) (tOr (tE (zp .NotEq (eV 6) (eV 3))) (tE (za wa [(eV 6)])))) [(zu (eC (.bl false)))] []),(zo 4 (za qb [(eV 2),(eV 4)])),(zo 7 (za wd [(eV 4)])),(sIf (tE (zp .NotEq (za zK [(vU (eC (.str " ")) (eV 4))]) (vC [(eV 7),(eIx (qm [(QU (eC (.int 1))),(eC (.int 0))]) (eB1 vP (zp .Is (eV 7) (eC .non))))]))) [(zu (eC (.bl false)))] []),(zo 8 (qm [(zi .Add (eC (.str " ")) (eV 5)),(zi .Add (eV 5) (eC (.str " "))),(zi .Add (eV 5) (eC (.str "\n"))),(JC xI xx (eV 5)),(eC .non),(eC (.int 5)),(qm [(eV 5)]),(eV 3),(eC (.str ""))])),(sIf (tE (zp .NotEq (za zK [(eIx (eV 8) (za zr [(eV 2),(eC (.int 9))]))]) (vC [(eC .non),(eC (.int 0))]))) [(zu (eC (.bl false)))] [])]
structure DW(d:T)(ln:Int):Prop where
 c:(∃r,d=.tup r/\ln = -1/\eqL r r=some true/\zL r=0)\/(d=.non/\ln=0)
theorem WW{ws:List Str}{r:List T}(h:rdF ws=some r):eqL r r=some true/\zL r=0:=by
 unfold rdF at h
 split at h
 ·split at h
  ·cases h;simp[eqL,eqT,zL,qR]
  ·cases h
 ·split at h
  ·cases h;simp[eqL,eqT,zL,qR]
  ·cases h
 ·split at h
  ·cases h
   split<;>simp[eqL,eqT,zL,qR]
  ·cases h
 ·cases h
theorem z0g(ws:List Str):DW (jc ws) (Zo ws):=by
 unfold jc Zo
 cases h:rdF ws with
 |none=>exact⟨.inr ⟨rfl,rfl⟩⟩
 |some r=>exact⟨.inl ⟨r,rfl,rfl,(WW h).1,(WW h).2⟩⟩
theorem z19{a:Str}{n:Int}{h:Str}{ps:List (Option Int)}(r:R8 a n h ps){x:Str}(hx:x=Txt.join SPs (wV a n h ps)):∀v:Nat,v<9->∃t,wy [T.str (SPs++x),.str (x++SPs),.str (x++NLs),.str (Txt.upper x),.non,.int 5,.lst [.str x],.tup (wM a n h ps),.str ""] (v:Int)=some t/\xU t:=by
 have w:=r.ws
 have l:=r.lw
 intro v hv
 have:v=0\/v=1\/v=2\/v=3\/v=4\/v=5\/v=6\/v=7\/v=8:=by omega
 rcases this with rfl|rfl|rfl|rfl|rfl|rfl|rfl|rfl|rfl
 ·exact⟨_,rfl,by rw[hx];exact WU w l.2⟩
 ·exact⟨_,rfl,by
   rw[hx]
   unfold wV at w l ⊢
   refine WG w ?_ ?_
   ·simp only[List.length_cons] at l ⊢;omega
   ·rw[r.k];simp only[List.length_cons,List.length_map];omega⟩
 ·exact⟨_,rfl,by rw[hx];exact r.nl⟩
 ·exact⟨_,rfl,by rw[hx];unfold wV at w ⊢;exact X_ w r.ga⟩
 ·exact⟨_,rfl,xw rfl⟩
 ·exact⟨_,rfl,xw rfl⟩
 ·exact⟨_,rfl,xw rfl⟩
 ·exact⟨_,rfl,xw rfl⟩
 ·refine⟨_,rfl,vh (t:=EMs) (ws:=[EMs]) (by decide) (by decide +kernel) (λa ha=>by rw[List.mem_singleton.mp ha];decide) (vG (by decide +kernel))⟩
theorem U9{E:En}{t0 t1:T}{a:Str}{n:Int}{h:Str}{ps:List (Option Int)}{x:Str}{ws:List Str}{d:T}{ln:Int}{o8:Option T}(r:R8 a n h ps)(hx:x=Txt.join SPs (wV a n h ps))(dw:DW d ln)(hs:St μ i)(hw:Ws ws)
  (ht:∀(μ:Mem) (K:T->Mem->Prop) (Z:Xp),K (.tup [d,.int ln]) μ->zK [.str (Txt.join SPs ws)] μ K Z)
  (q:∀μ' o8,E.nx [some t0,some t1,some (.mut i),some (.tup (wM a n h ps)),some (.lst (ws.map T.str)),some (.str x),some (.tup (wM a n h ps)),some d,o8] μ') :
  zO (uh.drop 9) [some t0,some t1,some (.mut i),some (.tup (wM a n h ps)),some (.lst (ws.map T.str)),some (.str x),some (.tup (wM a n h ps)),some d,o8] μ E:=by
 have xl:x.length<=1000:=by rw[hx];exact r.ws.len
 have lu:=len_upper x
 have s1:SPs.length=1:=by decide
 have s2:NLs.length=1:=by decide
 have rest:∀(μ:Mem),St μ i->zO (uh.drop 10) [some t0,some t1,some (.mut i),some (.tup (wM a n h ps)),some (.lst (ws.map T.str)),some (.str x),some (.tup (wM a n h ps)),some d,o8] μ E:=λμ hs=>by
  refine⟨by show SPs.length+x.length<=room;unfold room;omega,?_⟩
  refine⟨by show x.length+SPs.length<=room;unfold room;omega,?_⟩
  refine⟨by show x.length+NLs.length<=room;unfold room;omega,?_⟩
  refine⟨by show Builtin.Str.tooLong (Txt.upper x).length=false;exact decide_eq_false (by rw[PySem.sizeLine_eq];omega),?_⟩
  refine qE hs (by decide) (by decide) λv μ1 v1 u1=>?_
  obtain⟨t,et,bt⟩:=z19 r hx v (by omega)
  refine⟨_,et,?_⟩
  refine Vj bt ?_
  refine⟨by decide,_,rfl,?_⟩
  exact q _ _
 refine⟨_,qo _,hw.ok,?_⟩
 refine ht _ _ _ ?_
 rcases dw.c with⟨rr,rfl,rfl,e1,e2⟩|⟨rfl,rfl⟩
 ·refine⟨_,rfl,?_⟩
  refine⟨by simp[zL,qR,e2],_,(show eqL [.tup rr,.int (-1)] [.tup rr,.int (-1)]=some true by simp[eqL,eqT,e1]),?_⟩
  exact rest _ hs
 ·refine⟨_,rfl,?_⟩
  refine⟨by decide,_,rfl,?_⟩
  exact rest _ hs
theorem K4{ts:List T}{ws:List Str}(e:ts.map tW=ws)(hl:ts.length<=5)(hp:∀t∈ts,Pt t)(q:K (.lst (ws.map T.str)) μ):wj [.tup ts] μ K Z:=Vv hl hp (by rw[e];exact q)
theorem VN{ts:List T}{ws:List Str}(e:ts.map tW=ws)(hl:ts.length<=5)(hp:∀t∈ts,Pt t)(hj:JoinOk SPs ws=true)(q:K (.str (Txt.join SPs ws)) μ):qc [.tup ts] μ K Z:=xY hl hp (by rw[e];exact hj) (by rw[e];exact q)
theorem X2{t:Str}{ws:List Str}{r:List T}(h:rdF ws=some r)(ht:t.length<=room)(e:Txt.split t SPs=ws)(hw:∀a∈ws,a.length<=room)(q:K (.tup r) μ):zV [.str t] μ K Z:=w6 ht e hw (λr' w=>by rw[h] at w;cases w;exact q) λw=>by rw[h] at w;cases w
theorem YH{E:En}{t0:T}{c:Int}{o2 o3 o4 o5 o6 o7 o8:Option T}
  (q:∀τ' μ',(∃p1 p2 p3 p4 p5 p6 p7 p8,τ'=[some t0,p1,p2,p3,p4,p5,p6,p7,p8])->E.nx τ' μ') :
  zO uh [some t0,some (.int c),o2,o3,o4,o5,o6,o7,o8] μ E:=by
 refine uO λx y=>?_
 have st:St (μ++[.lst [.int x,.int y,.int 0]]) μ.length:=⟨_,_,_,zw⟩
 refine Xt st λa n h ps μ1 r u1=>?_
 have w:=r.ws
 have e:=Je a n h ps
 refine K4 e r.len r.pt ?_
 refine⟨_,qo _,w.ok,?_⟩
 refine VN e r.len r.pt w.ok ?_
 refine qv rfl ?_
 refine VN e r.len r.pt w.ok ?_
 refine qv rfl ?_
 refine X2 r.rd (Nat.le_trans w.len (by decide)) w.split w.room ?_
 refine⟨by rw[Z3 r.pt];decide,_,WJ r.pt,?_⟩
 refine uJ r.len r.pt ?_
 refine yK u1.st w r.lw.1 r.lw.2 λws' μ2 w' u2=>?_
 have u:=u1.trans u2
 refine WT (by have:=w'.l;omega) w'.room λo=>?_
 have hs:St (μ2++o) μ.length:=by
  obtain⟨p,p',p'',hp⟩:=u.st
  exact⟨p,p',p'',by rw[List.getElem?_append_left (List.getElem?_eq_some_iff.mp hp).1];exact hp⟩
 exact U9 r rfl (z0g ws') hs w' (λμ K Z k=>JU (Nat.le_trans w'.len (by decide)) w'.split w'.room k) λμ' o8=>q _ _ ⟨_,_,_,_,_,_,_,_,rfl⟩
theorem JA:Tells vw:=by
 intro ns hns
 unfold vw
 refine⟨rfl,?_⟩
 refine⟨by unfold zU ZU;simp;unfold room;omega,?_⟩
 refine Wy (λnn τ μ'=>∃p1 p2 p3 p4 p5 p6 p7 p8,τ=[some (.lst (ns.map T.int)),p1,p2,p3,p4,p5,p6,p7,p8]) ⟨_,_,_,_,_,_,_,_,rfl⟩ ?_ ?_
 ·rintro nn t τ μ' hx ⟨p1,p2,p3,p4,p5,p6,p7,p8,rfl⟩ N hN
  obtain⟨c,rfl⟩:=Qc hx
  refine⟨_,rfl,?_⟩
  exact YH λτ' μ' h=>hN _ _ h
 ·rintro τ μ' ⟨p1,p2,p3,p4,p5,p6,p7,p8,rfl⟩
  rfl
end NH.P
namespace NH.K81
open PySem L2 NH NH.P
theorem tells:Tells vw:=JA
end NH.K81
end
namespace NH.K81
open PySem PySem.Spec PyProof.Rows L2 NH NH.P PySem.W
theorem z0H{P:List Value->Prop}(h:∀a0,P [a0]):∀us:List Value,us.length=1->P us:=PL.all (n:=1) h
theorem z15{P:List Value->Prop}(h:∀a0 a1,P [a0,a1]):∀us:List Value,us.length=2->P us:=PL.all (n:=2) h
theorem all_mk {l:OpenLaw} {w:World} {K:Frag} {h:Heap} {mg:Str->Option Value} {fa C0 C1 f0 N0 ta4 f29:Addr} {od0 an0 dd0 od29 an29:Option Addr} {sl0 sl29:Array (Option Value)} {oc0 kV0 dc0 pm0 cd0 ct0 oc29 kV29 dc29 pm29 cd29 ct29:Value} {nm0 qn0:Str} {bs0 sb0:List Value} {hd0 ab0:Bool} {sn0:List Str} {co0:Option Bool} {ka0 kb0 kc0 kd0 ke0:Option Value} {tk1 tk2 ka4_0 kb4_0 ka4_1 kb4_1 ka4_2 kb4_2 ka4_3 kb4_3 ka4_4 kb4_4 ka4_5 kb4_5 ka4_6 kb4_6 tk5 tk7 tk8 tk9 tk10:Tok} {ep4:Nat} (X:K.In h) (G:h.Ns mainGlobals mg) (hfa:mg "law"=some (.ref fa))
  (e0:nsIn K mainGlobals "HouseError"=some (some (.ref C0)))
  (e1:nsIn K mainGlobals "NoText"=some (some (.ref C1)))
  (xa0:K.lookup C1=some (excClassObj nm0 qn0 C1 N0 bs0 (.ref C0::zX) hd0 sn0 sb0 ab0 co0 dd0 ka0 kb0 kc0 kd0 ke0 "ValueError.__new__"))
  (xb0:nsOkIn K N0=true)
  (xc0:nsIn K N0 "__init__"=some (some (.ref f0)))
  (xd0:typeIn K (.ref f0)=some (.type "function"))
  (xe0:findIn K (.ref C1) "__setattr__"=some (some (.builtin "object.__setattr__")))
  (xf0:findIn K (.ref C1) "line"=some none)
  (xg0:hasDictIn K C1=true)
  (xh0:keepIn K (.ref C1)=true)
  (ha0:specialIn K (.ref C0) "__getattribute__"=some (some (.builtin "type.__getattribute__")))
  (ha1:readsIn K C0 (.type "type")=true)
  (ha2:findCls K (.ref C0) (.type "type") "__init__"=some (.val (.builtin "ValueError.__init__")))
  (l0:K.lookup f0=some ⟨oc0,od0,.func (fnOf "__init__" "NoText.__init__" (qg z_) (zd z_) (zI z_) .none kV0 dc0 pm0 an0 cd0 ct0),sl0⟩)
  (c0:codeIn K cd0 "NoText.__init__"=true)
  (k0:keepIn K (.ref f0)=true)
  (v1:nsIn K mainGlobals "LETTERS"=some (some (.str "abcdefghijklmnopqrstuvwxyz" tk1)))
  (v2:nsIn K mainGlobals "LONGEST_HOLDER"=some (some (.int 8 tk2)))
  (p3:qq K "is_holder" vS)
  (v4:nsIn K mainGlobals "LENGTHS"=some (some (.ref ta4)))
  (w4:K.lookup ta4=some {cls:=.type "dict",data:=.dict #[⟨hashStr w "lease",.str "lease" ka4_0,.int 5 kb4_0⟩,⟨hashStr w "ask",.str "ask" ka4_1,.int 4 kb4_1⟩,⟨hashStr w "store",.str "store" ka4_2,.int 4 kb4_2⟩,⟨hashStr w "take",.str "take" ka4_3,.int 4 kb4_3⟩,⟨hashStr w "back",.str "back" ka4_4,.int 3 kb4_4⟩,⟨hashStr w "fall",.str "fall" ka4_5,.int 3 kb4_5⟩,⟨hashStr w "bare",.str "bare" ka4_6,.int 3 kb4_6⟩] ep4})
  (y4:(ta4 == sysModules)=false)
  (v5:nsIn K mainGlobals "WORD"=some (some (.int 0 tk5)))
  (p6:qq K "has_form" jS)
  (v7:nsIn K mainGlobals "BLANK"=some (some (.str " " tk7)))
  (v8:nsIn K mainGlobals "NO_HOUSE"=some (some (.str "any" tk8)))
  (v9:nsIn K mainGlobals "FIGURES"=some (some (.str "0123456789" tk9)))
  (v10:nsIn K mainGlobals "MOST_FIGURES"=some (some (.int 40 tk10)))
  (p11:qq K "is_number" vT)
  (p12:qq K "check_text" vt)
  (p13:qq K "read_number" wF)
  (p14:qq K "show_row" kh)
  (p15:qq K "read_rest" vQ)
  (p16:qq K "read_row" jw)
  (p17:qq K "_law_begin" kT)
  (p18:qq K "_law_next" yi)
  (p19:qq K "_law_holder" jG)
  (p20:qq K "_law_number" jN)
  (p21:qq K "_law_row" Zm)
  (p22:qq K "_law_words" xr)
  (p23:qq K "_law_number_of" wJ)
  (p24:qq K "_law_is_holder" qW)
  (p25:qq K "_law_due" jy)
  (p26:qq K "_law_changed" wD)
  (p27:qq K "_law_told" k9)
  (p28:qq K "_law_truths" jQ)
  (a29:nsIn K mainGlobals "law"=some (some (.ref f29)))
  (l29:K.lookup f29=some ⟨oc29,od29,.func (fnOf "law" "law" (qg zT) (zd zT) (zI zT) .none kV29 dc29 pm29 an29 cd29 ct29),sl29⟩)
  (c29:codeIn K cd29 "law"=true)
  (k29:keepIn K (.ref f29)=true)
  (x0:excIn K C0 zX "ValueError.__new__"=true)
  (zl:Vd K=true)
  (zc:chk K ⟨[(10,C0),(14,C1)],[]⟩ cls fld=true)
  (zg:Wl K ⟨[(10,C0),(14,C1)],[]⟩ ["ValueError","all","bool","int","isinstance","len","range","str","tuple"] [("HouseError",10)] [("NoText",14,28)]=true) :
  ∃fd:FuncData,(∀(s:Shared) (v:Value),BindsTo s fd ⟨[v],[]⟩ [("_law_script",v)])/\∀base:Heap,K.In base->base.Ns mainGlobals mg->FnOk l.prog w K mg base (CX1 l.prog w) 23 fa fd ["_law_script"] (Z4 K):=by
 have e:=hfa.symm.trans (mg_of X G a29)
 cases e
 have F0:=yW (st:=z_) l0 c0 k0
 have b0:=F0.binds (ps:=["self","line"]) λ_ _ _ _ _ _=>z15 λ_ _=>rfl
 have F29:=yW (st:=zT) l29 c29 k29
 have b29:=F29.binds (ps:=["_law_script"]) λ_ _ _ _ _ _=>z0H λ_=>rfl
 refine⟨fnOf "law" "law" (qg zT) (zd zT) (zI zT) .none kV29 dc29 pm29 an29 cd29 ct29,λs v=>.of_eq rfl,λbase kb nb=>?_⟩
 let B:=@GsB l w K mg base
 have Z:Pk RU K mg base _ _ _:=⟨Kk,kb,nb,zc⟩
 have g0:GsOk l.prog w K mg base ⟨[(10,C0),(14,C1)],[]⟩ (λ_ _ _ _=>False) 0 gs0:=uj kb nb zg ⟨⟨C0,rfl,x0⟩,trivial⟩
 have XI0:XIn K C1 C0 f0 "line":=⟨⟨N0,nm0,qn0,bs0,hd0,sn0,sb0,ab0,co0,dd0,ka0,kb0,kc0,kd0,ke0,xa0,xb0,xc0⟩,x0,xd0,xe0,xf0,xg0,xh0⟩
 have W0:FnOk l.prog w K mg base (CX1 l.prog w) 1 f0 _ ["self","line"] (spI C1 "line"):=z0l XI0 ⟨mg_of kb nb e0,ha0,ha1,ha2⟩ l0 c0 (by first|exact⟨_,_,_,_,_,_,_,_,_,_,_,rfl,rfl,.inl ⟨_,_,_,_,_,_,_,_,rfl,by decide,by decide⟩⟩|exact⟨_,_,_,_,_,_,_,_,_,_,_,rfl,rfl,.inr ⟨_,_,_,_,_,rfl,by decide⟩⟩) rfl
 have g1:B 2 gs1:=GsOk.add (g0.mono (by decide)) ⟨C1,C0,f0,_,_,1,rfl,mg_of kb nb e1,rfl,XI0,b0,by decide,W0⟩ rfl
 have g2:B 2 gs2:=GsOk.add g1 ⟨C1,C0,f0,_,_,1,rfl,mg_of kb nb e1,rfl,XI0,b0,by decide,W0⟩ rfl
 have g3:B 2 gs3:=GsOk.add g2 ⟨_,(.str "abcdefghijklmnopqrstuvwxyz"),mg_of kb nb v1,⟨_,rfl⟩,λ_ _ _=>rfl⟩ rfl
 have g4:B 2 gs4:=GsOk.add g3 ⟨_,(.int 8),mg_of kb nb v2,⟨_,rfl⟩,λ_ _ _=>rfl⟩ rfl
 have g5:B 3 gs5:=Z.fn (ps:=["thing"]) p3 g4 ym rfl rfl (λ_ _ _ _ _ _ _=>rfl) rfl
 have g6:B 3 gs6:=GsOk.add g5 (U4 (mg_of kb nb v4) y4 w4 ⟨⟨_,_,rfl⟩,⟨_,_,rfl⟩,⟨_,_,rfl⟩,⟨_,_,rfl⟩,⟨_,_,rfl⟩,⟨_,_,rfl⟩,⟨_,_,rfl⟩,trivial⟩ (by decide)) rfl
 have g7:B 3 gs7:=GsOk.add g6 ⟨_,(.int 0),mg_of kb nb v5,⟨_,rfl⟩,λ_ _ _=>rfl⟩ rfl
 have g8:B 4 gs8:=Z.fn (ps:=["parts"]) p6 g7 uz rfl rfl (λ_ _ _ _ _ _ _=>rfl) rfl
 have g9:B 4 gs9:=GsOk.add g8 ⟨_,(.str " "),mg_of kb nb v7,⟨_,rfl⟩,λ_ _ _=>rfl⟩ rfl
 have g10:B 4 Ut:=GsOk.add g9 ⟨_,(.str "any"),mg_of kb nb v8,⟨_,rfl⟩,λ_ _ _=>rfl⟩ rfl
 have g11:B 4 UB:=GsOk.add g10 ⟨_,(.str "0123456789"),mg_of kb nb v9,⟨_,rfl⟩,λ_ _ _=>rfl⟩ rfl
 have g12:B 4 Xq:=GsOk.add g11 ⟨_,(.int 40),mg_of kb nb v10,⟨_,rfl⟩,λ_ _ _=>rfl⟩ rfl
 have g13:B 5 Y4:=Z.fn (ps:=["word"]) p11 g12 yH rfl rfl (λ_ _ _ _ _ _ _=>rfl) rfl
 have g14:B 6 Xg:=Z.fn (ps:=["thing"]) p12 g13 xO rfl rfl (λ_ _ _ _ _ _ _=>rfl) rfl
 have g15:B 7 YB:=Z.fn (ps:=["word"]) p13 g14 ky rfl rfl (λ_ _ _ _ _ _ _=>rfl) rfl
 have g16:B 8 Xs:=Z.fn (ps:=["row"]) p14 g15 uQ rfl rfl (λ_ _ _ _ _ _ _=>rfl) rfl
 have g17:B 9 XG:=Z.fn (ps:=["words"]) p15 g16 yz rfl rfl (λ_ _ _ _ _ _ _=>rfl) rfl
 have g18:B 10 Y0:=Z.fn (ps:=["text"]) p16 g17 uP rfl rfl (λ_ _ _ _ _ _ _=>rfl) rfl
 have g19:B 11 Y6:=Z.fn (ps:=["_law_cell"]) p17 g18 ZJ rfl rfl (λ_ _ _ _ _ _ _=>rfl) rfl
 have g20:B 12 YE:=Z.fn (ps:=["_law_state","_law_base"]) p18 g19 Vl rfl rfl (λ_ _ _ _ _ _ _ _=>rfl) rfl
 have g21:B 13 U7:=Z.fn (ps:=["_law_state"]) p19 g20 yX rfl rfl (λ_ _ _ _ _ _ _=>rfl) rfl
 have g22:B 14 Yw:=Z.fn (ps:=["_law_state"]) p20 g21 ui rfl rfl (λ_ _ _ _ _ _ _=>rfl) rfl
 have g23:B 15 X3:=Z.fn (ps:=["_law_state"]) p21 g22 JP rfl rfl (λ_ _ _ _ _ _ _=>rfl) rfl
 have g24:B 16 Yj:=Z.fn (ps:=["_law_row_here"]) p22 g23 Qk rfl rfl (λ_ _ _ _ _ _ _=>rfl) rfl
 have g25:B 17 YD:=Z.fn (ps:=["_law_word"]) p23 g24 kE rfl rfl (λ_ _ _ _ _ _ _=>rfl) rfl
 have g26:B 18 Ui:=Z.fn (ps:=["_law_word"]) p24 g25 j4 rfl rfl (λ_ _ _ _ _ _ _=>rfl) rfl
 have g27:B 19 XH:=Z.fn (ps:=["_law_words_here"]) p25 g26 uK rfl rfl (λ_ _ _ _ _ _ _=>rfl) rfl
 have g28:B 20 Uh:=Z.fn (ps:=["_law_state","_law_words_here"]) p26 g27 km rfl rfl (λ_ _ _ _ _ _ _ _=>rfl) rfl
 have g29:B 21 Ym:=Z.fn (ps:=["_law_text"]) p27 g28 uV rfl rfl (λ_ _ _ _ _ _ _=>rfl) rfl
 have g30:B 22 z07:=Z.fn (ps:=["_law_row_here"]) p28 g29 yZ rfl rfl (λ_ _ _ _ _ _ _=>rfl) rfl
 have W29:FnOk l.prog w K mg base (CX1 l.prog w) 23 fa _ ["_law_script"] (spN _ 1 vw):=Zr (m:=8) Kk (KP (N:=["_law_script","_law_cell","_law_state","_law_row_here","_law_words_here","_law_text","_law_found","_law_due_here","_law_odd"]) (G:=["_law_begin","_law_row","_law_words","show_row","read_row","isinstance","tuple","_law_truths","_law_changed","_law_due","_law_told","int","_law_next"]) (cel:=[]) (own:=[]) (lam:=none) kb nb zc g30) l29 c29 rfl rfl Qs
 exact XE (f:=vw) zl tells W29
end NH.K81
section
open PySem PySem.W PyProof.Rows
set_option maxRecDepth 100000 in
set_option maxHeartbeats 0 in
theorem PySem.Challenge.cw_namehouses_k81_rows_as_texts_holds : PySem.Challenge.rw_namehouses_k81_rows_as_texts.Holds := by
 w_on;o_law;k_head;(case hw=>w_witness2)
 k_fill
 refine NH.walk (l:=PySem.Challenge.rw_namehouses_k81_rows_as_texts) (k:=23) (x:="_law_script") (by decide) rfl rfl (λw h Y=>PySem.W.kIn_of Y) ?F
 case F=>
  intro w mg fa h KX G hmg
  refine' NH.K81.all_mk KX G hmg ?ze0 ?ze1 ?zxa0 ?zxb0 ?zxc0 ?zxd0 ?zxe0 ?zxf0 ?zxg0 ?zxh0 ?zha0 ?zha1 ?zha2 ?zl0 ?zc0 ?zk0 ?zv1 ?zv2 ?zp3 ?zv4 ?zw4 ?zy4 ?zv5 ?zp6 ?zv7 ?zv8 ?zv9 ?zv10 ?zp11 ?zp12 ?zp13 ?zp14 ?zp15 ?zp16 ?zp17 ?zp18 ?zp19 ?zp20 ?zp21 ?zp22 ?zp23 ?zp24 ?zp25 ?zp26 ?zp27 ?zp28 ?za29 ?zl29 ?zc29 ?zk29 ?zx0 ?zzl ?zzc ?zzg
  (case ze0=>k_is)
  (case ze1=>k_is)
  (case zxa0=>k_is)
  (case zxb0=>kernel_rfl)
  (case zxc0=>k_is)
  (case zxd0=>k_is)
  (case zxe0=>k_is)
  (case zxf0=>k_is)
  (case zxg0=>k_is)
  (case zxh0=>k_is)
  (case zha0=>k_is)
  (case zha1=>k_is)
  (case zha2=>k_is)
  (case zl0=>k_is)
  (case zc0=>k_is)
  (case zk0=>k_is)
  (case zv1=>k_is)
  (case zv2=>k_is)
  (case zp3=>exact NH.dfp (by k_is) (by k_is) (by k_is) (by k_is))
  (case zv4=>k_is)
  (case zw4=>exact rfl)
  (case zy4=>decide)
  (case zv5=>k_is)
  (case zp6=>exact NH.dfp (by k_is) (by k_is) (by k_is) (by k_is))
  (case zv7=>k_is)
  (case zv8=>k_is)
  (case zv9=>k_is)
  (case zv10=>k_is)
  (case zp11=>exact NH.dfp (by k_is) (by k_is) (by k_is) (by k_is))
  (case zp12=>exact NH.dfp (by k_is) (by k_is) (by k_is) (by k_is))
  (case zp13=>exact NH.dfp (by k_is) (by k_is) (by k_is) (by k_is))
  (case zp14=>exact NH.dfp (by k_is) (by k_is) (by k_is) (by k_is))
  (case zp15=>exact NH.dfp (by k_is) (by k_is) (by k_is) (by k_is))
  (case zp16=>exact NH.dfp (by k_is) (by k_is) (by k_is) (by k_is))
  (case zp17=>exact NH.dfp (by k_is) (by k_is) (by k_is) (by k_is))
  (case zp18=>exact NH.dfp (by k_is) (by k_is) (by k_is) (by k_is))
  (case zp19=>exact NH.dfp (by k_is) (by k_is) (by k_is) (by k_is))
  (case zp20=>exact NH.dfp (by k_is) (by k_is) (by k_is) (by k_is))
  (case zp21=>exact NH.dfp (by k_is) (by k_is) (by k_is) (by k_is))
  (case zp22=>exact NH.dfp (by k_is) (by k_is) (by k_is) (by k_is))
  (case zp23=>exact NH.dfp (by k_is) (by k_is) (by k_is) (by k_is))
  (case zp24=>exact NH.dfp (by k_is) (by k_is) (by k_is) (by k_is))
  (case zp25=>exact NH.dfp (by k_is) (by k_is) (by k_is) (by k_is))
  (case zp26=>exact NH.dfp (by k_is) (by k_is) (by k_is) (by k_is))
  (case zp27=>exact NH.dfp (by k_is) (by k_is) (by k_is) (by k_is))
  (case zp28=>exact NH.dfp (by k_is) (by k_is) (by k_is) (by k_is))
  (case za29=>k_is)
  (case zl29=>k_is)
  (case zc29=>k_is)
  (case zk29=>k_is)
  (case zx0=>k_exc)
  (case zzl=>exact rfl)
  (case zzc=>exact rfl)
  (case zzg=>exact rfl)
end
