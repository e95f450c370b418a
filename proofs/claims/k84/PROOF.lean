import PyProof.Rows.All
import Wide.All
import OpenK.AllK
import Wide.FinOn
import Lean
import PyProof.EqAt
import PyProof.EqKinds
import PyProof.TupleCall
import PyProof.StationsW
import PySem.Syntax
import KE.KLam
import PyProof.StrBlockH
import KE.KRevIter
import PyProof.JoinWalk
import PyProof.CollectIter
import PyProof.StrCalls
import PyProof.DictStraight
import PyProof.Rows.Range3
import PyProof.StrWalks
import PyProof.LongRange
import KE.KTryMore
import KE.KItem
import PyProof.NsDelKeeps
import PyProof.DictTable
import PyProof.WalkInts
import PyProof.Rows.SortStr
import PyProof.Rows.SortWalk
import PyProof.EnumMake
import PyProof.EnumFor
import KE.KRevSl
import PyProof.Rows.StrNews
import KE.KMinBuiltin
import KE.KSortKey
import PyProof.ZipIter
import PyProof.ExcInit
import PyProof.ExcClass2
import PyProof.InstStoreFacts
import PyProof.FString
import KE.LcSums
import PyProof.AttrMissHeap
import PyProof.Rows.SetFrom
import KE.KDictOf
import KE.KIntText
import PyProof.StrBlock2
import PyProof.StrReplace2
import KE.BitLaws
import PyProof.Rows.StrFit
import PyProof.StrLawsTight
import PyProof.Rows.StrSplitAre
import PyProof.Rows.StrClose5
import PyProof.StrLawsNeg
import PySem.Challenge.RW_namehouses_k84_lines_of_no_book
set_option Elab.async false
set_option linter.all false
set_option maxRecDepth 100000
set_option maxHeartbeats 4000000
set_option bootstrap.genMatcherCode false
noncomputable section
namespace PySem.W.Fast
theorem tw10816258615614957687:True:=⟨⟩
theorem tw14593091782763173269:True:=⟨⟩
theorem tw10215029080050518688:True:=⟨⟩
theorem tw10525577669556517274:True:=⟨⟩
theorem tw10097317320483046128:True:=⟨⟩
theorem tw9502379774561321725:True:=⟨⟩
theorem tw16780919934778938993:True:=⟨⟩
theorem tw17093517490338506853:True:=⟨⟩
theorem tw7661310746214836481:True:=⟨⟩
theorem tw8881003968342545765:True:=⟨⟩
theorem tw15954927919982633892:True:=⟨⟩
theorem tw8724835926563537513:True:=⟨⟩
theorem tw8882313457186120512:True:=⟨⟩
theorem tw11465233859275879409:True:=⟨⟩
theorem tw12781104441090400281:True:=⟨⟩
theorem tw1730156374609016820:True:=⟨⟩
theorem tw13644650123164119845:True:=⟨⟩
theorem tw15428879484822704307:True:=⟨⟩
theorem tw17383377094937461510:True:=⟨⟩
theorem tw1182989139812139532:True:=⟨⟩
theorem tw1333800486069231842:True:=⟨⟩
theorem tw9051607749667444918:True:=⟨⟩
theorem tw10112170917803978809:True:=⟨⟩
theorem tw1120342393665596173:True:=⟨⟩
theorem tw17032009623497287512:True:=⟨⟩
theorem tw9015052773646143248:True:=⟨⟩
theorem tw14123697390914461678:True:=⟨⟩
theorem tw16561346387296727377:True:=⟨⟩
theorem tw6707210177109403126:True:=⟨⟩
theorem tw6372131006951770243:True:=⟨⟩
theorem tw3885441427338597780:True:=⟨⟩
theorem tw5097731510510285652:True:=⟨⟩
theorem tw10480970283676430510:True:=⟨⟩
theorem tw14858351725980170461:True:=⟨⟩
theorem tw13498100470524583179:True:=⟨⟩
theorem tw817288948633438711:True:=⟨⟩
theorem tw4338139889777592960:True:=⟨⟩
theorem tw10069371541245741746:True:=⟨⟩
theorem tw7142178544246329857:True:=⟨⟩
theorem tw1752666393895792915:True:=⟨⟩
theorem tw14998501965531264171:True:=⟨⟩
theorem tw7806076670860281256:True:=⟨⟩
theorem tw6867215417124465282:True:=⟨⟩
theorem tw3146832564920338124:True:=⟨⟩
theorem tw12275096733569879136:True:=⟨⟩
theorem tw6204916855258106609:True:=⟨⟩
theorem tw10082442563063205274:True:=⟨⟩
theorem tw3606415912069635112:True:=⟨⟩
theorem tw13271599928573097096:True:=⟨⟩
theorem tw6990279069194266823:True:=⟨⟩
theorem tw11275125014455257781:True:=⟨⟩
theorem tw10712514192861963790:True:=⟨⟩
theorem tw1039997409677021964:True:=⟨⟩
theorem tw16671893319702200193:True:=⟨⟩
theorem tw14423693336384605070:True:=⟨⟩
theorem tw12238958201989336085:True:=⟨⟩
theorem tw7502540641175277753:True:=⟨⟩
theorem tw18265106870336960502:True:=⟨⟩
theorem tw2925838998870098465:True:=⟨⟩
theorem tw7280490875209953002:True:=⟨⟩
theorem tw6447043500317457171:True:=⟨⟩
theorem tw4211979510177305588:True:=⟨⟩
theorem tw13737739945639981856:True:=⟨⟩
theorem tw16407070123374894067:True:=⟨⟩
theorem tw9197229935098441914:True:=⟨⟩
theorem tw141436825858118423:True:=⟨⟩
theorem tw17755901588273182930:True:=⟨⟩
theorem tw11086704074125585506:True:=⟨⟩
theorem tw7803073220394830674:True:=⟨⟩
theorem tw10360313259775905313:True:=⟨⟩
theorem tw17667375788608708426:True:=⟨⟩
theorem tw8401416411297559888:True:=⟨⟩
theorem tw10419468730495702558:True:=⟨⟩
theorem tw5430093290174410235:True:=⟨⟩
theorem tw13861545726885826874:True:=⟨⟩
theorem tw4362330802748428055:True:=⟨⟩
theorem tw15884445654912309908:True:=⟨⟩
theorem tw18434584669250022219:True:=⟨⟩
theorem tw7336445932646956561:True:=⟨⟩
theorem tw7199267077417722457:True:=⟨⟩
theorem tw7080906916060463723:True:=⟨⟩
theorem tw5181181760100490329:True:=⟨⟩
theorem tw12877359804370617182:True:=⟨⟩
theorem tw5854090026148352073:True:=⟨⟩
theorem tw12283129252492069898:True:=⟨⟩
theorem tw11714638748223577721:True:=⟨⟩
theorem tw12148737239495921526:True:=⟨⟩
theorem tw6173639264348437073:True:=⟨⟩
theorem tw169026850220058276:True:=⟨⟩
theorem tw9684173805959192373:True:=⟨⟩
theorem tw16432012885249388103:True:=⟨⟩
theorem tw17173434522343871429:True:=⟨⟩
theorem tw9124268898667322703:True:=⟨⟩
theorem tw1471057382973867760:True:=⟨⟩
theorem tw13316700225367999992:True:=⟨⟩
theorem tw4952584259867550862:True:=⟨⟩
theorem tw7381646562244081310:True:=⟨⟩
theorem tw12044068837703512794:True:=⟨⟩
theorem tw7097903015650800099:True:=⟨⟩
theorem tw14939364815252761065:True:=⟨⟩
theorem tw12713999608937843560:True:=⟨⟩
theorem tw271561331522985725:True:=⟨⟩
theorem tw4374681237534984521:True:=⟨⟩
theorem tw11037191706877450470:True:=⟨⟩
theorem tw5348376013515378608:True:=⟨⟩
theorem tw15125321468990752928:True:=⟨⟩
theorem tw15608271290878708448:True:=⟨⟩
theorem tw4916639712598500405:True:=⟨⟩
theorem tw3271945344527980905:True:=⟨⟩
theorem tw8544779528622216070:True:=⟨⟩
theorem tw2116587482518967483:True:=⟨⟩
theorem tw9589781303917727100:True:=⟨⟩
theorem tw6056016013673975444:True:=⟨⟩
theorem tw9064781577158914028:True:=⟨⟩
theorem tw4993556983703025086:True:=⟨⟩
theorem tw14132403790296635005:True:=⟨⟩
theorem tw4534796297540390587:True:=⟨⟩
theorem tw1345428061508939555:True:=⟨⟩
theorem tw4737590104984632316:True:=⟨⟩
theorem tw14678646728570756236:True:=⟨⟩
theorem tw11247614115083398113:True:=⟨⟩
theorem tw11547887197289829646:True:=⟨⟩
theorem tw9514351070417471208:True:=⟨⟩
theorem tw6777946769257810193:True:=⟨⟩
theorem tw5623484526148804925:True:=⟨⟩
theorem tw8215958666682255136:True:=⟨⟩
theorem tw3173540092054132237:True:=⟨⟩
theorem tw141061785229704411:True:=⟨⟩
theorem tw9143808316529240916:True:=⟨⟩
theorem tw6651179638337180494:True:=⟨⟩
theorem tw1320891526406245375:True:=⟨⟩
theorem tw17395050892860192271:True:=⟨⟩
theorem tw2041835624428612063:True:=⟨⟩
theorem tw5566176176453006546:True:=⟨⟩
theorem tw8429753090366936832:True:=⟨⟩
theorem tw11665944615468195920:True:=⟨⟩
theorem tw4340023197053029838:True:=⟨⟩
theorem tw15056614135490102310:True:=⟨⟩
theorem tw12122132630653815450:True:=⟨⟩
theorem tw11044429556363429205:True:=⟨⟩
theorem tw15265669355042377421:True:=⟨⟩
theorem tw15940319339709313079:True:=⟨⟩
theorem tw11113761048182777410:True:=⟨⟩
theorem tw17399336440638477735:True:=⟨⟩
theorem tw18050437311636418594:True:=⟨⟩
theorem tw17299512685831792800:True:=⟨⟩
theorem tw14678979180491081503:True:=⟨⟩
theorem tw16677531653457269810:True:=⟨⟩
theorem tw7347185472127002629:True:=⟨⟩
theorem tw1442923874937194111:True:=⟨⟩
theorem tw17656078155767913736:True:=⟨⟩
theorem tw7378516850480460146:True:=⟨⟩
theorem tw15588996558013605537:True:=⟨⟩
theorem tw18091004368634325966:True:=⟨⟩
theorem tw10414451501787780865:True:=⟨⟩
theorem tw264253693581626985:True:=⟨⟩
theorem tw5701992260863865810:True:=⟨⟩
theorem tw12280872647178831096:True:=⟨⟩
theorem tw11810244436610343490:True:=⟨⟩
theorem tw16826967341032400290:True:=⟨⟩
theorem tw10500801415147195135:True:=⟨⟩
theorem tw12535452558938691257:True:=⟨⟩
theorem tw13849635769545764352:True:=⟨⟩
theorem tw15315712487966000419:True:=⟨⟩
theorem tw219028323693141499:True:=⟨⟩
theorem tw609177335193913649:True:=⟨⟩
theorem tw10689718053839143948:True:=⟨⟩
theorem tw11721458535433022811:True:=⟨⟩
theorem tw15869546554834978225:True:=⟨⟩
theorem tw14850618378222257362:True:=⟨⟩
theorem tw10892884860160433792:True:=⟨⟩
theorem tw3762527160265847049:True:=⟨⟩
theorem tw18412240352086251950:True:=⟨⟩
theorem tw2242845707837210227:True:=⟨⟩
theorem tw13483524322787904036:True:=⟨⟩
theorem tw2564609018153341697:True:=⟨⟩
theorem tw12477977333240565063:True:=⟨⟩
theorem tw10097573390685704612:True:=⟨⟩
theorem tw7792372499114774804:True:=⟨⟩
theorem tw16719241005930154678:True:=⟨⟩
theorem tw11831110728409056792:True:=⟨⟩
theorem tw8221627915964902:True:=⟨⟩
theorem tw6814073501416256078:True:=⟨⟩
theorem tw6244011268120242656:True:=⟨⟩
theorem tw5002372178823847123:True:=⟨⟩
theorem tw17404903155615523301:True:=⟨⟩
theorem tw8944848382859479333:True:=⟨⟩
theorem tw4999686103768867365:True:=⟨⟩
theorem tw331243151718472293:True:=⟨⟩
theorem tw15728571811008136874:True:=⟨⟩
theorem tw17828632218503720705:True:=⟨⟩
theorem tw9781028498893392453:True:=⟨⟩
theorem tw15243658757820353302:True:=⟨⟩
theorem tw10019777668326962773:True:=⟨⟩
theorem tw1217754980415005589:True:=⟨⟩
theorem tw6989771021541526957:True:=⟨⟩
theorem tw14485474178146327048:True:=⟨⟩
theorem tw17344954650055140701:True:=⟨⟩
theorem tw7357307807793111539:True:=⟨⟩
theorem tw11398290088195063787:True:=⟨⟩
theorem tw6443398570707576182:True:=⟨⟩
theorem tw11536137694242715265:True:=⟨⟩
theorem tw15455576919536834198:True:=⟨⟩
theorem tw2747422699597562437:True:=⟨⟩
theorem tw12864088542161750456:True:=⟨⟩
theorem tw5317706213016249522:True:=⟨⟩
theorem tw5493641886529314355:True:=⟨⟩
theorem tw3210447044429590237:True:=⟨⟩
theorem tw16189700855075006206:True:=⟨⟩
theorem tw3671890334782470095:True:=⟨⟩
theorem tw11925849831151548421:True:=⟨⟩
theorem tw11421054882857785390:True:=⟨⟩
theorem tw10579579774028741141:True:=⟨⟩
theorem tw15823986367861748320:True:=⟨⟩
theorem tw17463589632692508105:True:=⟨⟩
theorem tw4822361564455882676:True:=⟨⟩
theorem tw16334244546989627027:True:=⟨⟩
theorem tw6132690433040810048:True:=⟨⟩
theorem tw2104603038359179095:True:=⟨⟩
theorem tw5424307462826977191:True:=⟨⟩
end PySem.W.Fast
section
set_option Elab.async false
namespace L2
open PySem PySem.Spec PyProof.Rows
noncomputable abbrev Key:=Sum Int Str
noncomputable def Xh:Key->Value->Bool
 |.inl k,v=>Value.isInt k v
 |.inr x,v=>Value.isStrOf x v
noncomputable def z10 (w:World):Key->Int
 |.inl k=>hashInt k
 |.inr x=>hashStr w x
theorem zw:∀{k:Key} {v:Value},Xh k v=true->(∃i t,k=Sum.inl i/\v=Value.int i t)\/(∃x t,k=Sum.inr x/\v=Value.str x t)
 |.inl i,v,h=>by
  obtain⟨t,e⟩:=Value.isInt_shape (k:=i) (v:=v) h
  exact .inl ⟨i,t,rfl,e⟩
 |.inr x,v,h=>by
  obtain⟨t,e⟩:=Value.isStrOf_shape (x:=x) (v:=v) h
  exact .inr ⟨x,t,rfl,e⟩
theorem XM(a b:Int):decide ((Sum.inl a:Key)=Sum.inl b)=(a == b):=by
 by_cases e:a=b
 ·subst e;simp
 ·have h:¬(Sum.inl a:Key)=Sum.inl b:=λq=>e (Sum.inl.inj q)
  rw[decide_eq_false h]
  exact (beq_eq_false_iff_ne.mpr e).symm
theorem Yi(a b:Str):decide ((Sum.inr a:Key)=Sum.inr b)=decide (a=b):=by
 by_cases e:a=b
 ·subst e;simp
 ·have h:¬(Sum.inr a:Key)=Sum.inr b:=λq=>e (Sum.inr.inj q)
  rw[decide_eq_false h,decide_eq_false e]
theorem YI(a:Int)(b:Str):decide ((Sum.inl a:Key)=Sum.inr b)=false:=decide_eq_false (λq=>nomatch q)
theorem YC(a:Str)(b:Int):decide ((Sum.inr a:Key)=Sum.inl b)=false:=decide_eq_false (λq=>nomatch q)
noncomputable def xX(prog:Program)(w:World):PySem.KeyKind prog w Key where
 is:=Xh
 hash:=z10 w
 inj:=λv a b ha hb=>by
  rcases zw ha with⟨i,t,rfl,rfl⟩|⟨x,t,rfl,rfl⟩
  ·rcases zw hb with⟨j,u,rfl,e⟩|⟨y,u,rfl,e⟩
   ·injection e with e1 _;rw[e1]
   ·exact nomatch e
  ·rcases zw hb with⟨j,u,rfl,e⟩|⟨y,u,rfl,e⟩
   ·exact nomatch e
   ·injection e with e1 _;rw[e1]
 byValue:=λk v h=>by
  rcases zw h with⟨i,t,rfl,rfl⟩|⟨x,t,rfl,rfl⟩<;>rfl
 pyHash:=λhv h=>by
  rcases zw hv with⟨i,t,rfl,rfl⟩|⟨x,t,rfl,rfl⟩
  ·exact wpAny_pyHash_int h
  ·exact wpAny_pyHash_str h
 eqBool:=λhu hv h=>by
  rcases zw hu with⟨i,t,rfl,rfl⟩|⟨x,t,rfl,rfl⟩
  ·rcases zw hv with⟨j,u,rfl,rfl⟩|⟨y,u,rfl,rfl⟩
   ·rw[XM] at h;exact wpAny_eqBool_int h
   ·rw[YI] at h;exact SeqAt.EqAt.int_str i t y u _ _ _ _ h
  ·rcases zw hv with⟨j,u,rfl,rfl⟩|⟨y,u,rfl,rfl⟩
   ·rw[YC] at h;exact SeqAt.EqAt.str_int x t j u _ _ _ _ h
   ·rw[Yi] at h;exact wpAny_eqBool_str h
 «strs»:=λk x t v h=>by
  rcases zw h with⟨i,u,rfl,e⟩|⟨y,u,rfl,e⟩
  ·exact nomatch e
  ·injection e with e1 _
   subst e1
   cases v<;>rfl
end L2
namespace L2
open PySem PySem.Spec PyProof.Rows
inductive V where
 |non|bl (b:Bool)|int (i:Int)|str (x:Str)|byt (b:Array UInt8)|flt (b:UInt64)|ref (a:Addr)|ty (n:String)
 deriving DecidableEq
noncomputable def RelV:V->Value->Prop
 |.non,u=>u=Value.none
 |.bl b,u=>u=Value.bool b
 |.int i,u=>∃t,u=Value.int i t
 |.str x,u=>∃t,u=Value.str x t
 |.byt b,u=>∃t,u=Value.bytes b t
 |.flt b,u=>∃t,u=Value.float b t
 |.ref a,u=>u=Value.ref a
 |.ty n,u=>u=Value.type n
abbrev Vals:List V->List Value->Prop:=Paired RelV
theorem Vals.length{xs:List V}{us:List Value}(r:Vals xs us):xs.length=us.length:=Paired.length r
theorem Vals.get:∀{xs:List V} {us:List Value} {i:Nat} {x:V},Vals xs us->xs[i]?=some x->∃u,us[i]?=some u/\RelV x u
 |_,_,_,_,.nil,e=>by simp at e
 |_,_,0,_,.cons r _,e=>by simp at e;subst e;exact⟨_,rfl,r⟩
 |_,_,i+1,x,.cons _ t,e=>by
  obtain⟨u,h1,h2⟩:=Vals.get (i:=i) (x:=x) t (by simpa using e)
  exact⟨u,by simpa using h1,h2⟩
theorem Vals.set{x:V}{u:Value}(r:RelV x u):∀{xs:List V} {us:List Value} (i:Nat),Vals xs us->Vals (xs.set i x) (us.set i u)
 |_,_,_,.nil=>.nil
 |_,_,0,.cons _ t=>.cons r t
 |_,_,i+1,.cons q t=>.cons q (Vals.set r i t)
theorem Vals.append:∀{xs ys:List V} {us ws:List Value},Vals xs us->Vals ys ws->Vals (xs++ys) (us++ws)
 |_,_,_,_,.nil,s=>s
 |_,_,_,_,.cons r t,s=>.cons r (Vals.append t s)
theorem Vals.take:∀{xs:List V} {us:List Value} (n:Nat),Vals xs us->Vals (xs.take n) (us.take n)
 |_,_,0,_=>.nil
 |_,_,_+1,.nil=>.nil
 |_,_,n+1,.cons r t=>.cons r (Vals.take n t)
theorem Vals.drop:∀{xs:List V} {us:List Value} (n:Nat),Vals xs us->Vals (xs.drop n) (us.drop n)
 |_,_,0,r=>r
 |_,_,_+1,.nil=>.nil
 |_,_,n+1,.cons _ t=>Vals.drop n t
noncomputable def RelO:Option V->Option Value->Prop
 |some v,some u=>RelV v u
 |none,none=>True
 |_,_=>False
noncomputable def KV {κ:Type}:List (κ×V)->List (κ×Value)->Prop:=Paired λ(p:κ×V) (q:κ×Value)=>p.1=q.1/\RelV p.2 q.2
noncomputable def kV:Key->V
 |.inl i=>.int i
 |.inr x=>.str x
inductive HO where
 |lst (xs:List V)
 |tup (xs:List V)
 |dK (kvs:List (Key×V))|dT (kvs:List (List Key×V))
 |set (S:Int->Bool) (n:Nat)
 |ins (C dx:Addr) (fs:List (Str×V))
 |own (x:Addr)
 |xd (fs:List (Str×V))
 |met (f x:Addr)
 |rng (lo hi:Int)
 |frz (o:Obj) (u:HO)
 |tbl (ps:Array Value)
 |ext (φ:Heap->Prop)
noncomputable abbrev Hp:=Addr->Option HO
noncomputable def upd (H:Hp)(a:Addr)(o:HO):Hp:=λb=>if b=a then some o else H b
theorem z7{H:Hp}{a:Addr}{o:HO}:upd H a o a=some o:=by unfold upd;rw[if_pos rfl]
theorem z8{H:Hp}{a b:Addr}{o:HO}(h:b≠a):upd H a o b=H b:=by unfold upd;rw[if_neg h]
theorem jd{H:Hp}{a:Addr}{o u:HO}:upd (upd H a o) a u=upd H a u:=by
 funext b;unfold upd;split<;>rfl
theorem zD{H:Hp}{a b:Addr}{o:HO}(h:H a=some o)(h':H b=none):a≠b:=by
 intro e;subst e;rw[h] at h';cases h'
section
variable (P:Program)(w:World)
noncomputable def ObjOk(H:Hp)(h:Heap)(a:Addr):HO->Prop
 |.lst xs=>xs.length<=sizeLine/\∃(its:List Value) (n:Nat),Vals xs its/\h.get? a=some {cls:=.type "list",data:=.seq its.toArray n}
 |.tup xs=>xs.length<=sizeLine/\∃its:List Value,Vals xs its/\IsTup h a its.toArray
 |.dK kvs=>kvs.length<=sizeLine/\(a == sysModules)=false/\∃vs,KV kvs vs/\h.DictOf (xX P w) a vs
 |.dT kvs=>kvs.length<=sizeLine/\(a == sysModules)=false/\∃xs:List (List Key×Addr×Value),
   Paired (λ(p:List Key×V) (q:List Key×Addr×Value)=>p.1=q.1/\H q.2.1=some (.tup (p.1.map kV))/\RelV p.2 q.2.2) kvs xs/\
   ∃o es ep,h.get? a=some o/\o.ExactDict/\o.data=.dict es ep/\es.toList=xs.map (entryOfKey (tupleKind (xX P w)))/\(xs.map (·.1)).Nodup
 |.set S n=>h.SetOf (intKind P w) a S n
 |.ins C dx fs=>H dx=some (.own a)/\fs.length<=1000/\dx≠a/\h.get? a=some (PySem.W.instObj C dx)/\
   ∃mA,h.Ns1 dx mA/\(∀f,RelO (fs.lookup f) (mA f))/\PySem.Within mA (fs.map (·.1))
 |.own _=>∃o,h.get? a=some o
 |.xd fs=>∃mA,h.Ns1 a mA/\∀f,RelO (fs.lookup f) (mA f)
 |.rng lo hi=>∃t u v,h.get? a=some {cls:=.type "range",data:=.fields #[.int lo t,.int hi u,.int 1 v]}
 |.frz o u=>h.get? a=some o/\ObjOk H h a u
 |.tbl ps=>h.get? a=some {cls:=.none,data:=.fields ps}
 |.met f x=>h.get? a=some (PySem.W.methodObj (.ref f) (.ref x))
 |.ext φ=>φ h/\(∃o,h.get? a=some o)/\∀h1 h2:Heap,φ h1->(∀o,h1.get? a=some o->h2.get? a=some o)->φ h2
noncomputable def HOk (H:Hp)(h:Heap):Prop:=∀a o,H a=some o->ObjOk P w H h a o
end
section
variable {P:Program}{w:World}{H H':Hp}{h h':Heap}{a:Addr}{o:HO}
theorem ObjOk.lt(x:ObjOk P w H h a o):a<h.objs.size:=by
 cases o with
 |lst xs=>obtain⟨_,_,_,_,e⟩:=x;exact Heap.lt_size e
 |tup xs=>obtain⟨_,_,_,p⟩:=x;exact p.lt
 |dK kvs=>obtain⟨_,_,_,_,o,_,_,e,_⟩:=x;exact Heap.lt_size e
 |dT kvs=>obtain⟨_,_,_,_,o,_,_,e,_⟩:=x;exact Heap.lt_size e
 |set S n=>obtain⟨o,_,_,_,e,_⟩:=x;exact Heap.lt_size e
 |ins C dx fs=>obtain⟨_,_,_,e,_⟩:=x;exact Heap.lt_size e
 |own y=>obtain⟨_,e⟩:=x;exact Heap.lt_size e
 |xd fs=>obtain⟨_,⟨_,_,_,e,_⟩,_⟩:=x;exact Heap.lt_size e
 |rng lo hi=>obtain⟨_,_,_,e⟩:=x;exact Heap.lt_size e
 |frz ob u=>obtain⟨e,_⟩:=x;exact Heap.lt_size e
 |tbl ps=>exact Heap.lt_size (show h.get? a=some _ from x)
 |met f y=>exact Heap.lt_size (show h.get? a=some _ from x)
 |ext φ=>obtain⟨_,⟨_,e⟩,_⟩:=x;exact Heap.lt_size e
theorem Paired.mapP{α β:Type}{F G:α->β->Prop}:∀{l₁:List α} {l₂:List β},Paired F l₁ l₂->(∀a b,F a b->G a b)->Paired G l₁ l₂
 |_,_,.nil,_=>.nil
 |_,_,.cons r t,f=>.cons (f _ _ r) (Paired.mapP t f)
theorem ObjOk.stay(x:ObjOk P w H h a o)(k:∀b u,(b=a\/H b=some (.own a))->h.get? b=some u->h'.get? b=some u)
  (ho:∀b,H b=some (.own a)->H' b=some (.own a)) (ht:∀b xs,H b=some (.tup xs)->H' b=some (.tup xs)):ObjOk P w H' h' a o:=by
 induction o with
 |lst xs=>obtain⟨z,its,n,r,e⟩:=x;exact⟨z,its,n,r,k _ _ (.inl rfl) e⟩
 |tup xs=>obtain⟨z,its,r,ob,e,c⟩:=x;exact⟨z,its,r,ob,k _ _ (.inl rfl) e,c⟩
 |dK kvs=>obtain⟨z,y,vs,r,ob,es,ep,e,c⟩:=x;exact⟨z,y,vs,r,ob,es,ep,k _ _ (.inl rfl) e,c⟩
 |dT kvs=>
  obtain⟨z,y,xs,r,ob,es,ep,e,c⟩:=x
  exact⟨z,y,xs,Paired.mapP r λp q z=>⟨z.1,ht _ _ z.2.1,z.2.2⟩,ob,es,ep,k _ _ (.inl rfl) e,c⟩
 |set S n=>obtain⟨ob,es,ep,t,e,c⟩:=x;exact⟨ob,es,ep,t,k _ _ (.inl rfl) e,c⟩
 |ins C dx fs=>
  obtain⟨d,z,ne,e,mA,⟨od,es,ep,e2,c⟩,r⟩:=x
  exact⟨ho _ d,z,ne,k _ _ (.inl rfl) e,mA,⟨od,es,ep,k _ _ (.inr d) e2,c⟩,r⟩
 |own y=>obtain⟨ob,e⟩:=x;exact⟨ob,k _ _ (.inl rfl) e⟩
 |xd fs=>obtain⟨mA,⟨od,es,ep,e,c⟩,r⟩:=x;exact⟨mA,⟨od,es,ep,k _ _ (.inl rfl) e,c⟩,r⟩
 |rng lo hi=>obtain⟨t,u,v,e⟩:=x;exact⟨t,u,v,k _ _ (.inl rfl) e⟩
 |frz ob u ih=>obtain⟨e,q⟩:=x;exact⟨k _ _ (.inl rfl) e,ih q⟩
 |tbl ps=>
  have e:h.get? a=some {cls:=.none,data:=.fields ps}:=x
  show h'.get? a=some {cls:=.none,data:=.fields ps}
  exact k a _ (.inl rfl) e
 |met f y=>
  have e:h.get? a=some (PySem.W.methodObj (.ref f) (.ref y)):=x
  show h'.get? a=some (PySem.W.methodObj (.ref f) (.ref y))
  exact k a _ (.inl rfl) e
 |ext φ=>obtain⟨p,⟨o,e⟩,st⟩:=x;exact⟨st _ _ p λo q=>k _ _ (.inl rfl) q,⟨o,k _ _ (.inl rfl) e⟩,st⟩
theorem HOk.lt(x:HOk P w H h)(e:H a=some o):a<h.objs.size:=(x a o e).lt
theorem HOk.fresh(x:HOk P w H h)(e:h.objs.size<=a):H a=none:=by
 cases q:H a with
 |none=>rfl
 |some u=>exact absurd (Nat.lt_of_lt_of_le (x.lt q) e) (Nat.lt_irrefl _)
theorem HOk.kept(x:HOk P w H h)(k:∀b u,h.get? b=some u->h'.get? b=some u):HOk P w H h':=λa o e=>
 (x a o e).stay (λb u _ q=>k b u q) (λ_ q=>q) λ_ _ q=>q
theorem HOk.laid(x:HOk P w H h)(k:∀b u,h.get? b=some u->h'.get? b=some u)(hp:h.objs.size<=a)(new:ObjOk P w (upd H a o) h' a o):HOk P w (upd H a o) h':=λb u e=>by
 have hn:=x.fresh hp
 by_cases hb:b=a
 ·subst hb;rw[z7] at e;cases e;exact new
 ·rw[z8 hb] at e
  exact (x b u e).stay (λc v _ q=>k c v q) (λc q=>by rw[z8 (zD q hn)];exact q) λc xs q=>by rw[z8 (zD q hn)];exact q
end
noncomputable def Rd (H:Hp)(a:Addr)(u:HO):Prop:=H a=some u\/∃o,H a=some (.frz o u)
theorem Rd.ok{P:Program}{w:World}{H:Hp}{h:Heap}{a:Addr}{u:HO}(r:Rd H a u)(x:HOk P w H h):ObjOk P w H h a u:=by
 rcases r with r|⟨o,r⟩
 ·exact x a u r
 ·obtain⟨_,q⟩:=x a _ r
  exact q
noncomputable def Mut:Option HO->Prop
 |some (.lst _)=>True
 |some (.dK _)=>True
 |some (.dT _)=>True
 |some (.set _ _)=>True
 |some (.ins _ _ _)=>True
 |some (.ext _)=>True
 |_=>False
section
variable {P:Program}{w:World}{H:Hp}{h h':Heap}{x e:Addr}{o':HO}
theorem HOk.write(ok:HOk P w H h)(mu:Mut (H x))(he:e=x\/H e=some (.own x))(k:∀b u,b≠e->h.get? b=some u->h'.get? b=some u)(heo:∃u,h'.get? e=some u)
  (new:ObjOk P w (upd H x o') h' x o'):HOk P w (upd H x o') h':=λb u q=>by
 have nown:∀c y,H c=some (.own y)->c≠x:=λc y r z=>by subst z;rw[r] at mu;exact mu
 have ntup:∀c xs,H c=some (.tup xs)->c≠x:=λc xs r z=>by subst z;rw[r] at mu;exact mu
 by_cases hb:b=x
 ·subst hb;rw[z7] at q;cases q;exact new
 ·rw[z8 hb] at q
  by_cases hbe:b=e
  ·have q':H b=some (.own x):=by
    rcases he with z|z
    ·exact absurd (hbe.trans z) hb
    ·rw[hbe];exact z
   rw[q] at q';cases q'
   obtain⟨v,hv⟩:=heo
   exact⟨v,by rw[hbe];exact hv⟩
  ·refine (ok b u q).stay (λc v hc r=>k c v ?_ r) (λc r=>by rw[z8 (nown c b r)];exact r) λc xs r=>by rw[z8 (ntup c xs r)];exact r
   rcases hc with rfl|hc
   ·exact hbe
   ·rintro rfl
    rcases he with z|z
    ·exact nown c b hc z
    ·rw[hc] at z;cases z;exact hb rfl
end
structure Un(fs ex:List Addr)(H H':Hp)(h h':Heap):Prop where
 keep:∀b o,h.get? b=some o->H b=none->b∉fs->b∉ex->h'.get? b=some o
 slot:∀b o,h.get? b=some o->H b=none->b∈fs->b∉ex->∃sl,h'.get? b=some {o with slots:=sl}
 free:∀b o,h.get? b=some o->H b=none->b∉ex->H' b=none
 there:∀b o,h.get? b=some o->b∉ex->∃o',h'.get? b=some o'
 tups:∀b xs,H b=some (.tup xs)->H' b=some (.tup xs)
 frzs:∀b o u,H b=some (.frz o u)->H' b=some (.frz o u)
 tbls:∀b ps,H b=some (.tbl ps)->∃more,H' b=some (.tbl (ps++more))
section
variable {fs fs' ex ex':List Addr}{H H1 H2:Hp}{h h1 h2 h':Heap}{a x e:Addr}{o:HO}
theorem Un.any(u:Un fs ex H H1 h h1){b:Addr}{ob:Obj}(q:h.get? b=some ob)(n:H b=none)(hx:b∉ex):∃sl,h1.get? b=some {ob with slots:=sl}:=by
 by_cases hb:b∈fs
 ·exact u.slot b ob q n hb hx
 ·exact⟨ob.slots,u.keep b ob q n hb hx⟩
theorem Un.kept(k:∀b u,h.get? b=some u->h'.get? b=some u):Un fs ex H H h h':=
 ⟨λb ob q _ _ _=>k b ob q,λb ob q _ _ _=>⟨ob.slots,k b ob q⟩,λ_ _ _ n _=>n,λb ob q _=>⟨ob,k b ob q⟩,λ_ _ q=>q,λ_ _ _ q=>q,λ_ ps q=>⟨#[],by rw[q];simp⟩⟩
theorem Un.refl:Un fs ex H H h h:=Un.kept λ_ _ q=>q
theorem Un.laid(k:∀b u,h.get? b=some u->h'.get? b=some u)(hp:h.objs.size<=a)(hn:H a=none):Un fs ex H (upd H a o) h h' where
 keep:=λb u q _ _ _=>k b u q
 slot:=λb u q _ _ _=>⟨u.slots,k b u q⟩
 free:=λb u q n _=>by rw[z8 (Nat.ne_of_lt (Nat.lt_of_lt_of_le (Heap.lt_size q) hp))];exact n
 there:=λb u q _=>⟨u,k b u q⟩
 tups:=λb xs q=>by rw[z8 (zD q hn)];exact q
 frzs:=λb u xs q=>by rw[z8 (zD q hn)];exact q
 tbls:=λb ps q=>⟨#[],by rw[z8 (zD q hn),q];simp⟩
theorem Un.write(mu:Mut (H x))(he:e=x\/H e=some (.own x))(k:∀b u,b≠e->h.get? b=some u->h'.get? b=some u)(heo:∃u,h'.get? e=some u):Un fs ex H (upd H x o) h h':=by
 have hx:∀b,H b=none->b≠x:=λb n z=>by subst z;rw[n] at mu;exact mu
 have hb:∀b,H b=none->b≠e:=λb n z=>by
  subst z
  rcases he with r|r
  ·exact hx b n r
  ·rw[n] at r;cases r
 have hm:∀b u,H b=some u->¬Mut (some u)->b≠x:=λb u q nm z=>by subst z;rw[q] at mu;exact nm mu
 refine⟨λb u q n _ _=>k b u (hb b n) q,λb u q n _ _=>⟨u.slots,k b u (hb b n) q⟩,λb u q n _=>by rw[z8 (hx b n)];exact n,λb u q _=>?_,
  λb xs q=>by rw[z8 (hm b _ q λz=>z)];exact q,λb u xs q=>by rw[z8 (hm b _ q λz=>z)];exact q,λb ps q=>⟨#[],by rw[z8 (hm b _ q λz=>z),q];simp⟩⟩
 by_cases hbe:b=e
 ·subst hbe;exact heo
 ·exact⟨u,k b u hbe q⟩
end
noncomputable def trk (h:Heap)(H:Hp):List Addr:=(List.range h.objs.size).filter λa=>(H a).isSome
noncomputable def xN (h:Heap)(H:Hp):Heap:=PySem.W.hideAll h (trk h H)
theorem QY(h:Heap)(H:Hp):(xN h H).objs.size=h.objs.size:=PySem.W.hideAll_size _ _
theorem Jd{h:Heap}{H:Hp}{b:Addr}{o:Obj}(e:h.get? b=some o)(n:H b=none):(xN h H).get? b=some o:=
 PySem.W.hideAll_get _ e λhm=>by
  have q:(H b).isSome=true:=(List.mem_filter.mp hm).2
  rw[n] at q;simp at q
theorem Kc{h:Heap}{H:Hp}{b:Addr}{o:Obj}(e:(xN h H).get? b=some o):h.get? b=some o/\H b=none:=by
 have e':h.get? b=some o:=PySem.W.of_hideAll (trk h H) e
 refine⟨e',?_⟩
 cases q:H b with
 |none=>rfl
 |some x=>
  have hm:b∈trk h H:=List.mem_filter.mpr ⟨List.mem_range.mpr (Heap.lt_size e'),by simp[q]⟩
  have z:(xN h H).get? b=none:=PySem.W.hideAll_none (trk h H) hm
  rw[z] at e;cases e
noncomputable def KW(g h:Heap)(L:Addr):List (Addr×Obj):=(List.range h.objs.size).filterMap λa=>if a=L\/(g.get? a).isSome=true then none else (h.get? a).map λo=>(a,o)
noncomputable def rest (g h:Heap)(L d:Addr):List (Addr×Obj):=(KW g h L).filter λp=>decide (p.1≠d)
end L2
namespace L2
open PySem PySem.Spec PyProof.Rows
structure Mod(K:PySem.W.Frag)(mg:Str->Option Value)(base:Heap):Prop where
 kin:K.In base
 glob:base.Ns mainGlobals mg
 blt:∃mb,base.Ns builtinsNs mb/\∀x:Str,x≠"__name__"->mb x=bootBuiltins x
 nolimit:base.NoLimit
structure Cx where
 prog:Program
 w:World
 K:PySem.W.Frag
 mg:Str->Option Value
 base:Heap
 A:Around
 N:List Str
 s₀:Shared
 H₀:Hp
 env:Env
 outer:List Env
 stack:List Env
 ex:List Addr
 fn:Str->Bool
 calm:Bool
 pn:List (Addr×Obj)
 xe:Value->Shared->Prop
noncomputable def frs(l:List Env):List Addr:=l.filterMap (·.frame)
noncomputable abbrev Cx.fs(X:Cx):List Addr:=frs X.outer
noncomputable def Vis(sc:Scope)(x:Str):Prop:=sc.names.lookup x=some .local\/sc.names.lookup x=some .cell\/sc.names.lookup x=some .free
noncomputable def Loc(sc:Scope)(x:Str):Prop:=sc.names.lookup x=some .local\/sc.names.lookup x=some .cell
noncomputable def Look(env:Env)(h:Heap)(m:Str->Option Value)(x:Str)(u:Value):Prop:=
 (env.kindOf x=some .local/\m x=some u)\/((env.kindOf x=some .cell\/env.kindOf x=some .free)/\∃c,env.cells.lookup x=some c/\h.IsCell c (some u))
structure Cx.Ok(X:Cx):Prop where
 mod:Mod X.K X.mg X.base
 kind:X.env.scope.kind=.function
 glob:X.env.globals=mainGlobals
 blt:X.env.builtins=builtinsNs
 above:X.s₀.heap.objs.size<=X.env.locals
 inj:∀x y c,X.env.cells.lookup x=some c->X.env.cells.lookup y=some c->x=y
 has:∀x,(X.env.kindOf x=some .cell\/X.env.kindOf x=some .free)->∃c,X.env.cells.lookup x=some c
 cab:∀x c,X.fn x=true->X.env.cells.lookup x=some c->X.s₀.heap.objs.size<=c
 hd:X.calm=true->X.A.handled=none
 frames:X.A.frames=some X.stack
 stk:X.stack=X.outer\/(X.stack=X.env::X.outer/\X.env.frame=some X.env.locals)
 exf:∀b∈X.ex,b≠X.env.locals/\∀x c,X.env.cells.lookup x=some c->c≠b
 bs:∀b o,X.base.get? b=some o->X.s₀.heap.get? b=some o/\X.H₀ b=none
 bsz:X.base.objs.size<=X.s₀.heap.objs.size
 noex:∀b o,X.base.get? b=some o->b∉X.ex
 exfs:∀b∈X.ex,b∉X.fs
 funs:X.s₀.heap.FunFrames X.base X.outer
 frf:∀b∈X.fs,X.H₀ b=none
structure Inv(X:Cx)(pins:List (Addr×Obj))(σ:List (Option V))(H:Hp)(s:Shared):Prop where
 ok:X.Ok
 os:s.os=X.s₀.os
 bare:AllBare s.gens
 base:Un X.fs X.ex X.H₀ H X.s₀.heap s.heap
 loc:∃m,s.heap.Ns X.env.locals m/\∀(i:Nat) (x:Str) (v:V),X.N[i]?=some x->σ[i]?=some (some v)->Vis X.env.scope x->∃u,RelV v u/\Look X.env s.heap m x u
 cell:∀x c,X.env.cells.lookup x=some c->∃v,s.heap.IsCell c v
 free:H X.env.locals=none
 freeC:∀x c,X.env.cells.lookup x=some c->H c=none\/(X.fn x=false/\∃o u,H c=some (.frz o u))
 pin:∀p∈X.pn++pins,s.heap.get? p.1=some p.2/\H p.1=none/\p.1≠X.env.locals/\p.1∉X.fs/\∀v,p.2.data≠.cell v
 hok:HOk X.prog X.w H s.heap
 len:σ.length=X.N.length
section
variable {X:Cx}{pins:List (Addr×Obj)}{σ:List (Option V)}{H H':Hp}{s:Shared}{h':Heap}
theorem Cx.Ok.nofr(ok:X.Ok){b:Addr}{o:Obj}(e:X.base.get? b=some o):b∉X.fs:=λhb=>by
 have:=(ok.funs.mem hb).1
 rw[e] at this;cases this
theorem Inv.bs(I:Inv X pins σ H s):∀b o,X.base.get? b=some o->s.heap.get? b=some o/\H b=none:=λb o e=>
 ⟨I.base.keep b o (I.ok.bs b o e).1 (I.ok.bs b o e).2 (I.ok.nofr e) (I.ok.noex b o e),I.base.free b o (I.ok.bs b o e).1 (I.ok.bs b o e).2 (I.ok.noex b o e)⟩
theorem Inv.bk(I:Inv X pins σ H s):∀b o,X.base.get? b=some o->s.heap.get? b=some o:=λb o e=>(I.bs b o e).1
theorem Inv.mod(I:Inv X pins σ H s):Mod X.K X.mg X.base:=I.ok.mod
theorem Inv.kIn(I:Inv X pins σ H s):X.K.In s.heap:=I.ok.mod.kin.keeps I.bk
theorem Inv.lt(I:Inv X pins σ H s):X.env.locals<s.heap.objs.size:=let ⟨_,hn,_⟩:=I.loc;hn.lt
theorem Inv.sz(I:Inv X pins σ H s):X.s₀.heap.objs.size<=s.heap.objs.size:=Nat.le_trans I.ok.above (Nat.le_of_lt I.lt)
theorem Inv.nofs(I:Inv X pins σ H s){a:Addr}(h:s.heap.objs.size<=a):a∉X.fs:=λhb=>by
 obtain⟨_,o,ho,_⟩:=I.ok.funs.mem hb
 exact absurd (Nat.lt_of_lt_of_le (Heap.lt_size ho) (Nat.le_trans I.sz h)) (Nat.lt_irrefl _)
theorem Inv.cne(I:Inv X pins σ H s):∀x c,X.env.cells.lookup x=some c->c≠X.env.locals:=λx c e z=>by
 obtain⟨v,o,ho,hd⟩:=I.cell x c e
 obtain⟨m,⟨o',es,ep,ho',hd',_⟩,_⟩:=I.loc
 rw[z,ho'] at ho;cases ho;rw[hd'] at hd;cases hd
theorem Inv.funs(I:Inv X pins σ H s):s.heap.FunFrames X.base X.outer:=by
 have all:∀(l:List Env),(∀b∈frs l,b∈X.fs)->X.s₀.heap.FunFrames X.base l->s.heap.FunFrames X.base l:=by
  intro l
  induction l with
  |nil=>intro _ _;trivial
  |cons env r ih=>
   intro hs hl
   obtain⟨hk,⟨L,o,hf,hn,ho,hd⟩,hr⟩:=hl
   have hL:L∈X.fs:=hs L (by unfold frs;rw[List.filterMap_cons,hf];exact List.mem_cons_self)
   obtain⟨sl,e⟩:=I.base.slot L o ho (I.ok.frf L hL) hL λz=>I.ok.exfs L z hL
   exact⟨hk,⟨L,_,hf,hn,e,hd⟩,ih (λb hb=>hs b (by unfold frs;rw[List.filterMap_cons,hf];exact List.mem_cons_of_mem _ hb)) hr⟩
 exact all X.outer (λ_ hb=>hb) I.ok.funs
theorem Inv.stack(I:Inv X pins σ H s):s.heap.FunFrames X.base X.stack:=by
 rcases I.ok.stk with e|⟨e,hf⟩
 ·rw[e];exact I.funs
 ·rw[e]
  obtain⟨m,hn,_⟩:=I.loc
  refine .cons (by rw[I.ok.kind];decide) hf hn ?_ I.funs
  exact Heap.get?_none_of_le (Nat.le_trans I.ok.bsz I.ok.above)
theorem Inv.stkSub(I:Inv X pins σ H s):∀b∈frs X.stack,b∈X.env.locals::X.fs:=λb hb=>by
 rcases I.ok.stk with e|⟨e,hf⟩
 ·rw[e] at hb;exact List.mem_cons_of_mem _ hb
 ·rw[e] at hb
  unfold frs at hb
  rw[List.filterMap_cons,hf] at hb
  exact hb
theorem Inv.stkFree(I:Inv X pins σ H s):∀b∈frs X.stack,H b=none:=λb hb=>by
 rcases List.mem_cons.mp (I.stkSub b hb) with e|hb
 ·rw[e];exact I.free
 ·obtain⟨_,o,ho,_⟩:=I.ok.funs.mem hb
  exact I.base.free b o ho (I.ok.frf b hb) λz=>I.ok.exfs b z hb
theorem Inv.step{g':Array GenState}{t':Nat}{d':Drawn}{ch:List Addr}(I:Inv X pins σ H s)
  (hch:∀b∈ch,(b∈X.ex\/X.s₀.heap.objs.size<=b)/\b≠X.env.locals/\(∀x c,X.env.cells.lookup x=some c->c≠b)/\∀p∈X.pn++pins,p.1≠b)
  (keep:∀b o,b≠X.env.locals->b∉X.fs->b∉ch->s.heap.get? b=some o->H b=none->h'.get? b=some o)
  (slot:∀b o,b≠X.env.locals->b∈X.fs->b∉ch->s.heap.get? b=some o->H b=none->∃sl,h'.get? b=some {o with slots:=sl}) (free:∀b o,b∉ch->s.heap.get? b=some o->H b=none->H' b=none)
  (there:∀b o,b∉ch->s.heap.get? b=some o->∃o',h'.get? b=some o')
  (tups:∀b xs,H b=some (.tup xs)->H' b=some (.tup xs)) (frzs:∀b o u,H b=some (.frz o u)->H' b=some (.frz o u)) (tbls:∀b ps,H b=some (.tbl ps)->∃more,H' b=some (.tbl (ps++more)))
  (ns:∀m,s.heap.Ns X.env.locals m->h'.Ns X.env.locals m) (hok:HOk X.prog X.w H' h') (hg:AllBare g') :
  Inv X pins σ H' {s with heap:=h',gens:=g',drawn:=d',toks:=t'}:=by
 have neL:∀b o,X.s₀.heap.get? b=some o->b≠X.env.locals:=λb o e=>Nat.ne_of_lt (Nat.lt_of_lt_of_le (Heap.lt_size e) I.ok.above)
 have neC:∀b o,X.s₀.heap.get? b=some o->b∉X.ex->b∉ch:=λb o e hx hb=>by
  rcases (hch b hb).1 with z|z
  ·exact hx z
  ·exact absurd (Nat.lt_of_lt_of_le (Heap.lt_size e) z) (Nat.lt_irrefl _)
 have cellK:∀x c,X.env.cells.lookup x=some c->∀v,s.heap.IsCell c v->h'.IsCell c v:=λx c e v ⟨o,ho,hd⟩=>by
  have nch:c∉ch:=λz=>(hch c z).2.2.1 x c e rfl
  rcases I.freeC x c e with f|⟨_,ob,u,f⟩
  ·by_cases hc:c∈X.fs
   ·obtain⟨sl,q⟩:=slot c o (I.cne x c e) hc nch ho f
    exact⟨_,q,hd⟩
   ·exact⟨o,keep c o (I.cne x c e) hc nch ho f,hd⟩
  ·have h1:=(I.hok c _ f).1
   rw[ho] at h1;cases h1
   exact⟨o,(hok c _ (frzs c _ u f)).1,hd⟩
 refine⟨I.ok,I.os,hg,⟨λb o e n hb hx=>?_,λb o e n hb hx=>?_,λb o e n hx=>?_,λb o e hx=>?_,λb xs e=>tups b xs (I.base.tups b xs e),λb o xs e=>frzs b o xs (I.base.frzs b o xs e),λb ps e=>?_⟩,?_,λx c e=>?_,?_,λx c e=>?_,λp hp=>?_,hok,I.len⟩
 ·exact keep b o (neL b o e) hb (neC b o e hx) (I.base.keep b o e n hb hx) (I.base.free b o e n hx)
 ·obtain⟨sl,e1⟩:=I.base.slot b o e n hb hx
  obtain⟨sl',e2⟩:=slot b _ (neL b o e) hb (neC b o e hx) e1 (I.base.free b o e n hx)
  exact⟨sl',e2⟩
 ·obtain⟨o',e1⟩:=I.base.there b o e hx
  exact free b o' (neC b o e hx) e1 (I.base.free b o e n hx)
 ·obtain⟨o',e1⟩:=I.base.there b o e hx
  exact there b o' (neC b o e hx) e1
 ·obtain⟨m1,e1⟩:=I.base.tbls b ps e
  obtain⟨m2,e2⟩:=tbls b _ e1
  exact⟨m1++m2,by rw[e2,Array.append_assoc]⟩
 ·obtain⟨m,hn,hl⟩:=I.loc
  refine⟨m,ns m hn,λi x v e1 e2 e3=>?_⟩
  obtain⟨u,r,l⟩:=hl i x v e1 e2 e3
  refine⟨u,r,?_⟩
  rcases l with l|⟨k,c,e,z⟩
  ·exact .inl l
  ·exact .inr ⟨k,c,e,cellK x c e _ z⟩
 ·obtain⟨v,z⟩:=I.cell x c e
  exact⟨v,cellK x c e v z⟩
 ·obtain⟨m,⟨o,_,_,ho,_⟩,_⟩:=I.loc
  exact free _ o (λz=>(hch _ z).2.1 rfl) ho I.free
 ·obtain⟨v,o,ho,hd⟩:=I.cell x c e
  exact (I.freeC x c e).imp (free c o (λz=>(hch c z).2.2.1 x c e rfl) ho) λ⟨n,ob,u,f⟩=>⟨n,ob,u,frzs c ob u f⟩
 ·obtain⟨e,n,ne,nf,d⟩:=I.pin p hp
  have nch:p.1∉ch:=λz=>(hch p.1 z).2.2.2 p hp rfl
  exact⟨keep p.1 p.2 ne nf nch e n,free p.1 p.2 nch e n,ne,nf,d⟩
theorem Inv.un{t':Nat}(I:Inv X pins σ H s)(u:Un X.fs [] H H' s.heap h')(hok:HOk X.prog X.w H' h'):Inv X pins σ H' {s with heap:=h',toks:=t'}:=by
 obtain⟨m,⟨o,es,ep,ho,r⟩,_⟩:=id I.loc
 obtain⟨sl,hL⟩:=u.any ho I.free (by simp)
 exact I.step (g':=s.gens) (d':=s.drawn) (ch:=[]) (λ_ z=>nomatch z) (λb o _ hb _ e n=>u.keep b o e n hb (by simp)) (λb o _ hb _ e n=>u.slot b o e n hb (by simp)) (λb o _ e n=>u.free b o e n (by simp)) (λb o _ e=>u.there b o e (by simp)) u.tups u.frzs u.tbls (λm' hm=>by
  obtain⟨o',es',ep',ho',r'⟩:=hm
  rw[ho] at ho';cases ho'
  exact⟨_,es',ep',hL,r'⟩) hok I.bare
theorem Inv.call{g':Array GenState}{t':Nat}{d':Drawn}{ch:List Addr}(I:Inv X pins σ H s)(u:Un (frs X.stack) ch H H' s.heap h')(hok:HOk X.prog X.w H' h')(hg:AllBare g')
  (hch:∀b∈ch,(b∈X.ex\/X.s₀.heap.objs.size<=b)/\b≠X.env.locals/\(∀x c,X.env.cells.lookup x=some c->c≠b)/\∀p∈X.pn++pins,p.1≠b) :
  Inv X pins σ H' {s with heap:=h',gens:=g',drawn:=d',toks:=t'}:=by
 obtain⟨m,⟨o,es,ep,ho,r⟩,_⟩:=id I.loc
 obtain⟨sl,hL⟩:=u.any ho I.free λz=>(hch _ z).2.1 rfl
 exact I.step (ch:=ch) hch (λb o hL hb hc e n=>u.keep b o e n (λz=>(List.mem_cons.mp (I.stkSub b z)).elim hL hb) hc) (λb o _ _ hc e n=>u.any e n hc) (λb o hc e n=>u.free b o e n hc) (λb o hc e=>u.there b o e hc) u.tups u.frzs u.tbls (λm' hm=>by
  obtain⟨o',es',ep',ho',r'⟩:=hm
  rw[ho] at ho';cases ho'
  exact⟨_,es',ep',hL,r'⟩) hok hg
theorem Inv.turned{t':Nat}{it:Addr}(I:Inv X pins σ H s)(k:∀b o,b≠it->s.heap.get? b=some o->h'.get? b=some o)(hn:H it=none)(hL:it≠X.env.locals)
  (h1:it∈X.ex\/X.s₀.heap.objs.size<=it) (h2:∀x c,X.env.cells.lookup x=some c->c≠it) (h3:∀p∈X.pn++pins,p.1≠it):Inv X pins σ H {s with heap:=h',toks:=t'}:=by
 have nit:∀b u,H b=some u->b≠it:=λb u e z=>by rw[z,hn] at e;cases e
 refine I.step (g':=s.gens) (d':=s.drawn) (ch:=[it]) (λb hb=>?_) (λb o _ _ hc e _=>k b o (λz=>hc (by simp[z])) e) (λb o _ _ hc e _=>⟨o.slots,k b o (λz=>hc (by simp[z])) e⟩) (λ_ _ _ _ n=>n)
  (λb o hc e=>⟨o,k b o (λz=>hc (by simp[z])) e⟩) (λ_ _ e=>e) (λ_ _ _ e=>e) (λb ps e=>⟨#[],by rw[e];simp⟩) (λm hm=>?_) (λb u e=>?_) I.bare
 ·have e:b=it:=by simpa using hb
  subst e
  exact⟨h1,hL,h2,h3⟩
 ·obtain⟨o,es,ep,ho,r⟩:=hm
  exact⟨o,es,ep,k _ o (Ne.symm hL) ho,r⟩
 ·refine (I.hok b u e).stay (λc v hc q=>k c v ?_ q) (λ_ q=>q) λ_ _ q=>q
  rcases hc with z|z
  ·rw[z];exact nit b u e
  ·exact nit c _ z
theorem Inv.tok(I:Inv X pins σ H s)(t:Nat):Inv X pins σ H {s with toks:=t}:=I.un (h':=s.heap) (t':=t) Un.refl I.hok
theorem Inv.kept{t':Nat}(I:Inv X pins σ H s)(k:∀b u,s.heap.get? b=some u->h'.get? b=some u):Inv X pins σ H {s with heap:=h',toks:=t'}:=I.un (Un.kept k) (I.hok.kept k)
theorem Inv.laid{a:Addr}{o:HO}{t':Nat}(I:Inv X pins σ H s)(k:∀b u,s.heap.get? b=some u->h'.get? b=some u)(hp:s.heap.objs.size<=a)(new:ObjOk X.prog X.w (upd H a o) h' a o) :
  Inv X pins σ (upd H a o) {s with heap:=h',toks:=t'}:=I.un (Un.laid k hp (I.hok.fresh hp)) (I.hok.laid k hp new)
theorem Inv.write{x e:Addr}{o:HO}{t':Nat}(I:Inv X pins σ H s)(mu:Mut (H x))(he:e=x\/H e=some (.own x))(k:∀b u,b≠e->s.heap.get? b=some u->h'.get? b=some u)(heo:∃u,h'.get? e=some u)
  (new:ObjOk X.prog X.w (upd H x o) h' x o):Inv X pins σ (upd H x o) {s with heap:=h',toks:=t'}:=I.un (Un.write mu he k heo) (I.hok.write mu he k heo new)
theorem Inv.pins_of{pins':List (Addr×Obj)}(I:Inv X pins σ H s)(h:∀p∈pins',s.heap.get? p.1=some p.2/\H p.1=none/\p.1≠X.env.locals/\p.1∉X.fs/\∀v,p.2.data≠.cell v):Inv X pins' σ H s:=
 ⟨I.ok,I.os,I.bare,I.base,I.loc,I.cell,I.free,I.freeC,λp hp=>(List.mem_append.mp hp).elim (λz=>I.pin p (List.mem_append_left _ z)) (h p),I.hok,I.len⟩
theorem vv{N:List Str}(hN:N.Nodup){i j:Nat}{x:Str}(a:N[i]?=some x)(b:N[j]?=some x):i=j:=by
 obtain⟨h1,e1⟩:=List.getElem?_eq_some_iff.mp a
 obtain⟨h2,e2⟩:=List.getElem?_eq_some_iff.mp b
 exact (List.getElem_inj hN).mp (e1.trans e2.symm)
theorem Wl{M:Model}{A:Around}{E:Value->Shared->Prop}{i:Nat}{x:Str}{v:V}{u:Value}{Q:Unit->Shared->Prop}(I:Inv X pins σ H s)(hN:X.N.Nodup)(hi:X.N[i]?=some x)(hx:Loc X.env.scope x)(r:RelV v u)
  (h:∀s',Inv X pins (σ.set i (some v)) H s'->(∃a,Heap.SameBut a s.heap s'.heap/\(a=X.env.locals\/X.env.cells.lookup x=some a))->Q () s') (hf:X.fn x=true\/X.env.scope.names.lookup x=some .local:=by first|exact .inl rfl|exact .inr rfl|assumption):wpAny M A (storeName X.env x u) Q E s:=by
 obtain⟨m,hn,hl⟩:=id I.loc
 have hcls:(X.env.scope.kind == .class || (X.env.scope.kind == .module&&X.env.locals != X.env.globals))=false:=by rw[I.ok.kind];rfl
 have hiσ:i<σ.length:=by rw[I.len];exact (List.getElem?_eq_some_iff.mp hi).1
 have cne:=I.cne
 have tracked:∀{a:Addr} {h':Heap},(∃o,s.heap.get? a=some o/\H a=none)->Heap.SameBut a s.heap h'->HOk X.prog X.w H h':=λ{a h'} ha hs b ob e=>by
  obtain⟨_,_,hfree⟩:=ha
  refine (I.hok b ob e).stay (λc w' hc q=>(hs.2 c ?_).trans q) (λ_ q=>q) λ_ _ q=>q
  rintro rfl
  rcases hc with rfl|hc
  ·rw[hfree] at e;cases e
  ·rw[hfree] at hc;cases hc
 rcases hx with hk|hk
 ·refine wpAny_storeName_local hk hn (λh' hn' hs=>?_) hcls
  obtain⟨oL,_,_,hoL,_⟩:=id hn
  refine h _ ⟨I.ok,I.os,I.bare,⟨λb o e n hb hx=>?_,λb o e n hb hx=>?_,I.base.free,λb o e hx=>?_,I.base.tups,I.base.frzs,I.base.tbls⟩,⟨_,hn',λj y v' e1 e2 e3=>?_⟩,λy c e=>?_,I.free,I.freeC,λp hp=>?_,tracked ⟨oL,hoL,I.free⟩ hs,by simpa using I.len⟩ ⟨_,hs,.inl rfl⟩
  ·exact (hs.2 b (Nat.ne_of_lt (Nat.lt_of_lt_of_le (Heap.lt_size e) I.ok.above))).trans (I.base.keep b o e n hb hx)
  ·obtain⟨sl,e1⟩:=I.base.slot b o e n hb hx
   exact⟨sl,(hs.2 b (Nat.ne_of_lt (Nat.lt_of_lt_of_le (Heap.lt_size e) I.ok.above))).trans e1⟩
  ·obtain⟨o',e1⟩:=I.base.there b o e hx
   exact⟨o',(hs.2 b (Nat.ne_of_lt (Nat.lt_of_lt_of_le (Heap.lt_size e) I.ok.above))).trans e1⟩
  ·by_cases hj:j=i
   ·subst hj
    rw[hi] at e1;cases e1
    rw[List.getElem?_set_self hiσ] at e2
    cases e2
    exact⟨u,r,.inl ⟨hk,by simp⟩⟩
   ·rw[List.getElem?_set_ne (Ne.symm hj)] at e2
    obtain⟨u',r',q⟩:=hl j y v' e1 e2 e3
    refine⟨u',r',?_⟩
    rcases q with⟨k,e⟩|⟨k,c,e,z⟩
    ·refine .inl ⟨k,?_⟩
     have:y≠x:=λe=>hj (vv hN e1 (e▸hi))
     simp[this,e]
    ·exact .inr ⟨k,c,e,z.sameBut hs (cne y c e)⟩
  ·obtain⟨w',z⟩:=I.cell y c e
   exact⟨w',z.sameBut hs (cne y c e)⟩
  ·obtain⟨e,n,ne,nf,d⟩:=I.pin p hp
   exact⟨(hs.2 p.1 ne).trans e,n,ne,nf,d⟩
 ·have hfn:X.fn x=true:=by
   rcases hf with z|z
   ·exact z
   ·rw[z] at hk;cases hk
  obtain⟨c,hc⟩:=I.ok.has x (.inl hk)
  obtain⟨w',z⟩:=I.cell x c hc
  refine wpAny_storeName_cell I.ok.kind hk hc z (λh' hc' hs=>?_)
  obtain⟨oc,hoc,hocd⟩:=id z
  refine h {s with heap:=h'} ⟨I.ok,I.os,I.bare,⟨λb o e n hb hx=>?_,λb o e n hb hx=>?_,I.base.free,λb o e hx=>?_,I.base.tups,I.base.frzs,I.base.tbls⟩,⟨m,hn.sameBut hs (Ne.symm (cne x c hc)),λj y v' e1 e2 e3=>?_⟩,λy c' e=>?_,I.free,I.freeC,λp hp=>?_,tracked ⟨oc,hoc,(I.freeC x c hc).resolve_right λz=>by rw[hfn] at z;cases z.1⟩ hs,by simpa using I.len⟩ ⟨c,hs,.inr hc⟩
  ·exact (hs.2 b (Nat.ne_of_lt (Nat.lt_of_lt_of_le (Heap.lt_size e) (I.ok.cab x c hfn hc)))).trans (I.base.keep b o e n hb hx)
  ·obtain⟨sl,e1⟩:=I.base.slot b o e n hb hx
   exact⟨sl,(hs.2 b (Nat.ne_of_lt (Nat.lt_of_lt_of_le (Heap.lt_size e) (I.ok.cab x c hfn hc)))).trans e1⟩
  ·obtain⟨o',e1⟩:=I.base.there b o e hx
   exact⟨o',(hs.2 b (Nat.ne_of_lt (Nat.lt_of_lt_of_le (Heap.lt_size e) (I.ok.cab x c hfn hc)))).trans e1⟩
  ·by_cases hj:j=i
   ·subst hj
    rw[hi] at e1;cases e1
    rw[List.getElem?_set_self hiσ] at e2
    cases e2
    exact⟨u,r,.inr ⟨.inl hk,c,hc,hc'⟩⟩
   ·rw[List.getElem?_set_ne (Ne.symm hj)] at e2
    obtain⟨u',r',q⟩:=hl j y v' e1 e2 e3
    refine⟨u',r',?_⟩
    rcases q with q|⟨k,c',e,z'⟩
    ·exact .inl q
    ·refine .inr ⟨k,c',e,z'.sameBut hs ?_⟩
     rintro rfl
     exact hj (vv hN e1 (I.ok.inj _ _ _ e hc▸hi))
  ·by_cases hcc:c'=c
   ·subst hcc;exact⟨_,hc'⟩
   ·obtain⟨w2,z2⟩:=I.cell y c' e
    exact⟨w2,z2.sameBut hs hcc⟩
  ·obtain⟨e,n,ne,nf,d⟩:=I.pin p hp
   refine⟨(hs.2 p.1 ?_).trans e,n,ne,nf,d⟩
   intro q
   rw[q,hoc] at e
   have q':oc=p.2:=Option.some.inj e
   exact d w' (by rw[←q'];exact hocd)
theorem jU{M:Model}{A:Around}{E:Value->Shared->Prop}{i:Nat}{x:Str}{v:V}{u:Value}{Q:Unit->Shared->Prop}(I:Inv X pins σ H s)(hN:X.N.Nodup)(hi:X.N[i]?=some x)(hx:Loc X.env.scope x)(r:RelV v u)
  (h:∀s',Inv X pins (σ.set i (some v)) H s'->Q () s') (hf:X.fn x=true\/X.env.scope.names.lookup x=some .local:=by first|exact .inl rfl|exact .inr rfl|assumption):wpAny M A (storeName X.env x u) Q E s:=
 Wl I hN hi hx r (λs' I' _=>h s' I') hf
theorem Inv.call'{s':Shared}{ch:List Addr}(I:Inv X pins σ H s)(ho:s'.os=s.os)(u:Un (frs X.stack) ch H H' s.heap s'.heap)(hok:HOk X.prog X.w H' s'.heap)(hg:AllBare s'.gens)
  (hch:∀b∈ch,(b∈X.ex\/X.s₀.heap.objs.size<=b)/\b≠X.env.locals/\(∀x c,X.env.cells.lookup x=some c->c≠b)/\∀p∈X.pn++pins,p.1≠b):Inv X pins σ H' s':=by
 obtain⟨h',g',d',t',o'⟩:=s'
 have e:o'=s.os:=ho
 subst e
 exact I.call (g':=g') (t':=t') (d':=d') u hok hg hch
end
noncomputable abbrev XK:=Value->Option Addr->Hp->Prop
noncomputable abbrev St:=List (Option V)
noncomputable abbrev VK:=V->Hp->Prop
noncomputable abbrev TE:=St->Hp->VK->Prop
noncomputable abbrev TT:=St->Hp->(Bool->Hp->Prop)->Prop
noncomputable abbrev TA:=St->Hp->(List V->Hp->Prop)->Prop
structure Ends where
 nx:St->Hp->Prop
 rt:VK
 bk:St->Hp->Prop:=λ_ _=>False
 ct:St->Hp->Prop:=λ_ _=>False
noncomputable abbrev TS:=Ends->St->Hp->Prop
inductive EP(X:Cx)(pins:List (Addr×Obj))(σ:St)(Q:VK)(u:Value)(s':Shared):Prop where
 |mk (v:V) (H':Hp) (i:Inv X pins σ H' s') (r:RelV v u) (q:Q v H')
inductive TP(X:Cx)(pins:List (Addr×Obj))(σ:St)(Q:Bool->Hp->Prop)(b:Bool)(s':Shared):Prop where
 |mk (H':Hp) (i:Inv X pins σ H' s') (q:Q b H')
inductive AP(X:Cx)(pins:List (Addr×Obj))(σ:St)(Q:List V->Hp->Prop)(us:List Value)(s':Shared):Prop where
 |mk (vs:List V) (H':Hp) (i:Inv X pins σ H' s') (r:Vals vs us) (q:Q vs H')
noncomputable def SP (X:Cx)(pins:List (Addr×Obj))(D:Ends)(f:Flow)(s':Shared):Prop:=
 match f with
 |.next=>∃σ' H',Inv X pins σ' H' s'/\D.nx σ' H'
 |.brk=>∃σ' H',Inv X pins σ' H' s'/\D.bk σ' H'
 |.cont=>∃σ' H',Inv X pins σ' H' s'/\D.ct σ' H'
 |.ret u=>∃v σ' H',Inv X pins σ' H' s'/\RelV v u/\D.rt v H'
noncomputable def PE (X:Cx)(e:Expr)(t:TE):Prop:=
 ∀(pins:List (Addr×Obj)) (s:Shared) (σ:St) (H:Hp) (Q:VK),Inv X pins σ H s->t σ H Q->wpAny (model X.prog X.w) X.A (eval e X.env) (EP X pins σ Q) X.xe s
noncomputable def PT (X:Cx)(e:Expr)(t:TT):Prop:=
 ∀(pins:List (Addr×Obj)) (s:Shared) (σ:St) (H:Hp) (Q:Bool->Hp->Prop),Inv X pins σ H s->t σ H Q->wpAny (model X.prog X.w) X.A (isTrue e X.env (eval e X.env)) (TP X pins σ Q) X.xe s
noncomputable def PW (X:Cx)(e:Expr)(t:TT):Prop:=
 ∀(whole:Sem Value) (pins:List (Addr×Obj)) (s:Shared) (σ:St) (H:Hp) (Q:Bool->Hp->Prop),Inv X pins σ H s->t σ H Q->wpAny (model X.prog X.w) X.A (isTrue e X.env whole) (TP X pins σ Q) X.xe s
theorem PW.pt{X:Cx}{e:Expr}{t:TT}(h:PW X e t):PT X e t:=h _
noncomputable def PA (X:Cx)(es:List Expr)(t:TA):Prop:=
 ∀(pos:Pos) (pins:List (Addr×Obj)) (s:Shared) (σ:St) (H:Hp) (Q:List V->Hp->Prop),Inv X pins σ H s->t σ H Q->wpAny (model X.prog X.w) X.A (spliced (backTo pos (starEach es X.env))) (AP X pins σ Q) X.xe s
noncomputable def PS (X:Cx)(st:Stmt)(t:TS):Prop:=
 ∀(pins:List (Addr×Obj)) (s:Shared) (σ:St) (H:Hp) (D:Ends),Inv X pins σ H s->t D σ H->wpAny (model X.prog X.w) X.A (exec st X.env) (SP X pins D) X.xe s
noncomputable def PSs (X:Cx)(st:List Stmt)(t:TS):Prop:=
 ∀(pins:List (Addr×Obj)) (s:Shared) (σ:St) (H:Hp) (D:Ends),Inv X pins σ H s->t D σ H->wpAny (model X.prog X.w) X.A (execs st X.env) (SP X pins D) X.xe s
theorem thn{α:Type}{t:Sem α}{Q Q':α->Shared->Prop}{M:Model}{A:Around}{E:Value->Shared->Prop}{s:Shared}(h:wpAny M A t Q E s)(hQ:∀a s,Q a s->Q' a s):wpAny M A t Q' E s:=wpAny_mono h hQ λ_ _ x=>x
end L2
namespace L2
open PySem PySem.Spec PyProof.Rows
section
variable {X:Cx}
noncomputable def z1h (i:Nat):TE:=λσ H Q=>∃v,σ[i]?=some (some v)/\Q v H
noncomputable def tC (v:V):TE:=λ_ H Q=>Q v H
theorem vy {i:Nat} {x:Str} {pos:Pos} (hN:X.N[i]?=some x) (hv:Vis X.env.scope x) (hd:(x == ("__debug__":Str))=false:=by decide) (hcd:(x == ("__classdict__":Str))=false:=by decide):PE X (.Name x pos) (z1h i):=by
 intro pins s σ H Q I h
 obtain⟨v,e,h⟩:=h
 obtain⟨m,hn,hl⟩:=I.loc
 obtain⟨u,r,l⟩:=hl i x v hN e hv
 have fin:EP X pins σ Q u s:=⟨v,H,I,r,h⟩
 rcases l with⟨hk,hm⟩|⟨hk,c,hc,hcell⟩
 ·exact wpAny_Name (wpAny_loadName_local I.ok.kind hk hn hm fin) hd
 ·rcases hk with hk|hk
  ·exact wpAny_Name (wpAny_loadName_cell I.ok.kind hk hc hcell fin) hd
  ·exact wpAny_Name (wpAny_loadName_free I.ok.kind hk hc hcell fin hcd) hd
theorem Y0{i j pos}:PE X (.Constant (.int i) j pos) (tC (.int i)):=λ_ _ _ H _ I h=>wpAny_Constant_int ⟨.int i,H,I.tok _,⟨_,rfl⟩,h⟩
theorem U_{b j pos}:PE X (.Constant (.bool b) j pos) (tC (.bl b)):=λ_ _ _ H _ I h=>Constant_bool ⟨.bl b,H,I,rfl,h⟩
theorem YS{j pos}:PE X (.Constant .none j pos) (tC .non):=λ_ _ _ H _ I h=>Constant_none ⟨.non,H,I,rfl,h⟩
theorem xT{x j pos}:PE X (.Constant (.str x) j pos) (tC (.str x)):=λ_ _ _ H _ I h=>Calls.Constant_str ⟨.str x,H,I.tok _,⟨_,rfl⟩,h⟩
noncomputable def Gl(X:Cx)(x:Str):Prop:=X.env.kindOf x=some .globalImplicit
theorem qa{E:Value->Shared->Prop}{pins:List (Addr×Obj)}{s:Shared}{σ:St}{H:Hp}{x:Str}{u:Value}{pos:Pos}{Q:Value->Shared->Prop}(I:Inv X pins σ H s)(hg:Gl X x)(hm:X.mg x=some u)(h:Q u s)
  (hd:(x == ("__debug__":Str))=false:=by decide):wpAny (model X.prog X.w) X.A (eval (.Name x pos) X.env) Q E s:=
 Calls.Name_function_global I.ok.kind hg (Calls.loadGlobal_global (by rw[I.ok.glob];exact I.mod.glob.keeps I.bk) hm h) hd
theorem qQ{E:Value->Shared->Prop}{pins:List (Addr×Obj)}{s:Shared}{σ:St}{H:Hp}{x:Str}{u:Value}{pos:Pos}{Q:Value->Shared->Prop}(I:Inv X pins σ H s)(hg:Gl X x)(hm:X.mg x=none)(hv:bootBuiltins x=some u)(h:Q u s)
  (hn:x≠"__name__":=by decide) (hd:(x == ("__debug__":Str))=false:=by decide):wpAny (model X.prog X.w) X.A (eval (.Name x pos) X.env) Q E s:=by
 obtain⟨mb,h1,h2⟩:=I.mod.blt
 exact Calls.Name_function_global I.ok.kind hg (Calls.loadGlobal_builtin (by rw[I.ok.glob];exact I.mod.glob.keeps I.bk) hm (by rw[I.ok.blt];exact h1.keeps I.bk) ((h2 x hn).trans hv) h) hd
theorem ZF {x:Str} {v:V} {u:Value} {pos:Pos} (hg:Gl X x) (hm:X.mg x=some u) (r:RelV v u) (hd:(x == ("__debug__":Str))=false:=by decide):PE X (.Name x pos) (tC v):=
 λ_ _ _ H _ I h=>qa I hg hm ⟨v,H,I,r,h⟩ hd
theorem K_ {x:Str} {v:V} {u:Value} {pos:Pos} (hg:Gl X x) (hm:X.mg x=none) (hv:bootBuiltins x=some u) (r:RelV v u) (hn:x≠"__name__":=by decide) (hd:(x == ("__debug__":Str))=false:=by decide):PE X (.Name x pos) (tC v):=
 λ_ _ _ H _ I h=>qQ I hg hm hv ⟨v,H,I,r,h⟩ hn hd
variable {a b:Expr}{ta tb:TE}{pos:Pos}
variable {tA tB':TT}{rest:List Expr}
noncomputable def xU (t u:TT):TT:=λσ H Q=>t σ H λc H1=>if c=true then u σ H1 Q else Q false H1
noncomputable def tOr (t u:TT):TT:=λσ H Q=>t σ H λc H1=>if c=true then Q true H1 else u σ H1 Q
noncomputable def vx (t:TT):TT:=λσ H Q=>t σ H λc H1=>Q (!c) H1
theorem JJ(ha:PT X a tA):PW X (.BoolOp .And [a] pos) tA:=by
 intro wh pins s σ H Q I h
 refine isTrue_and (thn (ha pins s σ H Q I h) λc s1 e=>?_)
 cases c with
 |true=>exact isTrue_and_nil e
 |false=>exact e
theorem UD(ha:PT X a tA):PW X (.BoolOp .Or [a] pos) tA:=by
 intro wh pins s σ H Q I h
 refine isTrue_or (thn (ha pins s σ H Q I h) λc s1 e=>?_)
 cases c with
 |false=>exact isTrue_or_nil e
 |true=>exact e
theorem Yb(ha:PT X a tA)(hb:PW X (.BoolOp .And (b::rest) pos) tB'):PW X (.BoolOp .And (a::b::rest) pos) (xU tA tB'):=by
 intro wh pins s σ H Q I h
 refine isTrue_and (thn (ha pins s σ H _ I h) λc s1 ⟨H1,I1,q1⟩=>?_)
 cases c with
 |true=>exact hb wh pins s1 σ H1 Q I1 q1
 |false=>exact⟨H1,I1,q1⟩
theorem z0a(ha:PT X a tA)(hb:PW X (.BoolOp .Or (b::rest) pos) tB'):PW X (.BoolOp .Or (a::b::rest) pos) (tOr tA tB'):=by
 intro wh pins s σ H Q I h
 refine isTrue_or (thn (ha pins s σ H _ I h) λc s1 ⟨H1,I1,q1⟩=>?_)
 cases c with
 |true=>exact⟨H1,I1,q1⟩
 |false=>exact hb wh pins s1 σ H1 Q I1 q1
theorem U1(ha:PT X a tA):PT X (.UnaryOp .Not a pos) (vx tA):=by
 intro pins s σ H Q I h
 exact isTrue_not (thn (ha pins s σ H (λc H1=>Q (!c) H1) I h) λc s' ⟨H',i,q⟩=>⟨H',i,q⟩)
theorem Y_{op}{t:TE}(h:PE X a t):PE X (.BoolOp op [a] pos) t:=λpins s σ H Q I hw=>BoolOp_one (h pins s σ H Q I hw)
end
end L2
namespace L2
open PySem PySem.Spec PyProof.Rows
noncomputable def SqL (K:PySem.W.Frag)(H:Hp)(a:Addr)(xs:List V):Prop:=
 Rd H a (.lst xs)\/
  ∃(o:Obj) (its:Array Value) (n:Nat),K.lookup a=some o/\o.cls=.type "list"/\o.dict=none/\o.data=.seq its n/\its.size<=sizeLine/\Vals xs its.toList
noncomputable def SqT (K:PySem.W.Frag)(H:Hp)(a:Addr)(xs:List V):Prop:=
 Rd H a (.tup xs)\/
  ∃(o:Obj) (its:Array Value) (n:Nat),K.lookup a=some o/\o.cls=.type "tuple"/\o.data=.seq its n/\its.size<=sizeLine/\Vals xs its.toList
noncomputable def z1i:Value->Option V
 |.none=>some .non
 |.bool b=>some (.bl b)
 |.int i _=>some (.int i)
 |.str x _=>some (.str x)
 |.bytes b _=>some (.byt b)
 |.float b _=>some (.flt b)
 |.ref a=>some (.ref a)
 |.type n=>some (.ty n)
 |_=>none
theorem RelV.abs{x:V}{u:Value}(r:RelV x u):z1i u=some x:=by
 cases x with
 |non=>cases r;rfl
 |bl _=>cases r;rfl
 |int _=>obtain⟨t,rfl⟩:=r;rfl
 |str _=>obtain⟨t,rfl⟩:=r;rfl
 |byt _=>obtain⟨t,rfl⟩:=r;rfl
 |flt _=>obtain⟨t,rfl⟩:=r;rfl
 |ref _=>cases r;rfl
 |ty _=>cases r;rfl
theorem RelV.inj{x y:V}{u:Value}(r:RelV x u)(q:RelV y u):x=y:=Option.some.inj (r.abs.symm.trans q.abs)
theorem Vals.inj:∀{xs ys:List V} {us:List Value},Vals xs us->Vals ys us->xs=ys
 |_,_,_,.nil,.nil=>rfl
 |_,_,_,.cons r t,.cons r' t'=>by rw[r.inj r',Vals.inj t t']
section
variable {X:Cx}{pins:List (Addr×Obj)}{σ:St}{H:Hp}{s:Shared}{a:Addr}{xs ys:List V}
theorem Inv.list(I:Inv X pins σ H s)(h:SqL X.K H a xs):∃its:List Value,Vals xs its/\PlainL s.heap a its.toArray/\xs.length<=sizeLine:=by
 rcases h with h|⟨o,its,n,hk,hc,hd,hs,hz,r⟩
 ·obtain⟨z,its,n,r,e⟩:=h.ok I.hok
  exact⟨its,r,⟨_,n,e,rfl,rfl,rfl⟩,z⟩
 ·refine⟨its.toList,r,⟨o,n,I.kIn a o hk,hc,hd,by simpa using hs⟩,?_⟩
  have e:=r.length
  simp only[Array.length_toList] at e
  omega
theorem Inv.tuple(I:Inv X pins σ H s)(h:SqT X.K H a xs):∃its:List Value,Vals xs its/\IsTup s.heap a its.toArray/\xs.length<=sizeLine:=by
 rcases h with h|⟨o,its,n,hk,hc,hs,hz,r⟩
 ·obtain⟨z,its,r,p⟩:=h.ok I.hok
  exact⟨its,r,p,z⟩
 ·refine⟨its.toList,r,⟨o,I.kIn a o hk,hc,n,by simpa using hs⟩,?_⟩
  have e:=r.length
  simp only[Array.length_toList] at e
  omega
theorem Inv.list_inj(I:Inv X pins σ H s)(h:SqL X.K H a xs)(h':SqL X.K H a ys):xs=ys:=by
 obtain⟨its,r,⟨o,n,e,_,_,d⟩,_⟩:=I.list h
 obtain⟨its',r',⟨o',n',e',_,_,d'⟩,_⟩:=I.list h'
 rw[e] at e';cases e'
 rw[d] at d'
 injection d' with d1 _
 have:its=its':=by simpa using congrArg Array.toList d1
 subst this
 exact r.inj r'
theorem Inv.tuple_inj(I:Inv X pins σ H s)(h:SqT X.K H a xs)(h':SqT X.K H a ys):xs=ys:=by
 obtain⟨its,r,⟨o,e,_,n,d⟩,_⟩:=I.tuple h
 obtain⟨its',r',⟨o',e',_,n',d'⟩,_⟩:=I.tuple h'
 rw[e] at e';cases e'
 rw[d] at d'
 injection d' with d1 _
 have:its=its':=by simpa using congrArg Array.toList d1
 subst this
 exact r.inj r'
end
noncomputable abbrev Cx.wish(X:Cx)(E:Value->Shared->Prop):Cx:={X with xe:=E}
theorem Cx.Ok.wish{X:Cx}(ok:X.Ok)(E:Value->Shared->Prop):(X.wish E).Ok:=
 ⟨ok.mod,ok.kind,ok.glob,ok.blt,ok.above,ok.inj,ok.has,ok.cab,ok.hd,ok.frames,ok.stk,ok.exf,ok.bs,ok.bsz,ok.noex,ok.exfs,ok.funs,ok.frf⟩
theorem Cx.Ok.unwish{X:Cx}{E:Value->Shared->Prop}(ok:(X.wish E).Ok):X.Ok:=
 ⟨ok.mod,ok.kind,ok.glob,ok.blt,ok.above,ok.inj,ok.has,ok.cab,ok.hd,ok.frames,ok.stk,ok.exf,ok.bs,ok.bsz,ok.noex,ok.exfs,ok.funs,ok.frf⟩
section
variable {X:Cx}{pins:List (Addr×Obj)}{σ:St}{H:Hp}{s:Shared}{E:Value->Shared->Prop}
theorem Inv.wish(I:Inv X pins σ H s)(E:Value->Shared->Prop):Inv (X.wish E) pins σ H s:=⟨I.ok.wish E,I.os,I.bare,I.base,I.loc,I.cell,I.free,I.freeC,I.pin,I.hok,I.len⟩
theorem Inv.unwish(I:Inv (X.wish E) pins σ H s):Inv X pins σ H s:=⟨I.ok.unwish,I.os,I.bare,I.base,I.loc,I.cell,I.free,I.freeC,I.pin,I.hok,I.len⟩
theorem SP.unwish{D:Ends}{f:Flow}{s':Shared}(h:SP (X.wish E) pins D f s'):SP X pins D f s':=by
 cases f with
 |next=>obtain⟨σ',H',I,q⟩:=h;exact⟨σ',H',I.unwish,q⟩
 |brk=>obtain⟨σ',H',I,q⟩:=h;exact⟨σ',H',I.unwish,q⟩
 |cont=>obtain⟨σ',H',I,q⟩:=h;exact⟨σ',H',I.unwish,q⟩
 |ret u=>obtain⟨v,σ',H',I,r,q⟩:=h;exact⟨v,σ',H',I.unwish,r,q⟩
end
section
variable {X:Cx}{st:Stmt}{rest:List Stmt}{t u:TS}{e:Expr}{te:TE}{pos:Pos}
noncomputable def UI:TS:=λD σ H=>D.nx σ H
noncomputable def z12 (t u:TS):TS:=λD σ H=>t {D with nx:=u D} σ H
theorem yd:PSs X [] UI:=λ_ _ σ H _ I h=>wpAny_execs_nil ⟨σ,H,I,h⟩
theorem k9(h1:PS X st t)(h2:PSs X rest u):PSs X (st::rest) (z12 t u):=by
 intro pins s σ H D I h
 refine wpAny_execs_cons (thn (h1 pins s σ H {D with nx:=u D} I h) λf s1 q=>?_)
 cases f with
 |next=>
  obtain⟨σ',H',I',q⟩:=q
  exact h2 pins s1 σ' H' D I' q
 |ret v=>exact q
 |brk=>exact q
 |cont=>exact q
theorem Z_(h1:PS X st t):PSs X [st] t:=by
 intro pins s σ H D I h
 refine wpAny_execs_cons (thn (h1 pins s σ H D I h) λf s1 q=>?_)
 cases f with
 |next=>exact wpAny_execs_nil q
 |ret v=>exact q
 |brk=>exact q
 |cont=>exact q
theorem Inv.quiet{pins:List (Addr×Obj)}{σ:St}{H:Hp}{s:Shared}(I:Inv X pins σ H s):interactive X.env=false:=by simp[interactive,I.ok.kind]
noncomputable def z07(te:TE):TS:=λD σ H=>te σ H λ_ H1=>D.nx σ H1
theorem xH(he:PE X e te)(hs:swapsWith e none pos.line X.env=pure false:=by rfl):PS X (.Expr e pos) (z07 te):=by
 intro pins s σ H D I h
 exact wpAny_Expr_any (thn (he pins s σ H _ I h) λv s1 ⟨x,H1,I1,r1,q1⟩=>⟨σ,H1,I1,q1⟩) I.quiet hs
noncomputable def z11 (te:TE):TS:=λD σ H=>te σ H D.rt
theorem Uq(he:PE X e te):PS X (.Return (some e) pos) (z11 te):=by
 intro pins s σ H D I h
 exact wpAny_Return_some (thn (he pins s σ H _ I h) λv s1 ⟨x,H1,I1,r1,q1⟩=>⟨x,σ,H1,I1,r1,q1⟩)
noncomputable def z0l:TS:=λD _ H=>D.rt .non H
theorem Jv:PS X (.Return none pos) z0l:=λ_ _ σ H _ I h=>wpAny_Return_none ⟨.non,σ,H,I,rfl,h⟩
noncomputable def z1l (c:TT)(t u:TS):TS:=λD σ H=>c σ H λb H1=>if b=true then t D σ H1 else u D σ H1
theorem UY{c:Expr}{a b:List Stmt}{tc:TT}(hc:PT X c tc)(ha:PSs X a t)(hb:PSs X b u):PS X (.If c a b pos) (z1l tc t u):=by
 intro pins s σ H D I h
 refine wpAny_If (thn (hc pins s σ H _ I h) λd s1 ⟨H1,I1,q1⟩=>?_)
 cases d with
 |true=>exact ha pins s1 σ H1 D I1 q1
 |false=>exact hb pins s1 σ H1 D I1 q1
end
noncomputable abbrev TG:=V->St->Hp->(St->Hp->Prop)->Prop
noncomputable abbrev TGs:=List V->St->Hp->(St->Hp->Prop)->Prop
noncomputable def PG (X:Cx)(target:Expr)(t:TG):Prop:=
 ∀(pins:List (Addr×Obj)) (s:Shared) (σ:St) (H:Hp) (v:V) (u:Value) (Q:St->Hp->Prop),Inv X pins σ H s->RelV v u->t v σ H Q->
  wpAny (model X.prog X.w) X.A (assign target X.env u) (λ_ s'=>∃σ' H',Inv X pins σ' H' s'/\Q σ' H') X.xe s
noncomputable def PGs (X:Cx)(ts:List Expr)(t:TGs):Prop:=
 ∀(pins:List (Addr×Obj)) (s:Shared) (σ:St) (H:Hp) (vs:List V) (us:List Value) (Q:St->Hp->Prop),Inv X pins σ H s->Vals vs us->t vs σ H Q->
  wpAny (model X.prog X.w) X.A (assignInOrder ((assignEach ts X.env).map (·.2)) us) (λ_ s'=>∃σ' H',Inv X pins σ' H' s'/\Q σ' H') X.xe s
noncomputable abbrev YW:=V->V->V->Hp->(Hp->Prop)->Prop
noncomputable def z0L (X:Cx)(t:YW):Prop:=
 ∀(pins:List (Addr×Obj)) (s:Shared) (σ:St) (H:Hp) (o i v:V) (ov iv u:Value) (Q:Hp->Prop),Inv X pins σ H s->RelV o ov->RelV i iv->RelV v u->t o i v H Q->
  wpAny (model X.prog X.w) X.A (setItem ov iv u) (λ_ s'=>∃H',Inv X pins σ H' s'/\Q H') X.xe s
section
variable {X:Cx}{pos:Pos}
noncomputable def ZQ(i:Nat):TG:=λv σ H Q=>Q (σ.set i (some v)) H
theorem ZU{i:Nat}{x:Str}(hN:X.N.Nodup)(hi:X.N[i]?=some x)(hx:Loc X.env.scope x)(hf:X.fn x=true\/X.env.scope.names.lookup x=some .local:=by first|exact .inl rfl|exact .inr rfl|assumption):PG X (.Name x pos) (ZQ i):=by
 intro pins s σ H v u Q I r h
 exact wpAny_assign_Name (jU I hN hi hx r (λs' I'=>⟨_,H,I',h⟩) hf)
noncomputable def z0j:TGs:=λvs σ H Q=>vs=[]/\Q σ H
noncomputable def Xe(t:TG)(u:TGs):TGs:=λvs σ H Q=>∃v r,vs=v::r/\t v σ H λσ' H'=>u r σ' H' Q
theorem Jt:PGs X [] z0j:=by
 intro pins s σ H vs us Q I r h
 obtain⟨e,h⟩:=h
 subst e
 cases r
 exact assignInOrder_nil ⟨σ,H,I,h⟩
theorem VQ{e:Expr}{es:List Expr}{t:TG}{u:TGs}(h1:PG X e t)(h2:PGs X es u)
  (hs:(assignEach (e::es) X.env).map (·.2)=assign e X.env::(assignEach es X.env).map (·.2):=by rfl):PGs X (e::es) (Xe t u):=by
 intro pins s σ H vs us Q I r h
 obtain⟨v,vr,e1,h⟩:=h
 subst e1
 cases r with
 |cons r rr=>
  rw[hs]
  refine assignInOrder_cons (thn (h1 pins s σ H _ _ _ I r h) λ_ s1 ⟨σ1,H1,I1,q1⟩=>?_)
  exact h2 pins s1 σ1 H1 _ _ Q I1 rr q1
noncomputable def z0U (K:PySem.W.Frag)(n:Nat)(t:TGs):TG:=λv σ H Q=>∃a xs,v=.ref a/\SqT K H a xs/\xs.length=n/\t xs σ H Q
theorem XC{es:List Expr}{k:Nat}{t:TGs}{n:Nat}(hc:X.calm=true)(h:PGs X es t)
  (hn:(assignEach es X.env).length=n:=by rfl) (hst:(assignEach es X.env).findIdx? (·.1)=none:=by rfl):PG X (.Tuple es k pos) (z0U X.K n t):=by
 intro pins s σ H v u Q I r hw
 obtain⟨a,xs,e1,hq,hl,hw⟩:=hw
 subst e1
 cases r
 obtain⟨its,rv,ht,hz⟩:=I.tuple hq
 refine assign_Tuple_tuple (I.ok.hd hc) ht (by simp[hn,←hl,rv.length]) hst λh' hx=>?_
 have I1:Inv X pins σ H {s with heap:=h'}:=I.kept (t':=s.toks) λb o e=>hx b o (Nat.ne_of_lt (Heap.lt_size e)) e
 exact h pins _ σ H xs _ Q I1 (by simpa using rv) hw
noncomputable def z1s (to ti:TE)(t:YW):TG:=λv σ H Q=>to σ H λo H1=>ti σ H1 λi H2=>t o i v H2 λH3=>Q σ H3
theorem U5{o i:Expr}{to ti:TE}{t:YW}(ho:PE X o to)(hi:PE X i ti)(hs:z0L X t)
  (ha:∀v,assign (.Subscript o i pos) X.env v=(do
   let ov ←holding [v] (eval o X.env)
   let iv ←holding [v,ov] (eval i X.env)
   standAt pos
   holding [v,ov,iv] (setItem ov iv v)
   release [v,ov,iv] []):=by intro _;rfl):PG X (.Subscript o i pos) (z1s to ti t):=by
 intro pins s σ H v u Q I r h
 rw[ha]
 refine wpAny_bind (wpAny_holding (thn (ho pins s σ H _ I h) λov s1 ⟨x,H1,I1,r1,q1⟩=>?_))
 refine wpAny_bind (wpAny_holding (thn (hi pins s1 σ H1 _ I1 q1) λiv s2 ⟨y,H2,I2,r2,q2⟩=>?_))
 refine wpAny_bind (wpAny_standAt (wpAny_bind (wpAny_holding (thn (hs pins s2 σ H2 x y v ov iv u _ I2 r1 r2 r q2) λ_ s3 ⟨H3,I3,q3⟩=>?_))))
 exact wpAny_release ⟨σ,H3,I3,q3⟩
noncomputable def z0t (te:TE)(g:TG):TS:=λD σ H=>te σ H λx H1=>g x σ H1 D.nx
theorem Vx{tg e:Expr}{te:TE}{g:TG}(he:PE X e te)(hg:PG X tg g)(hs:swapsWithSole [tg] e pos.line X.env=pure false:=by rfl)(hw:swappedStores [tg] e X.env=pure none:=by rfl)
  (h1:(assignEach [tg] X.env).map (·.2)=[assign tg X.env]:=by rfl):PS X (.Assign [tg] e pos) (z0t te g):=by
 intro pins s σ H D I h
 refine wpAny_Assign_stores (thn (he pins s σ H _ I h) λv s1 ⟨x,H1,I1,r1,q1⟩=>?_) hs hw
 rw[h1]
 exact thn (hg pins s1 σ H1 x v _ I1 r1 q1) λ_ s2 q=>q
theorem YA{i:Nat}{x:Str}{e:Expr}{te:TE}{pos':Pos}(hN:X.N.Nodup)(hi:X.N[i]?=some x)(hx:Loc X.env.scope x)(he:PE X e te)(hs:swapsWith e (some (.Name x pos')) pos.line X.env=pure false:=by rfl)(hf:X.fn x=true\/X.env.scope.names.lookup x=some .local:=by first|exact .inl rfl|exact .inr rfl|assumption) :
  PS X (.Assign [.Name x pos'] e pos) (z0t te (ZQ i)):=by
 intro pins s σ H D I h
 refine wpAny_Assign_Name (thn (he pins s σ H _ I h) λv s1 ⟨y,H1,I1,r1,q1⟩=>?_) hs
 exact jU I1 hN hi hx r1 (λs2 I2=>⟨_,H1,I2,q1⟩) hf
end
section
variable {X:Cx}{pos:Pos}
noncomputable def UG(c:TT)(tb:TS):TS:=λD σ H=>∃W:Nat->St->Hp->Prop,(∃m,W m σ H)/\∀m σ H,W m σ H->
 c σ H λb H1=>if b=true then ∃N:St->Hp->Prop,(∀σ' H',N σ' H'->∃m',m'<m/\W m' σ' H')/\tb {D with nx:=N,ct:=N,bk:=D.nx} σ H1 else D.nx σ H1
theorem Vt{c:Expr}{body:List Stmt}{tc:TT}{tb:TS}(hp:PassesOwn (model X.prog X.w) X.A X.env X.xe)(hc:PT X c tc)(hb:PSs X body tb):PS X (.While c body [] pos) (UG tc tb):=by
 intro pins s σ H D I h
 obtain⟨W,⟨m0,w0⟩,turn⟩:=h
 refine wpAny_While (codeAny_whileLoop (λn s'=>∃σ' H',Inv X pins σ' H' s'/\W n σ' H') ?_ m0 ⟨σ,H,I,w0⟩)
 rintro n s1 ⟨σ1,H1,I1,w1⟩
 refine wpAny_passesOwn hp (thn (hc pins s1 σ1 H1 _ I1 (turn n σ1 H1 w1)) λb s2 ⟨H2,I2,q2⟩=>?_)
 cases b with
 |true=>
  obtain⟨N,hN,q2⟩:=q2
  rw[if_pos rfl]
  refine wpAny_passesOwn hp (thn (hb pins s2 σ1 H2 _ I2 q2) λf s3 q3=>?_)
  cases f with
  |next=>
   obtain⟨σ3,H3,I3,n3⟩:=q3
   obtain⟨m',hm,w3⟩:=hN σ3 H3 n3
   exact⟨m',hm,σ3,H3,I3,w3⟩
  |cont=>
   obtain⟨σ3,H3,I3,n3⟩:=q3
   obtain⟨m',hm,w3⟩:=hN σ3 H3 n3
   exact⟨m',hm,σ3,H3,I3,w3⟩
  |brk=>exact q3
  |ret v=>exact q3
 |false=>
  rw[if_neg Bool.false_ne_true]
  exact wpAny_execs_nil ⟨σ1,H2,I2,q2⟩
end
structure It where
 go:Nat->Hp->Prop
 yld:Nat->Hp->V->Hp->Prop
 stop:Nat->Hp->Prop
noncomputable def yv (X:Cx)(pins:List (Addr×Obj))(H:Hp)(b:Addr):Prop:=
 H b=none/\b≠X.env.locals/\b∉X.fs/\(b∈X.ex\/X.s₀.heap.objs.size<=b)/\(∀x c,X.env.cells.lookup x=some c->c≠b)/\∀p∈X.pn++pins,p.1≠b
theorem Inv.fpOk{X:Cx}{pins:List (Addr×Obj)}{σ:St}{H H':Hp}{s:Shared}{b:Addr}(I:Inv X pins σ H s)(hb:s.heap.objs.size<=b)(hn:H' b=none):yv X pins H' b:=by
 refine⟨hn,Nat.ne_of_gt (Nat.lt_of_lt_of_le I.lt hb),I.nofs hb,.inr (Nat.le_trans I.sz hb),λx c e z=>?_,λp hp z=>?_⟩
 ·obtain⟨v,q⟩:=I.cell x c e
  exact absurd (Nat.lt_of_lt_of_le q.lt (by rw[z];exact hb)) (Nat.lt_irrefl _)
 ·exact absurd (Nat.lt_of_lt_of_le (Heap.lt_size (I.pin p hp).1) (by rw[z];exact hb)) (Nat.lt_irrefl _)
structure Turn(P:Program)(w:World)(K:PySem.W.Frag)(tg:Expr)(J:It)(fp:List Addr)(it:Addr)(tn:Nat->Heap->Prop):Prop where
 mem:it∈fp
 obj:∀i h,tn i h->∀b∈fp,∃o,h.get? b=some o/\∀v,o.data≠.cell v
 keep:∀i h h',tn i h->(∀b∈fp,∀o,h.get? b=some o->h'.get? b=some o)->tn i h'
 item:∀(X:Cx),X.prog=P->X.w=w->X.K=K->X.calm=true->∀(i:Nat) (pins:List (Addr×Obj)) (s:Shared) (σ:St) (H:Hp) (E:Value->Shared->Prop),Inv X pins σ H s->(∀b∈fp,yv X pins H b)->tn i s.heap->J.go i H->
  wpAny (model P w) X.A (pyNext (.ref it)) (λr s1=>∃u,r=some u/\
   wpAny (model P w) X.A (letOwnedTupleGo tg (.ref it) u) (λ_ s2=>∃x H',Inv X pins σ H' s2/\RelV x u/\J.yld i H x H'/\tn (i+1) s2.heap/\∀b∈fp,H' b=none) E s1) E s
 done:∀(X:Cx),X.prog=P->X.w=w->X.K=K->X.calm=true->∀(i:Nat) (pins:List (Addr×Obj)) (s:Shared) (σ:St) (H:Hp) (E:Value->Shared->Prop),Inv X pins σ H s->(∀b∈fp,yv X pins H b)->tn i s.heap->J.stop i H->
  wpAny (model P w) X.A (pyNext (.ref it)) (λr s1=>r=none/\Inv X pins σ H s1) E s
 self:∀(A:Around) (i:Nat) (s:Shared) (Q:Value->Shared->Prop) (E:Value->Shared->Prop),tn i s.heap->Q (.ref it) s->wpAny (model P w) A (pyIter (.ref it)) Q E s
noncomputable abbrev TI:=St->Hp->(It->Hp->Prop)->Prop
noncomputable def PIE (X:Cx)(pins:List (Addr×Obj))(σ:St)(tg:Expr)(R:It->Hp->Prop)(itv:Value)(s2:Shared):Prop:=
 ∃(it:Addr) (fp:List Addr) (tn:Nat->Heap->Prop) (J:It) (H':Hp),itv=.ref it/\Inv X pins σ H' s2/\Turn X.prog X.w X.K tg J fp it tn/\tn 0 s2.heap/\(∀b∈fp,yv X pins H' b)/\R J H'
noncomputable def PI (X:Cx)(tg iter:Expr)(wi:TI):Prop:=
 ∀(pins:List (Addr×Obj)) (s:Shared) (σ:St) (H:Hp) (R:It->Hp->Prop),Inv X pins σ H s->wi σ H R->
  wpAny (model X.prog X.w) X.A (eval iter X.env) (λv s1=>wpAny (model X.prog X.w) X.A (pyIter v) (PIE X pins σ tg R) X.xe s1) X.xe s
theorem kC{M:Model}{A:Around}{E:Value->Shared->Prop}{s:Shared}{tg:Expr}{it:Addr}{u:Value}{o:Obj}{n:String}{vs:Array Value}{Q:Unit->Shared->Prop}(ho:s.heap.get? it=some o)(hc:o.cls=.type n)(hd:o.data=.fields vs)
    (hn:["enumerate", "zip", "dict_itemiterator", "dict_reverseitemiterator", "odict_iterator", "itertools.zip_longest", "itertools.pairwise"].contains n=false) (hQ:Q () s):wpAny M A (letOwnedTupleGo tg (.ref it) u) Q E s:=by
  unfold letOwnedTupleGo
  cases tg <;> first
    |exact wpAny_pure hQ
    | (cases u <;> first
        |exact wpAny_pure hQ
        | (refine wpAny_bind (wpAny_load ho ?_)
           rw[hc, hd]
           show wpAny M A (if (["enumerate", "zip", "dict_itemiterator", "dict_reverseitemiterator", "odict_iterator", "itertools.zip_longest", "itertools.pairwise"].contains n&&vs[0]? == some (rawInt _))=true then _ else _) Q E s
           rw[if_neg (by intro h;rw[hn, Bool.false_and] at h;cases h)]
           exact wpAny_pure hQ))
noncomputable def Itl (K:PySem.W.Frag)(a:Addr):It:=
 ⟨λi H=>∃xs x,SqL K H a xs/\xs[i]?=some x,λi H x H'=>H'=H/\∀xs,SqL K H a xs->xs[i]?=some x,λi H=>∃xs,SqL K H a xs/\xs.length<=i⟩
noncomputable def Itt (K:PySem.W.Frag)(a:Addr):It:=
 ⟨λi H=>∃xs x,SqT K H a xs/\xs[i]?=some x,λi H x H'=>H'=H/\∀xs,SqT K H a xs->xs[i]?=some x,λi H=>∃xs,SqT K H a xs/\xs.length<=i⟩
noncomputable def Itr(lo:Int)(n:Nat):It:=⟨λi _=>i<n,λi H x H'=>H'=H/\x=.int (lo+i),λi _=>n<=i⟩
theorem xa{P:Program}{w:World}{K:PySem.W.Frag}{tg:Expr}(a it:Addr):Turn P w K tg (Itl K a) [it] it (λi h=>h.IsListIter it a i) where
 mem:=by simp
 obj:=λi h st b hb=>by
  have e:b=it:=by simpa using hb
  subst e
  obtain⟨o,e,c,d⟩:=st
  exact⟨o,e,λv z=>by rw[d] at z;cases z⟩
 keep:=λi h h' st k=>st.at λo e=>k it (by simp) o e
 item:=by
  intro X hP hw hK hc i pins s σ H E I hf st hg
  subst hP hw hK
  obtain⟨xs,x,hq,hx⟩:=hg
  obtain⟨its,rv,p,hz⟩:=I.list hq
  obtain⟨u,hu,ru⟩:=rv.get hx
  obtain⟨f0,f1,f2,f3,f4,f5⟩:=hf it (by simp)
  refine wpAny_pyNext_list_item st p.isList (x:=u) (by simpa using hu) λh' st' sb=>?_
  have I1:Inv X pins σ H {s with heap:=h'}:=I.turned (t':=s.toks) (λb o hb e=>(sb.2 b hb).trans e) f0 f1 f3 f4 f5
  obtain⟨o,e,c,d⟩:=id st'
  exact⟨u,rfl,kC (s:={s with heap:=h'}) e c d (by decide) ⟨x,H,I1,ru,⟨rfl,λys hy=>by rw[I.list_inj hy hq];exact hx⟩,st',λb hb=>(hf b hb).1⟩⟩
 done:=by
  intro X hP hw hK hc i pins s σ H E I hf st hg
  subst hP hw hK
  obtain⟨xs,hq,hx⟩:=hg
  obtain⟨its,rv,p,hz⟩:=I.list hq
  obtain⟨f0,f1,f2,f3,f4,f5⟩:=hf it (by simp)
  have hl:=rv.length
  exact wpAny_pyNext_list_end (I.ok.hd hc) st p.isList (by simp;omega) λh' eb=>⟨rfl,I.turned (t':=s.toks) (λb o hb e=>eb b o hb e) f0 f1 f3 f4 f5⟩
 self:=λ_ _ _ _ _ st h=>wpAny_pyIter_listiter st h
theorem Z4{P:Program}{w:World}{K:PySem.W.Frag}{tg:Expr}(a it:Addr):Turn P w K tg (Itt K a) [it] it (λi h=>h.IsTupleIter it a i) where
 mem:=by simp
 obj:=λi h st b hb=>by
  have e:b=it:=by simpa using hb
  subst e
  obtain⟨o,e,c,d⟩:=st
  exact⟨o,e,λv z=>by rw[d] at z;cases z⟩
 keep:=λi h h' st k=>st.at λo e=>k it (by simp) o e
 item:=by
  intro X hP hw hK hc i pins s σ H E I hf st hg
  subst hP hw hK
  obtain⟨xs,x,hq,hx⟩:=hg
  obtain⟨its,rv,p,hz⟩:=I.tuple hq
  obtain⟨u,hu,ru⟩:=rv.get hx
  obtain⟨f0,f1,f2,f3,f4,f5⟩:=hf it (by simp)
  refine wpAny_pyNext_tuple_item st (show s.heap.IsTuple a its.toArray from p) (x:=u) (by simpa using hu) λh' st' sb=>?_
  have I1:Inv X pins σ H {s with heap:=h'}:=I.turned (t':=s.toks) (λb o hb e=>(sb.2 b hb).trans e) f0 f1 f3 f4 f5
  obtain⟨o,e,c,d⟩:=id st'
  exact⟨u,rfl,kC (s:={s with heap:=h'}) e c d (by decide) ⟨x,H,I1,ru,⟨rfl,λys hy=>by rw[I.tuple_inj hy hq];exact hx⟩,st',λb hb=>(hf b hb).1⟩⟩
 done:=by
  intro X hP hw hK hc i pins s σ H E I hf st hg
  subst hP hw hK
  obtain⟨xs,hq,hx⟩:=hg
  obtain⟨its,rv,p,hz⟩:=I.tuple hq
  obtain⟨f0,f1,f2,f3,f4,f5⟩:=hf it (by simp)
  have hl:=rv.length
  exact wpAny_pyNext_tuple_end (I.ok.hd hc) st (show s.heap.IsTuple a its.toArray from p) (by simp;omega) λh' eb=>⟨rfl,I.turned (t':=s.toks) (λb o hb e=>eb b o hb e) f0 f1 f3 f4 f5⟩
 self:=λ_ _ _ _ _ st h=>wpAny_pyIter_tupleiter st h
end L2
namespace L2
open PySem PySem.Spec PyProof.Rows
section
variable {X:Cx}{tg:Expr}
noncomputable def Jk(ta:TA):TI:=λσ H R=>ta σ H λvs H1=>∃i j:Int,vs=[.int i,.int j]/\(-(2 ^ 62)<=i/\i<2 ^ 62 /\ -(2 ^ 62)<=j/\j<2 ^ 62)/\R (Itr i (j-i).toNat) H1
noncomputable def z0X (wi:TI)(g:TG)(tb:TS):TS:=λD σ H=>wi σ H λJ H1=>∃W:Nat->Nat->St->Hp->Prop,(∃m,W 0 m σ H1)/\∀i m σ H,W i m σ H->
 (J.stop i H/\D.nx σ H)\/(J.go i H/\∃N:St->Hp->Prop,(∀σ' H',N σ' H'->∃m',m'<m/\W (i+1) m' σ' H')/\∀x H',J.yld i H x H'->g x σ H' λσ2 H2=>tb {D with nx:=N,ct:=N,bk:=D.nx} σ2 H2)
noncomputable def jv(fp:List Addr)(h:Heap):List (Addr×Obj):=fp.filterMap λb=>(h.get? b).map λo=>(b,o)
theorem qD{fp:List Addr}{h:Heap}{b:Addr}{o:Obj}(hb:b∈fp)(e:h.get? b=some o):(b,o)∈jv fp h:=List.mem_filterMap.mpr ⟨b,hb,by rw[e];rfl⟩
theorem QU{fp:List Addr}{h:Heap}{p:Addr×Obj}(hp:p∈jv fp h):p.1∈fp/\h.get? p.1=some p.2:=by
 obtain⟨b,hb,e⟩:=List.mem_filterMap.mp hp
 cases q:h.get? b with
 |none=>rw[q] at e;cases e
 |some o=>
  rw[q] at e
  have e':(b,o)=p:=Option.some.inj e
  subst e'
  exact⟨hb,q⟩
theorem Inv.pinned{pins:List (Addr×Obj)}{σ:St}{H:Hp}{s:Shared}{fp:List Addr}(I:Inv X pins σ H s)(hf:∀b∈fp,yv X pins H b)(ho:∀b∈fp,∃o,s.heap.get? b=some o/\∀v,o.data≠.cell v):Inv X (pins++jv fp s.heap) σ H s:=
 I.pins_of λp hp=>(List.mem_append.mp hp).elim (λz=>I.pin p (List.mem_append_right _ z)) λz=>by
  obtain⟨hb,e⟩:=QU z
  obtain⟨f0,f1,f2,_⟩:=hf p.1 hb
  obtain⟨o,e',d⟩:=ho p.1 hb
  rw[e] at e';cases e'
  exact⟨e,f0,f1,f2,d⟩
theorem Inv.unpinned{pins pl:List (Addr×Obj)}{σ:St}{H:Hp}{s:Shared}(I:Inv X (pins++pl) σ H s):Inv X pins σ H s:=I.pins_of λp hp=>I.pin p (List.mem_append_right _ (List.mem_append_left _ hp))
theorem Yp{iter:Expr}{body:List Stmt}{wi:TI}{g:TG}{tb:TS}{pos:Pos}(hp:PassesOwn (model X.prog X.w) X.A X.env X.xe)(hc:X.calm=true)(hi:PI X tg iter wi)(hg:PG X tg g)(hb:PSs X body tb)
  (hs:∀x,foldedSetIterable iter X.env x=pure x:=by intro _;rfl):PS X (.For tg iter body [] pos) (z0X wi g tb):=by
 intro pins s σ H D I h
 refine wpAny_For (thn (hi pins s σ H _ I h) λv s1 h1=>thn h1 λitv s2 h2=>?_) hs
 obtain⟨it,fp,tn,J,H2,e,I2,T,st2,f2,W,⟨m0,w0⟩,turn⟩:=h2
 subst e
 have stat:∀{H':Hp},(∀b∈fp,H' b=none)->∀b∈fp,yv X pins H' b:=λhn b hb=>⟨hn b hb,(f2 b hb).2⟩
 refine codeAny_forLoop_any (λn s'=>∃i σ' H',Inv X pins σ' H' s'/\tn i s'.heap/\(∀b∈fp,H' b=none)/\W i n σ' H') ?_ m0 ⟨0,σ,H2,I2,st2,λb hb=>(f2 b hb).1,w0⟩
 rintro n s3 ⟨i,σ3,H3,I3,st3,fr3,w3⟩
 rcases turn i n σ3 H3 w3 with⟨stop,qn⟩|⟨go,N,hN,step⟩
 ·refine wpAny_passesOwn hp (thn (T.done X rfl rfl rfl hc i pins s3 σ3 H3 X.xe I3 (stat fr3) st3 stop) λr s4 ⟨hr,I4⟩=>?_)
  subst hr
  exact wpAny_execs_nil ⟨σ3,H3,I4,qn⟩
 ·refine wpAny_passesOwn hp (thn (T.item X rfl rfl rfl hc i pins s3 σ3 H3 X.xe I3 (stat fr3) st3 go) λr s4 ⟨u,hr,h4⟩=>?_)
  subst hr
  refine wpAny_passesOwn hp (thn h4 λ_ s5 ⟨x,H5,I5,r5,y5,st5,fr5⟩=>?_)
  have I5':=I5.pinned (stat fr5) (T.obj _ _ st5)
  refine wpAny_passesOwn hp (thn (hg _ s5 σ3 H5 x u _ I5' r5 (step x H5 y5)) λ_ s6 ⟨σ6,H6,I6,q6⟩=>?_)
  refine wpAny_passesOwn hp (thn (hb _ s6 σ6 H6 _ I6 q6) λf s7 q7=>?_)
  have again:∀{σ7:St} {H7:Hp},Inv X (pins++jv fp s5.heap) σ7 H7 s7->N σ7 H7->∃m,m<n/\∃i σ' H',Inv X pins σ' H' s7/\tn i s7.heap/\(∀b∈fp,H' b=none)/\W i m σ' H':=λ{σ7 H7} I7 n7=>by
   obtain⟨m',hm,w7⟩:=hN σ7 H7 n7
   refine⟨m',hm,i+1,σ7,H7,I7.unpinned,T.keep _ _ _ st5 λb hb o e=>(I7.pin (b,o) (List.mem_append_right _ (List.mem_append_right _ (qD hb e)))).1,λb hb=>?_,w7⟩
   obtain⟨o,e,d⟩:=T.obj _ _ st5 b hb
   exact (I7.pin (b,o) (List.mem_append_right _ (List.mem_append_right _ (qD hb e)))).2.1
  cases f with
  |next=>obtain⟨σ7,H7,I7,n7⟩:=q7;exact again I7 n7
  |cont=>obtain⟨σ7,H7,I7,n7⟩:=q7;exact again I7 n7
  |brk=>obtain⟨σ7,H7,I7,q7⟩:=q7;exact⟨σ7,H7,I7.unpinned,q7⟩
  |ret v=>obtain⟨x7,σ7,H7,I7,r7,q7⟩:=q7;exact⟨x7,σ7,H7,I7.unpinned,r7,q7⟩
end
end L2
namespace L2
open PySem PySem.Spec PyProof.Rows
noncomputable abbrev R2:=V->V->Hp->VK->Prop
noncomputable def OpR (X:Cx)(f:Value->Value->Sem Value)(r:R2):Prop:=
 ∀(pins:List (Addr×Obj)) (s:Shared) (σ:St) (H:Hp) (x y:V) (v u:Value) (Q:VK),Inv X pins σ H s->RelV x v->RelV y u->r x y H Q->
  wpAny (model X.prog X.w) X.A (f v u) (EP X pins σ Q) X.xe s
noncomputable def UnR (X:Cx)(f:Value->Sem Value)(r:V->Hp->VK->Prop):Prop:=
 ∀(pins:List (Addr×Obj)) (s:Shared) (σ:St) (H:Hp) (x:V) (v:Value) (Q:VK),Inv X pins σ H s->RelV x v->r x H Q->
  wpAny (model X.prog X.w) X.A (f v) (EP X pins σ Q) X.xe s
noncomputable def ZO(X:Cx)(f:Value)(r:List V->Hp->VK->Prop):Prop:=
 ∀(pins:List (Addr×Obj)) (s:Shared) (σ:St) (H:Hp) (xs:List V) (us:List Value) (Q:VK),Inv X pins σ H s->Vals xs us->r xs H Q->
  wpAny (model X.prog X.w) X.A (call f us) (EP X pins σ Q) X.xe s
noncomputable def rI (C:Int->Int->Prop)(g:Int->Int->V):R2:=λx y H Q=>∃i j,x=.int i/\y=.int j/\C i j/\Q (g i j) H
noncomputable def rI0 (g:Int->Int->V):R2:=λx y H Q=>∃i j,x=.int i/\y=.int j/\Q (g i j) H
noncomputable def rU (g:Int->V):V->Hp->VK->Prop:=λx H Q=>∃i,x=.int i/\Q (g i) H
section
variable {X:Cx}{a b c:Expr}{ta tb tc:TE}{pos:Pos}
theorem opI{f:Value->Value->Sem Value}{C:Int->Int->Prop}{g:Int->Int->Int}
  (rule:∀(i j:Int) (t u:Tok) (s:Shared) (Q:Value->Shared->Prop) (E:Value->Shared->Prop),C i j->Q (.int (g i j) s.toks) {s with toks:=s.toks+1}->wpAny (model X.prog X.w) X.A (f (.int i t) (.int j u)) Q E s) :
  OpR X f (rI C λi j=>.int (g i j)):=by
 intro pins s σ H x y v u Q I rx ry h
 obtain⟨i,j,rfl,rfl,hc,q⟩:=h
 obtain⟨t,rfl⟩:=rx
 obtain⟨t',rfl⟩:=ry
 exact rule i j t t' s _ _ hc ⟨.int (g i j),H,I.tok _,⟨_,rfl⟩,q⟩
theorem Yu{f:Value->Value->Sem Value}{g:Int->Int->Int}
  (rule:∀(i j:Int) (t u:Tok) (s:Shared) (Q:Value->Shared->Prop) (E:Value->Shared->Prop),Q (.int (g i j) s.toks) {s with toks:=s.toks+1}->wpAny (model X.prog X.w) X.A (f (.int i t) (.int j u)) Q E s) :
  OpR X f (rI0 λi j=>.int (g i j)):=by
 intro pins s σ H x y v u Q I rx ry h
 obtain⟨i,j,rfl,rfl,q⟩:=h
 obtain⟨t,rfl⟩:=rx
 obtain⟨t',rfl⟩:=ry
 exact rule i j t t' s _ _ ⟨.int (g i j),H,I.tok _,⟨_,rfl⟩,q⟩
theorem JD{f:Value->Value->Sem Value}{g:Int->Int->Bool}
  (rule:∀(i j:Int) (t u:Tok) (s:Shared) (Q:Value->Shared->Prop) (E:Value->Shared->Prop),Q (.bool (g i j)) s->wpAny (model X.prog X.w) X.A (f (.int i t) (.int j u)) Q E s) :
  OpR X f (rI0 λi j=>.bl (g i j)):=by
 intro pins s σ H x y v u Q I rx ry h
 obtain⟨i,j,rfl,rfl,q⟩:=h
 obtain⟨t,rfl⟩:=rx
 obtain⟨t',rfl⟩:=ry
 exact rule i j t t' s _ _ ⟨.bl (g i j),H,I,rfl,q⟩
noncomputable def z1c(i j:Int):Prop:=0<=j/\j<=1000000/\i.natAbs<2 ^ 64
noncomputable def CMul(i j:Int):Prop:=(-(2 ^ 64)<i/\i<2 ^ 64)\/(-(2 ^ 64)<j/\j<2 ^ 64)
theorem CMul.ok{i j:Int}(h:CMul i j):IntMulOk i j:=by
 rcases h with⟨h1,h2⟩|⟨h1,h2⟩
 ·exact .of_left (intBits_le_64 h1 h2)
 ·exact .of_right (intBits_le_64 h1 h2)
theorem Zs(k:Nat):(0:Int)<=2 ^ k:=by
 rw[two_pow_cast]
 exact Int.natCast_nonneg _
theorem YT:OpR X (binaryOp .Add) (rI0 λi j=>.int (i+j)):=Yu λ_ _ _ _ _ _ _ q=>add_int q
theorem Y6:OpR X (binaryOp .Sub) (rI0 λi j=>.int (i-j)):=Yu λ_ _ _ _ _ _ _ q=>sub_int q
theorem U0:OpR X (binaryOp .Mult) (rI CMul λi j=>.int (i * j)):=opI λ_ _ _ _ _ _ _ hc q=>mul_int q hc.ok
theorem Y9:OpR X (binaryOp .Mod) (rI (λ_ j=>0<j) λi j=>.int (i % j)):=opI λi j _ _ _ _ _ hc q=>by
 have h1:(0:Int)<j:=hc
 exact mod_int' (by omega) (by rw[Int.fmod_eq_emod_of_nonneg i (by omega)];exact q)
theorem Yj:OpR X (binaryOp .Pow) (rI z1c λi j=>.int (i ^ j.toNat)):=opI λ_ _ _ _ _ _ _ hc q=>pow_int_small hc.1 hc.2.1 hc.2.2 q
theorem XY:OpR X (binaryOp .RShift) (rI (λ_ j=>0<=j) λi j=>.int (i / 2 ^ j.toNat)):=opI λi j _ _ _ _ _ hc q=>
 rshift_int hc (by rw[Int.fdiv_eq_ediv_of_nonneg i (Zs _)];exact q)
theorem Uw:OpR X (binaryOp .BitAnd) (rI0 λi j=>.int (Builtin.bitAnd i j)):=Yu λ_ _ _ _ _ _ _ q=>and_int q
theorem unI{f:Value->Sem Value}{g:Int->Int}
  (rule:∀(i:Int) (t:Tok) (s:Shared) (Q:Value->Shared->Prop) (E:Value->Shared->Prop),Q (.int (g i) s.toks) {s with toks:=s.toks+1}->wpAny (model X.prog X.w) X.A (f (.int i t)) Q E s) :
  UnR X f (rU λi=>.int (g i)):=by
 intro pins s σ H x v Q I rx h
 obtain⟨i,rfl,q⟩:=h
 obtain⟨t,rfl⟩:=rx
 exact rule i t s _ _ ⟨.int (g i),H,I.tok _,⟨_,rfl⟩,q⟩
theorem YU:UnR X (unaryOp .USub) (rU λi=>.int (-i)):=unI λ_ _ _ _ _ q=>neg_int q
end
noncomputable def Km:V->V->Bool
 |.non,.non=>true|.non,.int _=>true|.int _,.non=>true|.non,.bl _=>true|.bl _,.non=>true|.non,.str _=>true|.str _,.non=>true
 |.int _,.int _=>true|.bl _,.bl _=>true|.str _,.str _=>true|.byt _,.byt _=>true
 |.int _,.str _=>true|.str _,.int _=>true|.bl _,.str _=>true|.str _,.bl _=>true
 |_,_=>false
noncomputable def rEq:R2:=λx y H Q=>Km x y=true/\Q (.bl (decide (x=y))) H
noncomputable def rNe:R2:=λx y H Q=>Km x y=true/\Q (.bl (!decide (x=y))) H
theorem ZN{i j:Int}:decide (V.int i=V.int j)=(i == j):=by
 rw[Bool.eq_iff_iff]
 simp
theorem J1{i j:Bool}:decide (V.bl i=V.bl j)=(i == j):=by
 rw[Bool.eq_iff_iff]
 simp
theorem Qb{i j:Str}:decide (V.str i=V.str j)=(i == j):=by
 rw[Bool.eq_iff_iff]
 simp
theorem ZM{i j:Array UInt8}:decide (V.byt i=V.byt j)=(i.toList == j.toList):=by
 rw[Bool.eq_iff_iff]
 cases i
 cases j
 simp
section
variable {X:Cx}{a b c:Expr}{ta tb tc:TE}{pos:Pos}
theorem ze{pins:List (Addr×Obj)}{σ:St}{H:Hp}{s:Shared}{Q:VK}{k k':Bool}(I:Inv X pins σ H s)(q:Q (.bl k) H)(e:k=k'):EP X pins σ Q (.bool k') s:=by
 subst e
 exact⟨.bl k,H,I,rfl,q⟩
theorem z0g:OpR X (compareOp .Eq) rEq:=by
 intro pins s σ H x y v u Q I rx ry h
 obtain⟨hs,q⟩:=h
 cases x with
 |non=>
  cases rx
  cases y with
  |non=>cases ry;exact PySem.EqNone.eq_none_none (ze I q (by simp))
  |bl j=>cases ry;exact PySem.EqNone.eq_none_bool (ze I q (by simp))
  |int j=>obtain⟨t',rfl⟩:=ry;exact PySem.EqNone.eq_none_int (ze I q (by simp))
  |str j=>obtain⟨t',rfl⟩:=ry;exact PySem.EqNone.eq_none_str (ze I q (by simp))
  |_=>exact absurd (show false=true from hs) Bool.false_ne_true
 |bl i=>
  cases rx
  cases y with
  |non=>cases ry;exact PySem.EqNone.eq_bool_none (ze I q (by simp))
  |bl j=>cases ry;exact eq_bool (ze I q J1)
  |str j=>obtain⟨t',rfl⟩:=ry;exact PySem.EqMixed.eq_bool_str (ze I q (by simp))
  |_=>exact absurd (show false=true from hs) Bool.false_ne_true
 |int i=>
  obtain⟨t,rfl⟩:=rx
  cases y with
  |non=>cases ry;exact PySem.EqNone.eq_int_none (ze I q (by simp))
  |int j=>obtain⟨t',rfl⟩:=ry;exact eq_int (ze I q ZN)
  |str j=>obtain⟨t',rfl⟩:=ry;exact PySem.EqMixed.eq_int_str (ze I q (by simp))
  |_=>exact absurd (show false=true from hs) Bool.false_ne_true
 |str i=>
  obtain⟨t,rfl⟩:=rx
  cases y with
  |non=>cases ry;exact PySem.EqNone.eq_str_none (ze I q (by simp))
  |bl j=>cases ry;exact PySem.EqMixed.eq_str_bool (ze I q (by simp))
  |int j=>obtain⟨t',rfl⟩:=ry;exact PySem.EqMixed.eq_str_int (ze I q (by simp))
  |str j=>obtain⟨t',rfl⟩:=ry;exact eq_str (ze I q Qb)
  |_=>exact absurd (show false=true from hs) Bool.false_ne_true
 |byt i=>
  obtain⟨t,rfl⟩:=rx
  cases y with
  |byt j=>obtain⟨t',rfl⟩:=ry;exact PySem.W.eq_bytes (ze I q ZM)
  |_=>exact absurd (show false=true from hs) Bool.false_ne_true
 |_=>cases y<;>exact absurd (show false=true from hs) Bool.false_ne_true
theorem z0m:OpR X (compareOp .NotEq) rNe:=by
 intro pins s σ H x y v u Q I rx ry h
 obtain⟨hs,q⟩:=h
 cases x with
 |non=>
  cases rx
  cases y with
  |non=>cases ry;exact PySem.EqNone.ne_none_none (ze I q (by simp))
  |bl j=>cases ry;exact PySem.EqNone.ne_none_bool (ze I q (by simp))
  |int j=>obtain⟨t',rfl⟩:=ry;exact PySem.EqNone.ne_none_int (ze I q (by simp))
  |str j=>obtain⟨t',rfl⟩:=ry;exact PySem.EqNone.ne_none_str (ze I q (by simp))
  |_=>exact absurd (show false=true from hs) Bool.false_ne_true
 |bl i=>
  cases rx
  cases y with
  |non=>cases ry;exact PySem.EqNone.ne_bool_none (ze I q (by simp))
  |bl j=>cases ry;exact ne_bool (ze I q (congrArg not J1))
  |str j=>obtain⟨t',rfl⟩:=ry;exact PySem.EqMixed.ne_bool_str (ze I q (by simp))
  |_=>exact absurd (show false=true from hs) Bool.false_ne_true
 |int i=>
  obtain⟨t,rfl⟩:=rx
  cases y with
  |non=>cases ry;exact PySem.EqNone.ne_int_none (ze I q (by simp))
  |int j=>obtain⟨t',rfl⟩:=ry;exact ne_int (ze I q (congrArg not ZN))
  |str j=>obtain⟨t',rfl⟩:=ry;exact PySem.EqMixed.ne_int_str (ze I q (by simp))
  |_=>exact absurd (show false=true from hs) Bool.false_ne_true
 |str i=>
  obtain⟨t,rfl⟩:=rx
  cases y with
  |non=>cases ry;exact PySem.EqNone.ne_str_none (ze I q (by simp))
  |bl j=>cases ry;exact PySem.EqMixed.ne_str_bool (ze I q (by simp))
  |int j=>obtain⟨t',rfl⟩:=ry;exact PySem.EqMixed.ne_str_int (ze I q (by simp))
  |str j=>obtain⟨t',rfl⟩:=ry;exact ne_str (ze I q (congrArg not Qb))
  |_=>exact absurd (show false=true from hs) Bool.false_ne_true
 |byt i=>
  obtain⟨t,rfl⟩:=rx
  cases y with
  |byt j=>obtain⟨t',rfl⟩:=ry;exact PySem.W.ne_bytes (ze I q (congrArg not ZM))
  |_=>exact absurd (show false=true from hs) Bool.false_ne_true
 |_=>cases y<;>exact absurd (show false=true from hs) Bool.false_ne_true
theorem US:OpR X (compareOp .Lt) (rI0 λi j=>.bl (decide (i<j))):=JD λ_ _ _ _ _ _ _ q=>lt_int q
theorem UQ:OpR X (compareOp .LtE) (rI0 λi j=>.bl (decide (i<=j))):=JD λ_ _ _ _ _ _ _ q=>le_int q
theorem UT:OpR X (compareOp .Gt) (rI0 λi j=>.bl (decide (j<i))):=JD λ_ _ _ _ _ _ _ q=>gt_int q
theorem z0J:OpR X (compareOp .GtE) (rI0 λi j=>.bl (decide (j<=i))):=JD λ_ _ _ _ _ _ _ q=>ge_int q
theorem Qx:OpR X (compareOp .In) (λx y H Q=>∃i j,x=.str i/\y=.str j/\Q (.bl (!(Builtin.Str.occurrences j i 0 j.length 1).isEmpty)) H):=by
 intro pins s σ H x y v u Q I rx ry h
 obtain⟨i,j,rfl,rfl,q⟩:=h
 obtain⟨t,rfl⟩:=rx
 obtain⟨t',rfl⟩:=ry
 exact in_str (ze I q rfl)
theorem Us:OpR X (compareOp .Is) (λx y H Q=>y=.non/\Q (.bl (decide (x=.non))) H):=by
 intro pins s σ H x y v u Q I rx ry h
 obtain⟨rfl,q⟩:=h
 cases ry
 refine is_none_gen (ze I q ?_)
 cases x<;>first
  |(cases rx;rfl)
  |(obtain⟨t,rfl⟩:=rx;rfl)
theorem Kd:OpR X (compareOp .IsNot) (λx y H Q=>y=.non/\Q (.bl (!decide (x=.non))) H):=by
 intro pins s σ H x y v u Q I rx ry h
 obtain⟨rfl,q⟩:=h
 cases ry
 refine isnot_none_gen (ze I q ?_)
 cases x<;>first
  |(cases rx;rfl)
  |(obtain⟨t,rfl⟩:=rx;rfl)
theorem y7:OpR X (compareOp .NotIn) (λx y H Q=>∃i j,x=.str i/\y=.str j/\Q (.bl (!(!(Builtin.Str.occurrences j i 0 j.length 1).isEmpty))) H):=by
 intro pins s σ H x y v u Q I rx ry h
 obtain⟨i,j,rfl,rfl,q⟩:=h
 obtain⟨t,rfl⟩:=rx
 obtain⟨t',rfl⟩:=ry
 exact notIn_str (ze I q rfl)
theorem Jh(b:Expr){op:CmpOp}(h:op≠.In:=by decide)(h2:op≠.NotIn:=by decide):behindInMarks op b=false:=by
 have e1:(op == CmpOp.In)=false:=by cases op<;>first|rfl|exact absurd rfl h
 have e2:(op == CmpOp.NotIn)=false:=by cases op<;>first|rfl|exact absurd rfl h2
 cases b<;>simp[behindInMarks,e1,e2]
theorem ke:(sizeLine:Nat)<2 ^ 63:=by rw[sizeLine_eq];decide
theorem uG:OpR X (binaryOp .Add) (λx y H Q=>∃i j,x=.str i/\y=.str j/\i.length+j.length<=sizeLine/\Q (.str (i++j)) H):=by
 intro pins s σ H x y v u Q I rx ry h
 obtain⟨i,j,rfl,rfl,hz,q⟩:=h
 obtain⟨t,rfl⟩:=rx
 obtain⟨t',rfl⟩:=ry
 exact add_str (λt' tk=>⟨.str (i++j),H,I.tok _,⟨_,rfl⟩,q⟩) hz
theorem vals1{x:V}{us:List Value}(r:Vals [x] us):∃u,us=[u]/\RelV x u:=by
 cases r with
 |cons r1 r2=>cases r2;exact⟨_,rfl,r1⟩
theorem vals2{x y:V}{us:List Value}(r:Vals [x,y] us):∃u w',us=[u,w']/\RelV x u/\RelV y w':=by
 cases r with
 |cons r1 r2=>
  cases r2 with
  |cons r3 r4=>cases r4;exact⟨_,_,rfl,r1,r3⟩
theorem kE:ZO X (.type "int") (λxs H Q=>(∃i,xs=[.int i]/\Q (.int i) H)\/∃k,xs=[.bl k]/\Q (.int (if k then 1 else 0)) H):=by
 intro pins s σ H xs us Q I r h
 rcases h with⟨i,rfl,q⟩|⟨k,rfl,q⟩
 ·obtain⟨u,rfl,t,rfl⟩:=vals1 r
  exact call_int_int ⟨.int i,H,I,⟨_,rfl⟩,q⟩
 ·obtain⟨u,rfl,r1⟩:=vals1 r
  cases r1
  exact call_int_bool ⟨.int (if k then 1 else 0),H,I.tok _,⟨_,rfl⟩,q⟩
end
end L2
namespace L2
open PySem PySem.Spec PyProof.Rows
structure ObjM(h:Heap)(x dx C:Addr)(mA:Str->Option Value):Prop where
 obj:h.get? x=some (PySem.W.instObj C dx)
 ns:h.Ns1 dx mA
 ne:dx≠x
theorem xh{h:Heap}{dx:Addr}{mA:Str->Option Value}(n:h.Ns1 dx mA):∃od,h.get? dx=some od/\∀name,PySem.W.lookIn name od=some (mA name):=by
 obtain⟨o,es,ep,ho,hd,hk,_,hm⟩:=n
 refine⟨o,ho,λname=>?_⟩
 have e:=hm name
 unfold nsFind findBy at e
 rw[←Array.find?_toList] at e
 unfold PySem.W.lookIn
 rw[hd]
 dsimp only
 split
 ·rename_i y q
  rw[q] at e
  exact congrArg some e
 ·rename_i q
  rw[q] at e
  have a:es.toList.any (·.refKey)=false:=by
   rw[List.any_eq_false]
   intro y hy
   obtain⟨z,t,hkey⟩:=hk y (Array.mem_toList_iff.mp hy)
   simp[DictEntry.refKey,hkey]
  have a':¬es.toList.any (·.refKey)=true:=by rw[a];exact Bool.false_ne_true
  rw[if_neg a']
  exact congrArg some e
theorem ObjM.look{h:Heap}{x dx C:Addr}{mA:Str->Option Value}(I:ObjM h x dx C mA):∃od,PySem.W.InstAt h x (PySem.W.instObj C dx) C (some od)/\∀name,PySem.W.lookIn name od=some (mA name):=
 let ⟨od,ho,hl⟩:=xh I.ns
 ⟨od,⟨I.obj,rfl,rfl,ho⟩,hl⟩
section
variable {prog:Program}{w:World}{A:Around}{E:Value->Shared->Prop}{s:Shared}{K:PySem.W.Frag}{x dx C f:Addr}{mA:Str->Option Value}{name:Str}{v:Value}
theorem get_map{expr:Bool}{Q:Value->Shared->Prop}(X:K.In s.heap)(I:ObjM s.heap x dx C mA)(hg:PySem.W.plainGet K C name=true)(hh:PySem.W.hasDictIn K C=true)
  (ha:PySem.W.findIn K (.ref C) name=some none) (hv:mA name=some v) (hv':PySem.W.handedIn v=true) (h:Q v {s with toks:=s.toks+1}) :
  wpAny (model prog w) A (getAttr (.ref x) name expr) Q E s:=by
 obtain⟨od,J,hl⟩:=I.look
 exact PySem.W.get_value X J (PySem.W.plainGet_of hg).1 (PySem.W.findObj_own hh ha rfl (by rw[hl,hv])) hv' h
theorem KO{ns:List Str}{Q:Unit->Shared->Prop}(X:K.In s.heap)(I:ObjM s.heap x dx C mA)
  (hs:PySem.W.findIn K (.ref C) "__setattr__"=some (some (.builtin "object.__setattr__"))) (hp:PySem.W.plainOver K C=true) (ht:PySem.W.takerIn K C name=some none) (hh:PySem.W.hasDictIn K C=true)
  (hw:PySem.Within mA ns) (hsz:ns.length<=sizeLine)
  (h:∀h',ObjM h' x dx C (λy=>if y=name then some v else mA y)->Heap.SameBut dx s.heap h'->Q () {s with heap:=h',toks:=s.toks+2}) :
  wpAny (model prog w) A (setAttr (.ref x) name v) Q E s:=by
 obtain⟨od,J,hl⟩:=I.look
 refine PySem.W.set_plain X J hs (PySem.W.osa_open (s:={s with toks:=s.toks+1}) (r:=none) X J hp ht λb=>?_)
 obtain⟨cd,hc,hd'⟩:=PySem.W.any_some hh
 have hx:s.heap.get? x=some ⟨.ref C,some dx,.plain,#[]⟩:=I.obj
 refine wpAny_bind (wpAny_pure (wpAny_bind (wpAny_bind (wpAny_loadPart hx (wpAny_bind (PySem.W.Looks.here (s:={s with toks:=s.toks+1}) (PySem.W.looks_clsIn X hc) ?_))))))
 rw[hd']
 refine wpAny_pure (a:=some dx) (wpAny_bind (wpAny_pure (wpAny_bind ?_)))
 refine wpAny_nsSet1 (s:={s with toks:=s.toks+1}) I.ns λh' hn2 hs2=>?_
 obtain⟨oD,esD,epD,hoD,hdD,hcD⟩:=hn2.count (PySem.Within.cons name v hw)
 refine wpAny_bind (wpAny_lookBehind hoD (by rw[hdD];exact pastItsLine_dict (Nat.le_trans hcD (by rw[List.length_cons];omega))) ?_)
 exact wpAny_pure (h _ ⟨(hs2.2 _ (Ne.symm I.ne)).trans I.obj,hn2,I.ne⟩ hs2)
theorem Vi{R:Result->Shared->Prop}{vs:List Value}{kw:List (Str×Value)}(X:K.In s.heap)(hm:PySem.W.makesIn K C=true)
  (hi:PySem.W.findIn K (.ref C) "__init__"=some (some (.ref f))) (hf:PySem.W.typeIn K (.ref f)=some (.type "function"))
  (h:codeAny (model prog w) (A.under (.builtin "type.__call__" ⟨.ref C::vs,kw⟩)) (.call (.ref f) ⟨.ref (s.heap.objs.size+1)::vs,kw⟩) (PySem.W.InitBack (s.heap.objs.size+1) R)
   {s with heap:=(s.heap.push PySem.W.emptyDict).push (PySem.W.instObj C s.heap.objs.size)}) :
  codeAny (model prog w) A (.call (.ref C) ⟨vs,kw⟩) R s:=by
 obtain⟨hh,g,d,t,os⟩:=s
 exact PySem.W.make_core (PySem.W.makes_of X hm) (PySem.W.looks_findIn X hi) (λself=>PySem.W.bind_fn X self hf) (.inl rfl) h
end
noncomputable def qq(f:Str)(v:V):List (Str×V)->List (Str×V)
 |[]=>[(f,v)]
 |(g,x)::r=>if g=f then (g,v)::r else (g,x)::qq f v r
theorem vR(f g:Str)(v:V):∀fs:List (Str×V),(qq f v fs).lookup g=if g=f then some v else fs.lookup g
 |[]=>by
  show List.lookup g [(f,v)]=_
  by_cases h:g=f
  ·have hb:(g == f)=true:=beq_iff_eq.mpr h
   simp only[List.lookup,hb,if_pos h]
  ·have hb:(g == f)=false:=beq_eq_false_iff_ne.mpr h
   simp only[List.lookup,hb,if_neg h]
 |(k,x)::r=>by
  have ih:=vR f g v r
  rw[show qq f v ((k,x)::r)=(if k=f then (k,v)::r else (k,x)::qq f v r) from rfl]
  by_cases hk:k=f
  ·rw[if_pos hk]
   by_cases h:g=k
   ·have hb:(g == k)=true:=beq_iff_eq.mpr h
    simp only[List.lookup,hb,if_pos (h.trans hk)]
   ·have hb:(g == k)=false:=beq_eq_false_iff_ne.mpr h
    simp only[List.lookup,hb,if_neg (λe:g=f=>h (e.trans hk.symm))]
  ·rw[if_neg hk]
   by_cases h:g=k
   ·have hb:(g == k)=true:=beq_iff_eq.mpr h
    simp only[List.lookup,hb,if_neg (λe:g=f=>hk (h.symm.trans e))]
   ·have hb:(g == k)=false:=beq_eq_false_iff_ne.mpr h
    simp only[List.lookup,hb]
    exact ih
theorem vE(f:Str)(v:V):∀fs:List (Str×V),f∈(qq f v fs).map (·.1)/\∀g,g∈fs.map (·.1)->g∈(qq f v fs).map (·.1)
 |[]=>⟨by simp[qq],λg h=>by simp at h⟩
 |(k,x)::r=>by
  obtain⟨i1,i2⟩:=vE f v r
  rw[show qq f v ((k,x)::r)=(if k=f then (k,v)::r else (k,x)::qq f v r) from rfl]
  by_cases hk:k=f
  ·rw[if_pos hk]
   subst hk
   exact⟨by simp,λg h=>by simpa using h⟩
  ·rw[if_neg hk]
   refine⟨?_,λg h=>?_⟩
   ·rw[List.map_cons]
    exact List.mem_cons_of_mem _ i1
   ·rw[List.map_cons] at h ⊢
    rcases List.mem_cons.mp h with e|e
    ·exact List.mem_cons.mpr (.inl e)
    ·exact List.mem_cons_of_mem _ (i2 g e)
theorem vZ(f:Str)(v:V):∀fs:List (Str×V),(qq f v fs).length<=fs.length+1
 |[]=>by simp[qq]
 |(k,x)::r=>by
  have ih:=vZ f v r
  rw[show qq f v ((k,x)::r)=(if k=f then (k,v)::r else (k,x)::qq f v r) from rfl]
  by_cases hk:k=f
  ·rw[if_pos hk,List.length_cons,List.length_cons];omega
  ·rw[if_neg hk,List.length_cons,List.length_cons];omega
theorem RelO.some_of{v:V}{o:Option Value}(r:RelO (some v) o):∃u,o=some u/\RelV v u:=by
 cases o with
 |none=>exact (show False from r).elim
 |some u=>exact⟨u,rfl,r⟩
theorem kI{v:V}{u:Value}(r:RelV v u):PySem.W.handedIn u=true:=by
 cases v with
 |non=>cases (show u=Value.none from r);rfl
 |bl b=>cases (show u=Value.bool b from r);rfl
 |int i=>obtain⟨t,e⟩:=(show ∃t,u=Value.int i t from r);cases e;rfl
 |str x=>obtain⟨t,e⟩:=(show ∃t,u=Value.str x t from r);cases e;rfl
 |byt b=>obtain⟨t,e⟩:=(show ∃t,u=Value.bytes b t from r);cases e;rfl
 |flt b=>obtain⟨t,e⟩:=(show ∃t,u=Value.float b t from r);cases e;rfl
 |ref a=>cases (show u=Value.ref a from r);rfl
 |ty n=>cases (show u=Value.type n from r);rfl
section
variable {P:Program}{w:World}{H H':Hp}{h h':Heap}{a C dx:Addr}{fs fs':List (Str×V)}
theorem yk(hok:HOk P w H h)(e:H a=some (.ins C dx fs)):∃mA,ObjM h a dx C mA/\(∀f,RelO (fs.lookup f) (mA f))/\PySem.Within mA (fs.map (·.1))/\fs.length<=1000/\H dx=some (.own a):=by
 obtain⟨d,z,ne,ob,mA,n,r,q⟩:=(show ObjOk P w H h a (.ins C dx fs) from hok a _ e)
 exact⟨mA,⟨ob,n,ne⟩,r,q,z,d⟩
end
structure Cls(K:PySem.W.Frag)(C:Addr):Prop where
 pg:PySem.W.plainGet K C Str.empty=true
 hd:PySem.W.hasDictIn K C=true
 po:PySem.W.plainOver K C=true
 sa:PySem.W.findIn K (.ref C) "__setattr__"=some (some (.builtin "object.__setattr__"))
theorem Cls.get{K:PySem.W.Frag}{C:Addr}(c:Cls K C)(f:Str):PySem.W.plainGet K C f=true:=c.pg
noncomputable def NoAttr(K:PySem.W.Frag)(C:Addr)(f:Str):Prop:=PySem.W.findIn K (.ref C) f=some none
theorem NoAttr.taker{K:PySem.W.Frag}{C:Addr}{f:Str}(n:NoAttr K C f):PySem.W.takerIn K C f=some none:=by
 unfold PySem.W.takerIn
 rw[show PySem.W.findIn K (.ref C) f=some none from n]
 rfl
structure Meth(K:PySem.W.Frag)(C:Addr)(m:Str)(f:Addr):Prop where
 at_:PySem.W.findIn K (.ref C) m=some (some (.ref f))
 fn:PySem.W.isFn K (.ref f)=true
 kp:PySem.W.keepIn K (.ref f)=true
section
variable {X:Cx}{pins:List (Addr×Obj)}{σ:St}{H:Hp}{s:Shared}{a C dx:Addr}{fs:List (Str×V)}{f:Str}{v:V}{A:Around}{E:Value->Shared->Prop}
theorem uJ{b:Bool}{Q:Value->Shared->Prop}(I:Inv X pins σ H s)(e:H a=some (.ins C dx fs))(c:Cls X.K C)(n:NoAttr X.K C f)(l:fs.lookup f=some v)
  (h:∀u s',Inv X pins σ H s'->RelV v u->Q u s'):wpAny (model X.prog X.w) A (getAttr (.ref a) f b) Q E s:=by
 obtain⟨mA,O,r,_,_,_⟩:=yk I.hok e
 obtain⟨u,hu,ru⟩:=RelO.some_of (v:=v) (o:=mA f) (by rw[←l];exact r f)
 exact get_map I.kIn O (c.get f) c.hd n hu (kI ru) (h u _ (I.tok _) ru)
theorem uC{y:V}{u:Value}{Q:Unit->Shared->Prop}(I:Inv X pins σ H s)(e:H a=some (.ins C dx fs))(c:Cls X.K C)(n:NoAttr X.K C f)(hl:fs.length<1000)(ry:RelV y u)
  (h:∀s',Inv X pins σ (upd H a (.ins C dx (qq f y fs))) s'->Q () s'):wpAny (model X.prog X.w) A (setAttr (.ref a) f u) Q E s:=by
 obtain⟨mA,O,r,wi,_,ho⟩:=yk I.hok e
 have hz:(fs.map (·.1)).length<=sizeLine:=by rw[List.length_map,sizeLine_eq];omega
 refine KO I.kIn O c.sa c.po n.taker c.hd wi hz λh' O' sb=>h _ ?_
 have hd:∃o,h'.get? dx=some o:=let ⟨o,_,_,e',_⟩:=O'.ns;⟨o,e'⟩
 refine I.write (x:=a) (e:=dx) (by rw[e];exact True.intro) (.inr ho) (λb q hb z=>(sb.2 b hb).trans z) hd ?_
 refine⟨by rw[z8 O.ne];exact ho,?_,O.ne,O'.obj,_,O'.ns,λg=>?_,λg hg=>?_⟩
 ·have:=vZ f y fs;omega
 ·show RelO ((qq f y fs).lookup g) (if g=f then some u else mA g)
  rw[vR]
  by_cases q:g=f
  ·rw[if_pos q,if_pos q];exact ry
  ·rw[if_neg q,if_neg q];exact r g
 ·by_cases q:g=f
  ·rw[q];exact (vE f y fs).1
  ·refine (vE f y fs).2 g (wi g λz=>hg ?_)
   show (if g=f then some u else mA g)=none
   rw[if_neg q];exact z
theorem Inv.made(I:Inv X pins σ H s):Inv X pins σ (upd (upd H s.heap.objs.size (.own (s.heap.objs.size+1))) (s.heap.objs.size+1) (.ins C s.heap.objs.size []))
  {s with heap:=(s.heap.push PySem.W.emptyDict).push (PySem.W.instObj C s.heap.objs.size)}:=by
 have e1:(s.heap.push PySem.W.emptyDict).get? s.heap.objs.size=some PySem.W.emptyDict:=Heap.get?_push_size s.heap rfl
 have e2:((s.heap.push PySem.W.emptyDict).push (PySem.W.instObj C s.heap.objs.size)).get? (s.heap.objs.size+1)=some (PySem.W.instObj C s.heap.objs.size):=by
  have:=Heap.get?_push_size (s.heap.push PySem.W.emptyDict) (o:=PySem.W.instObj C s.heap.objs.size) rfl
  rwa[Heap.size_push] at this
 have e3:(s.heap.push PySem.W.emptyDict).Ns s.heap.objs.size (λ_=>none):=⟨PySem.W.emptyDict,#[],_,e1,rfl,(λe he=>absurd he (by simp)),λ_=>rfl⟩
 have I1:=I.laid (a:=s.heap.objs.size) (o:=.own (s.heap.objs.size+1)) (h':=s.heap.push PySem.W.emptyDict) (t':=s.toks) (λb u q=>Heap.get?_push_of_some _ q) (Nat.le_refl _) ⟨_,e1⟩
 refine I1.laid (a:=s.heap.objs.size+1) (o:=.ins C s.heap.objs.size []) (t':=s.toks) (λb u q=>Heap.get?_push_of_some _ q) (Nat.le_of_eq (Heap.size_push _ _)) ?_
 have ne:s.heap.objs.size≠s.heap.objs.size+1:=Nat.ne_of_lt (Nat.lt_succ_self _)
 refine⟨by rw[z8 ne,z7],Nat.zero_le _,ne,e2,λ_=>none,(Heap.Ns1.of_empty e3).at λo q=>Heap.get?_push_of_some _ q,λ_=>True.intro,λy hy=>absurd rfl hy⟩
theorem ZA{prog:Program}{w:World}{env:Env}{e:Expr}{f:Str}{pos:Pos}{s:Shared}{Q:Value->Shared->Prop}(hb:attributeBase e f env (eval e env)=eval e env)
  (h:wpAny (model prog w) A (eval e env) (λo s₁=>wpAny (model prog w) A (getAttr o f true) Q E s₁) E s):wpAny (model prog w) A (eval (.Attribute e f pos) env) Q E s:=
 Attribute_any_ h (by rw[arm_eval_Attribute,hb])
end
noncomputable def z0V (K:PySem.W.Frag)(ta:TE)(f:Str):TE:=λσ H Q=>ta σ H λx H1=>∃a C dx fs v,x=.ref a/\H1 a=some (.ins C dx fs)/\Cls K C/\NoAttr K C f/\fs.lookup f=some v/\Q v H1
noncomputable def uR (K:PySem.W.Frag)(ta tv:TE)(f:Str):TS:=λD σ H=>tv σ H λy H1=>ta σ H1 λx H2=>∃a C dx fs,x=.ref a/\H2 a=some (.ins C dx fs)/\Cls K C/\NoAttr K C f/\fs.length<1000/\
 D.nx σ (upd H2 a (.ins C dx (qq f y fs)))
section
variable {X:Cx}{o e value:Expr}{f:Str}{pos pos' tpos:Pos}{ta tv:TE}
theorem YJ(he:PE X e ta)(hb:attributeBase e f X.env (eval e X.env)=eval e X.env):PE X (.Attribute e f pos) (z0V X.K ta f):=by
 intro pins s σ H Q I h
 refine ZA hb (thn (he pins s σ H _ I h) λu s1 ⟨x,H1,I1,rx,a,C,dx,fs,v,ex,ea,c,n,l,q⟩=>?_)
 subst ex
 obtain rfl:u=Value.ref a:=rx
 exact uJ I1 ea c n l λu' s2 I2 ru=>⟨v,H1,I2,ru,q⟩
theorem Ug(ha:PE X o ta)(hv:PE X value tv)(hs:swapsWith value (some (.Attribute o f pos')) pos.line X.env=pure false):PS X (.Assign [.Attribute o f pos'] value pos) (uR X.K ta tv f):=by
 intro pins s σ H D I h
 refine plainObj_wpAny_Assign_Attribute (thn (hv pins s σ H _ I h) λu s1 ⟨y,H1,I1,ry,q⟩=>thn (ha pins s1 σ H1 _ I1 q) λov s2 ⟨x,H2,I2,rx,a,C,dx,fs,ex,ea,c,n,l,q2⟩=>?_) hs
 subst ex
 obtain rfl:ov=Value.ref a:=rx
 exact uC I2 ea c n l ry λs3 I3=>⟨σ,_,I3,q2⟩
noncomputable def U2:V->V->Hp->VK->Prop:=λx y H Q=>∃i j,x=.int i/\y=.int j/\Q (.int (i-j)) H
end
end L2
namespace L2
open PySem PySem.Spec PyProof.Rows
structure Room(k:Nat)(A:Around):Prop where
 hd:A.handled=none
 dp:A.depth+3 * k+5<recursionLimit
 un:A.units+16 * k+200<cLine
theorem Room.mono{j k:Nat}{A:Around}(r:Room k A)(h:j<=k):Room j A:=⟨r.hd,by have:=r.dp;omega,by have:=r.un;omega⟩
theorem Room.deeper{k:Nat}{A:Around}(r:Room (k+1) A)(env:Env):Room k (A.deeper env):=
 ⟨r.hd,by have:=r.dp;show A.depth+1+3 * k+5<_;omega,by have:=r.un;show A.units+3+16 * k+200<_;omega⟩
theorem jy{A:Around}{C:Addr}{us:List Value}{kw:List (Str×Value)}:(A.under (.builtin "type.__call__" ⟨.ref C::us,kw⟩)).depth=A.depth+1:=by
 first|rfl|simp[Around.under,Code.weight,Code.isCreation,Code.isGuard,Code.isCaller,Code.frames,Code.isFrame,guardIds]
theorem jG{A:Around}{C:Addr}{us:List Value}{kw:List (Str×Value)}:(A.under (.builtin "type.__call__" ⟨.ref C::us,kw⟩)).units=A.units+1:=by
 first|rfl|simp[Around.under,Code.cUnits,Code.frames,Code.isFrame]
theorem Room.make{k:Nat}{A:Around}(r:Room (k+1) A)(C:Addr)(us:List Value)(kw:List (Str×Value)):Room k (A.under (.builtin "type.__call__" ⟨.ref C::us,kw⟩)):=
 ⟨r.hd,by have:=r.dp;rw[jy];omega,by have:=r.un;rw[jG];omega⟩
theorem Room.depth{k:Nat}{A:Around}(r:Room k A):A.depth<recursionLimit:=by have:=r.dp;omega
noncomputable def z1m:TA:=λ_ H Q=>Q [] H
noncomputable def z0p(ta:TE)(tr:TA):TA:=λσ H Q=>ta σ H λx H1=>tr σ H1 λxs H2=>Q (x::xs) H2
section
variable {X:Cx}{e:Expr}{es:List Expr}{te:TE}{t:TA}{pos:Pos}
theorem zH:PA X [] z1m:=λ_ _ _ _ H Q I h=>Calls.spliced_nil ⟨[],H,I,.nil,h⟩
theorem zm(ha:PE X e te)(hr:PA X es t)(hs:starEach (e::es) X.env=(false,eval e X.env)::starEach es X.env:=by rfl):PA X (e::es) (z0p te t):=by
 intro pos pins s σ H Q I h
 rw[hs]
 show wpAny _ _ (spliced ((false,eval e X.env)::backTo pos (starEach es X.env))) _ _ s
 refine Calls.spliced_cons (thn (ha pins s σ H _ I h) λu s1 ⟨x,H1,I1,r1,q1⟩=>?_)
 exact thn (hr pos pins s1 σ H1 _ I1 q1) λus s2 ⟨xs,H2,I2,r2,q2⟩=>⟨x::xs,H2,I2,.cons r1 r2,q2⟩
noncomputable def z1g (t:TA):TE:=λσ H Q=>t σ H λxs H1=>xs.length<=sizeLine/\∀p,H1 p=none->Q (.ref p) (upd H1 p (.tup xs))
noncomputable def z18 (t:TA):TE:=λσ H Q=>t σ H λxs H1=>xs.length<=sizeLine/\∀p,H1 p=none->Q (.ref p) (upd H1 p (.lst xs))
theorem VP{x1}(h:PA X es t):PE X (.Tuple es x1 pos) (z1g t):=by
 intro pins s σ H Q I hq
 refine wpAny_Tuple_spliced (thn (h pos pins s σ H _ I hq) λus s1 ⟨xs,H1,I1,r,z,q⟩=>⟨by rw[←r.length];exact z,?_⟩)
 have hf:H1 s1.heap.objs.size=none:=I1.hok.fresh (Nat.le_refl _)
 refine⟨.ref s1.heap.objs.size,upd H1 s1.heap.objs.size (.tup xs),I1.laid (t':=s1.toks) (λb u e=>Heap.get?_push_of_some _ e) (Nat.le_refl _) ?_,rfl,q _ hf⟩
 exact⟨z,us,r,⟨_,Heap.get?_push_size _ rfl,rfl,_,rfl⟩⟩
theorem WT(h:PA X es t):PE X (.List es pos) (z18 t):=by
 intro pins s σ H Q I hq
 refine wpAny_List_spliced (thn (h pos pins s σ H _ I hq) λus s1 ⟨xs,H1,I1,r,z,q⟩=>⟨by rw[←r.length];exact z,?_⟩)
 have hf:H1 s1.heap.objs.size=none:=I1.hok.fresh (Nat.le_refl _)
 refine⟨.ref s1.heap.objs.size,upd H1 s1.heap.objs.size (.lst xs),I1.laid (t':=s1.toks) (λb u e=>Heap.get?_push_of_some _ e) (Nat.le_refl _) ?_,rfl,q _ hf⟩
 exact⟨z,us,0,r,Heap.get?_push_size _ rfl⟩
end
noncomputable abbrev Sp:=List V->Hp->VK->XK->Prop
noncomputable abbrev CXT:=List Env->Hp->Shared->XK->Value->Shared->Prop
structure Env0(P:Program)(w:World)(K:PySem.W.Frag)(mg:Str->Option Value)(base:Heap)(A:Around)(outer:List Env)(s:Shared)(H:Hp):Prop where
 frames:A.frames=some outer
 mod:Mod K mg base
 bs:∀b o,base.get? b=some o->s.heap.get? b=some o/\H b=none
 bsz:base.objs.size<=s.heap.objs.size
 funs:s.heap.FunFrames base outer
 frf:∀b∈frs outer,H b=none
 hok:HOk P w H s.heap
 bare:AllBare s.gens
inductive CE(outer:List Env)(P:Program)(w:World)(H:Hp)(s:Shared)(Q:VK)(u:Value)(s':Shared):Prop where
 |mk (v:V) (H':Hp) (o:s'.os=s.os) (b:AllBare s'.gens) (n:Un (frs outer) [] H H' s.heap s'.heap) (k:HOk P w H' s'.heap) (r:RelV v u) (q:Q v H')
noncomputable def CR (CX:CXT)(outer:List Env)(P:Program)(w:World)(H:Hp)(s:Shared)(Q:VK)(E:XK)(r:Result)(s':Shared):Prop:=
 match r with
 |.ok (.ret u)=>CE outer P w H s Q u s'
 |.ok _=>False
 |.error e=>CX outer H s E e s'
structure FnOk(P:Program)(w:World)(K:PySem.W.Frag)(mg:Str->Option Value)(base:Heap)(CX:CXT)(k:Nat)(f:Addr)(fd:FuncData)(ps:List Str)(sp:Sp):Prop where
 len:∀vs H Q E,sp vs H Q E->vs.length=ps.length
 run:∀(A:Around) (outer:List Env) (s:Shared) (H:Hp) (args:Args) (us:List Value) (vs:List V) (Q:VK) (E:XK),Room k A->Env0 P w K mg base A outer s H->BindsTo s fd args (ps.zip us)->Vals vs us->sp vs H Q E->
  codeAny (model P w) A (.call (.ref f) args) (CR CX outer P w H s Q E) s
theorem FnOk.imp{P:Program}{w:World}{K:PySem.W.Frag}{mg:Str->Option Value}{base:Heap}{CX:CXT}{k:Nat}{f:Addr}{fd:FuncData}{ps:List Str}{sp sp':Sp}(F:FnOk P w K mg base CX k f fd ps sp)
  (h:∀vs H Q E,sp' vs H Q E->sp vs H Q E):FnOk P w K mg base CX k f fd ps sp':=
 ⟨λvs H Q E q=>F.len vs H Q E (h _ _ _ _ q),λA outer s H args us vs Q E hr he hb hv hs=>F.run A outer s H args us vs Q E hr he hb hv (h _ _ _ _ hs)⟩
theorem Env0.make{P:Program}{w:World}{K:PySem.W.Frag}{mg:Str->Option Value}{base:Heap}{A:Around}{outer:List Env}{s:Shared}{H:Hp}(e:Env0 P w K mg base A outer s H)(C:Addr)(us:List Value)(kw:List (Str×Value)) :
  Env0 P w K mg base (A.under (.builtin "type.__call__" ⟨.ref C::us,kw⟩)) outer s H:=⟨by first|exact e.frames|(simpa[Around.under,Code.envs,Code.isFrame,pushEnvs] using e.frames),e.mod,e.bs,e.bsz,e.funs,e.frf,e.hok,e.bare⟩
section
variable {X:Cx}{pins:List (Addr×Obj)}{σ:St}{H:Hp}{s s':Shared}
theorem Inv.env0(I:Inv X pins σ H s):Env0 X.prog X.w X.K X.mg X.base X.A X.stack s H:=
 ⟨I.ok.frames,I.ok.mod,I.bs,Nat.le_trans I.ok.bsz I.sz,I.stack,I.stkFree,I.hok,I.bare⟩
theorem Inv.after{Q:VK}{u:Value}(I:Inv X pins σ H s)(h:CE X.stack X.prog X.w H s Q u s'):EP X pins σ Q u s':=by
 obtain⟨v,H',os,bare,un,hok,r,q⟩:=h
 obtain⟨hh,g,d,t,os'⟩:=s'
 obtain rfl:os'=s.os:=os
 exact⟨v,H',I.call (h':=hh) (g':=g) (d':=d) (t':=t) (ch:=[]) un hok bare (λb z=>absurd z (by simp)),r,q⟩
end
noncomputable def Binds(K:PySem.W.Frag)(fd:FuncData)(ps:List Str)(ds:List Value):Prop:=
 ∀(s:Shared) (us:List Value),K.In s.heap->(us++ds).length=ps.length->BindsTo s fd ⟨us,[]⟩ (ps.zip (us++ds))
theorem Binds.all{K:PySem.W.Frag}{fd:FuncData}{ps:List Str}(h:∀us:List Value,us.length=ps.length->bindArgs fd ⟨us,[]⟩=pure (ps.zip us)):Binds K fd ps []:=λs us _ hl=>by
 rw[List.append_nil] at hl ⊢
 exact .of_eq (h us hl)
section
variable {X:Cx}{CX:CXT}{k:Nat}{f C:Addr}{fd:FuncData}{ps:List Str}{sp:Sp}{dvs:List V}{ds:List Value}{E:XK}{x m:Str}{p pos apos:Pos}{e o:Expr}{es:List Expr}{ta:TE}{t:TA}
structure Mk(K:PySem.W.Frag)(C f:Addr):Prop where
 makes:PySem.W.makesIn K C=true
 init:PySem.W.findIn K (.ref C) "__init__"=some (some (.ref f))
 fn:PySem.W.isFn K (.ref f)=true
 kp:PySem.W.keepIn K (.ref C)=true
end
structure FnScope(N P:List Str)(sc:Scope):Prop where
 kind:sc.kind=.function
 co:sc.isCoroutine=false
 gen:sc.isGenerator=false
 nd:N.Nodup
 pre:N.take P.length=P
 par:∀x∈P,sc.names.lookup x=some .local\/sc.names.lookup x=some .cell
 nofree:∀y∈sc.names,y.2≠.free
theorem kF{kindOf:Str->Option NameKind}{x:Str}:∀{binds:List (Str×Value)} {m:Str->Option Value},(∀v,(x,v)∉binds)->bindL kindOf binds m x=m x
 |[],_,_=>rfl
 |(n,v)::r,m,h=>by
  unfold bindL
  rw[kF λw hw=>h w (List.mem_cons_of_mem _ hw)]
  split
  ·have:x≠n:=by rintro rfl;exact h v List.mem_cons_self
   simp[this]
  ·rfl
theorem kY{kindOf:Str->Option NameKind}{x:Str}:∀{binds:List (Str×Value)} {m:Str->Option Value},(∀v,(x,v)∉binds)->bindC kindOf binds m x=m x
 |[],_,_=>rfl
 |(n,v)::r,m,h=>by
  unfold bindC
  rw[kY λw hw=>h w (List.mem_cons_of_mem _ hw)]
  split
  ·rfl
  ·have:x≠n:=by rintro rfl;exact h v List.mem_cons_self
   simp[this]
theorem kO{kindOf:Str->Option NameKind}{x:Str}{v:Value}:∀{P:List Str} {vs:List Value} {i:Nat} {m:Str->Option Value},P.Nodup->P[i]?=some x->vs[i]?=some v->kindOf x=some .local->
  bindL kindOf (P.zip vs) m x=some v
 |[],_,_,_,_,h,_,_=>by simp at h
 |_::_,[],_,_,_,_,h,_=>by simp at h
 |p::P,w::vs,0,m,nd,h1,h2,hk=>by
  simp at h1 h2;subst h1;subst h2
  show bindL kindOf ((p,w)::P.zip vs) m p=_
  unfold bindL
  rw[kF λv hv=>(List.nodup_cons.mp nd).1 (List.of_mem_zip hv).1,if_pos hk]
  simp
 |p::P,w::vs,i+1,m,nd,h1,h2,hk=>by
  show bindL kindOf ((p,w)::P.zip vs) m x=_
  unfold bindL
  exact kO (i:=i) (List.nodup_cons.mp nd).2 (by simpa using h1) (by simpa using h2) hk
theorem xu{kindOf:Str->Option NameKind}{x:Str}{v:Value}:∀{P:List Str} {vs:List Value} {i:Nat} {m:Str->Option Value},P.Nodup->P[i]?=some x->vs[i]?=some v->kindOf x≠some .local->
  bindC kindOf (P.zip vs) m x=some v
 |[],_,_,_,_,h,_,_=>by simp at h
 |_::_,[],_,_,_,_,h,_=>by simp at h
 |p::P,w::vs,0,m,nd,h1,h2,hk=>by
  simp at h1 h2;subst h1;subst h2
  show bindC kindOf ((p,w)::P.zip vs) m p=_
  unfold bindC
  rw[kY λv hv=>(List.nodup_cons.mp nd).1 (List.of_mem_zip hv).1,if_neg hk]
  simp
 |p::P,w::vs,i+1,m,nd,h1,h2,hk=>by
  show bindC kindOf ((p,w)::P.zip vs) m x=_
  unfold bindC
  exact xu (i:=i) (List.nodup_cons.mp nd).2 (by simpa using h1) (by simpa using h2) hk
noncomputable def start(N:List Str)(vs:List V):St:=vs.map some++List.replicate (N.length-vs.length) none
noncomputable def Zn (CX:CXT)(P:Program)(w:World)(K:PySem.W.Frag)(mg:Str->Option Value)(base:Heap)(N:List Str)(qual:Str)(scope:Scope)(f:Addr)(cd:Value)(A:Around)(outer:List Env)(s:Shared)(H:Hp)(E:XK)(fnb:Str->Bool:=λ_=>true):Cx where
 prog:=P
 w:=w
 K:=K
 mg:=mg
 base:=base
 A:=A.deeper (envOfC qual scope s.heap.objs.size f cd)
 N:=N
 s₀:=s
 H₀:=H
 env:=envOfC qual scope s.heap.objs.size f cd
 outer:=outer
 stack:=envOfC qual scope s.heap.objs.size f cd::outer
 ex:=[]
 calm:=true
 fn:=fnb
 pn:=[]
 xe:=λe s'=>wpAny (model P w) (A.deeper (envOfC qual scope s.heap.objs.size f cd)) (leaving (envOfC qual scope s.heap.objs.size f cd) e) (λ_ s''=>CX outer H s E e s'') (λe' s''=>CX outer H s E e' s'') s'
theorem y_{sc:Scope}{n:Nat}{x:Str}(h:sc.names.lookup x=some .cell):∃c,(cellsFrom n sc.names []).lookup x=some c:=by
 have q:=PySem.W.cellsFrom_some sc.names n [] (.inl h)
 exact Option.isSome_iff_exists.mp q
theorem kT{CX:CXT}{P:Program}{w:World}{K:PySem.W.Frag}{mg:Str->Option Value}{base:Heap}{N ps:List Str}{qual:Str}{scope:Scope}{f:Addr}{cd:Value}{A:Around}{outer:List Env}{s s1:Shared}{H:Hp}{E:XK}{us:List Value}{vs:List V}{fnb:Str->Bool}
  (S:FnScope N ps scope) (hd:A.handled=none) (e0:Env0 P w K mg base A outer s H) (hl:vs.length=ps.length) (r:Vals vs us)
  (x:InCallC s s.heap.objs.size (bindL (envOfC qual scope s.heap.objs.size f cd).kindOf (ps.zip us) λ_=>none) (cellsFrom (s.heap.objs.size+1) scope.names []) (bindC (envOfC qual scope s.heap.objs.size f cd).kindOf (ps.zip us) λ_=>none) s1) :
  Inv (Zn CX P w K mg base N qual scope f cd A outer s H E fnb) [] (start N vs) H s1:=by
 have hpl:ps.length<=N.length:=by have:=congrArg List.length S.pre;rw[List.length_take] at this;omega
 obtain⟨h1,tk,rfl,hk⟩:=x.done
 have noA:∀b:Addr,b∉(Zn CX P w K mg base N qual scope f cd A outer s H E fnb).ex:=λb z=>absurd (show b∈([]:List Addr) from z) (by simp)
 refine⟨⟨e0.mod,S.kind,rfl,rfl,Nat.le_refl _,λy z c h1 h2=>?_,λy hy=>?_,λy c _ h=>?_,λ_=>hd,Around.frames_deeper e0.frames,.inr ⟨rfl,rfl⟩,λb z=>absurd z (noA b),e0.bs,e0.bsz,λb _ _=>noA b,λb z=>absurd z (noA b),e0.funs,e0.frf⟩,
  rfl,e0.bare,Un.kept hk,⟨_,x.toInCall.ns,λi y v h1 h2 h3=>?_⟩,λy c h=>⟨_,x.cell y c h⟩,e0.hok.fresh (Nat.le_refl _),λy c h=>?_,λp hp=>absurd (show p∈([]:List (Addr×Obj)) from hp) (by simp),e0.hok.kept hk,?_⟩
 ·exact name_of_addr x.apart (PySem.mem_of_lookup h1) (PySem.mem_of_lookup h2)
 ·have hy:scope.names.lookup y=some .cell\/scope.names.lookup y=some .free:=hy
  rcases hy with hy|hy
  ·exact y_ hy
  ·exact absurd rfl (S.nofree _ (PySem.mem_of_lookup hy))
 ·exact Nat.le_of_lt (x.above y c (PySem.mem_of_lookup h))
 ·have hi:i<vs.length:=by
   unfold start at h2
   by_cases hi:i<vs.length
   ·exact hi
   ·rw[List.getElem?_append_right (by simpa using hi)] at h2
    rw[List.getElem?_replicate] at h2
    split at h2<;>cases h2
  have ha:vs[i]?=some v:=by
   unfold start at h2
   rw[List.getElem?_append_left (by simpa using hi),List.getElem?_map] at h2
   cases e:vs[i]? with
   |none=>rw[e] at h2;cases h2
   |some a=>rw[e] at h2;cases h2;rfl
  obtain⟨u,hu,rv⟩:=r.get ha
  have hp:ps[i]?=some y:=by
   rw[←S.pre,List.getElem?_take_of_lt (by omega)];exact h1
  have ndP:ps.Nodup:=by rw[←S.pre];exact S.nd.sublist (List.take_sublist _ _)
  refine⟨u,rv,?_⟩
  rcases S.par y (List.mem_of_getElem? hp) with k|k
  ·exact .inl ⟨k,kO ndP hp hu k⟩
  ·obtain⟨c,e⟩:=y_ (n:=s.heap.objs.size+1) k
   refine .inr ⟨.inl k,c,e,?_⟩
   have q:=x.cell y c e
   rw[xu ndP hp hu (by show scope.names.lookup y≠_;rw[k];decide)] at q
   exact q
 ·exact .inl (e0.hok.fresh (Nat.le_of_lt (x.above y c (PySem.mem_of_lookup h))))
 ·unfold start
  show _=N.length
  rw[List.length_append,List.length_map,List.length_replicate]
  omega
theorem Xg{CX:CXT}{P:Program}{w:World}{K:PySem.W.Frag}{mg:Str->Option Value}{base:Heap}{k:Nat}{f:Addr}{name qual:Str}{params:Arguments}{body:List Stmt}{scope:Scope}{dV kV doc pm cdv ct oc:Value}{an od:Option Addr}
  {osl:Array (Option Value)} {N ps:List Str} {sp:Sp} {fnb:Str->Bool} (lk:K.lookup f=some ⟨oc,od,.func (PySem.W.fnOf name qual params body scope dV kV doc pm an cdv ct),osl⟩) (hcd:PySem.W.codeIn K cdv qual=true) (S:FnScope N ps scope)
  (len:∀vs H Q E,sp vs H Q E->vs.length=ps.length)
  (hbody:∀(A:Around) (outer:List Env) (s:Shared) (H:Hp) (vs:List V) (Q:VK) (E:XK),Room k (A.deeper (envOfC qual scope s.heap.objs.size f cdv))->sp vs H Q E->(∀y c,(envOfC qual scope s.heap.objs.size f cdv).cells.lookup y=some c->s.heap.objs.size<=c/\H c=none)->
   ∃t,PSs (Zn CX P w K mg base N qual scope f cdv A outer s H E fnb) body t/\t {nx:=λ_ H'=>Q .non H',rt:=Q} (start N vs) H) :
  FnOk P w K mg base CX (k+1) f (PySem.W.fnOf name qual params body scope dV kV doc pm an cdv ct) ps sp:=by
 refine⟨len,λA outer s H args us vs Q E hr e0 hb r hsp=>?_⟩
 have hl:=len _ _ _ _ hsp
 have KX:K.In s.heap:=e0.mod.kin.keeps λb o e=>(e0.bs b o e).1
 have lim:s.heap.NoLimit:=e0.mod.nolimit.keeps λb o e=>(e0.bs b o e).1
 have hkind:∀y∈ps.zip us,scope.names.lookup y.1=some .local\/(scope.names.lookup y.1=some .cell/\((cellsFrom (s.heap.objs.size+1) scope.names []).lookup y.1).isSome=true):=λ⟨n,v⟩ hy=>by
  rcases S.par n (List.of_mem_zip hy).1 with q|q
  ·exact .inl q
  ·exact .inr ⟨q,PySem.W.cellsFrom_some _ _ _ (.inl q)⟩
 refine codeAny_call_function hr.depth (KX _ _ lk) rfl S.co S.gen rfl (PySem.W.codeRec_of KX hcd) (hb _ _ _ _ ?_)
 refine wpAny_newFunctionEnv_cells S.kind hkind λenv he s1 x=>?_
 subst he
 refine⟨lim.keeps x.toInCall.keep,codeAny_func ?_⟩
 obtain⟨t,ht,hq⟩:=hbody A outer s H vs Q E (hr.deeper _) hsp λy c h=>have l:=Nat.le_of_lt (x.above y c (PySem.mem_of_lookup h));⟨l,e0.hok.fresh l⟩
 have I:Inv (Zn CX P w K mg base N qual scope f cdv A outer s H E fnb) [] (start N vs) H s1:=kT S hr.hd e0 hl r x
 refine wpAny_mono (ht [] s1 (start N vs) H _ I hq) (λfl s' hs=>?_) λe s' hs=>hs
 have fin:∀{σ':St} {H':Hp} {v:V} {u:Value},Inv (Zn CX P w K mg base N qual scope f cdv A outer s H E fnb) [] σ' H' s'->RelV v u->Q v H'->CE outer P w H s Q u s':=
  λ{σ' H' v u} J rv q=>⟨v,H',J.os,J.bare,J.base,J.hok,rv,q⟩
 cases fl with
 |ret u=>
  obtain⟨v,σ',H',J,rv,q⟩:=hs
  exact fin J rv q
 |next=>
  obtain⟨σ',H',J,q⟩:=hs
  exact fin (v:=V.non) (u:=Value.none) J rfl q
 |brk=>
  obtain⟨_,_,_,q⟩:=hs
  exact False.elim q
 |cont=>
  obtain⟨_,_,_,q⟩:=hs
  exact False.elim q
end L2
namespace HT
open PySem PyProof.Rows
noncomputable def lexLt:List Int->List Int->Bool
 |[],[]=>false
 |[],_::_=>true
 |_::_,[]=>false
 |x::xs,y::ys=>if x=y then lexLt xs ys else decide (x<y)
theorem Zz(x y:Int)(xs ys:List Int):lexLt (x::xs) (y::ys)=if x=y then lexLt xs ys else decide (x<y):=rfl
theorem kl:lexLt [] []=false:=rfl
theorem kg(y:Int)(ys:List Int):lexLt [] (y::ys)=true:=rfl
theorem jj(x:Int)(xs:List Int):lexLt (x::xs) []=false:=rfl
theorem jC(A:Around)(s:Shared)(a:Int)(t:Tok)(c:Int)(u:Tok):∃e,SeqAt.EqAt A s (.int a t) (.int c u) e/\(e=true↔a=c):=
 ⟨(a == c),SeqAt.EqAt.int_int a t c u,by simp⟩
theorem Vw(A:Around)(s:Shared)(a:Int)(t:Tok)(c:Int)(u:Tok)(prog:Program)(w:World)(E:Value->Shared->Prop)(Q:Value->Shared->Prop)(h:Q (.bool (decide (a<c))) s) :
  wpAny (model prog w) A (richCompare .Lt (.int a t) (.int c u)) Q E s:=
 (PyProof.Rows.lt_int h:wpAny (model prog w) A (compareOp .Lt (.int a t) (.int c u)) Q E s)
section
open PySem.SeqAt
open PySem.AutoSeq1 (wpAny_loadPart')
open PySem.MeetsSeq PySem.MeetsSeq2 PySem.MeetsSeq3
theorem kv(l b:Addr)(items items2:Array Value)(n n2:Nat)(dd dd2:Option Addr)(sl sl2:Array (Option Value))(ns ms:List Int)(hi:IntsAre items.toList ns)(hj:IntsAre items2.toList ms) :
  Meets (Builtin.«tuple.__lt__» ⟨[.ref l,.ref b],[]⟩)
   (λ_ R s=>s.heap.get? l=some {cls:=.type "tuple",dict:=dd,data:=.seq items n,slots:=sl}/\s.heap.get? b=some {cls:=.type "tuple",dict:=dd2,data:=.seq items2 n2,slots:=sl2}/\
    R (.ok (.ret (.bool (lexLt ns ms)))) s):=
 .of_wp λprog w A R s h=>by
  obtain⟨hp,g,d,tk,os⟩:=s;obtain⟨hl,hb,h⟩:=h
  have f2:=AutoSeq1.sub_tuple_tuple
  have z1:items.size=ns.length:=by rw[←hi.length];simp
  have z2:items2.size=ms.length:=by rw[←hj.length];simp
  wp_walk using wpAny_loadPart' hl,wpAny_loadPart' hb,wpAny_forIn_list _ (λrest b s'=>b.1=none/\s'=⟨hp,g,d,tk,os⟩/\∃(vs ws:List Value) (ns' ms':List Int),rest=vs.zip ws/\
   IntsAre vs ns'/\IntsAre ws ms'/\ns'.length+items2.size=ms'.length+items.size/\R (.ok (.ret (.bool (lexLt ns' ms')))) ⟨hp,g,d,tk,os⟩) _
  case turn=>
   rintro⟨y,x⟩ rest b s' ⟨hb',rfl,vs,ws,ns',ms',hz,hvi,hwi,hlen,hR⟩
   cases hvi with
   |nil=>rw[List.zip_nil_left] at hz;cases hz
   |cons a t hvi'=>
    cases hwi with
    |nil=>rw[List.zip_nil_right] at hz;cases hz
    |cons c u hwi'=>
     rw[List.zip_cons_cons] at hz
     injection hz with hyx hrest
     injection hyx with hy hx
     subst hy hx
     rw[Zz] at hR
     simp only[List.length_cons] at hlen
     obtain⟨e,he,hiff⟩:=jC A.in1 ⟨hp,g,d,tk,os⟩ a t c u
     refine wpAny_bind (he prog w _ _ ?_)
     cases e with
     |true=>
      rw[if_pos (hiff.mp rfl)] at hR
      wp_walk
      exact⟨rfl,rfl,_,_,_,_,hrest,hvi',hwi',by omega,hR⟩
     |false=>
      rw[if_neg (λq=>absurd (hiff.mpr q) Bool.false_ne_true)] at hR
      have hri:=Vw A.in1 ⟨hp,g,d,tk,os⟩ a t c u prog w
      wp_walk using hri
      exact⟨_,rfl,by simpa using hR⟩
  case fin=>
   rintro⟨b1,b2⟩ s' ⟨hb',rfl,vs,ws,ns',ms',hz,hvi,hwi,hlen,hR⟩
   simp only at hb'
   subst hb'
   have hv:lexLt ns' ms'=decide (items.size<items2.size):=by
    cases hvi with
    |nil=>
     cases hwi with
     |nil=>
      simp only[List.length_nil] at hlen
      rw[kl]
      exact (decide_eq_false (by omega)).symm
     |cons c u hw=>
      simp only[List.length_nil,List.length_cons] at hlen
      rw[kg]
      exact (decide_eq_true (by omega)).symm
    |cons a t hv=>
     cases hwi with
     |nil=>
      simp only[List.length_nil,List.length_cons] at hlen
      rw[jj]
      exact (decide_eq_false (by omega)).symm
     |cons c u hw=>
      rw[List.zip_cons_cons] at hz
      cases hz
   rw[hv] at hR
   wp_walk
   exact⟨_,rfl,by simpa[Builtin.Tuple.tupleCompareSizes] using hR⟩
  case h=>
   exact⟨rfl,rfl,items.toList,items2.toList,ns,ms,rfl,hi,hj,by omega,h⟩
end
section
variable {prog:Program}{w:World}{A:Around}{E:Value->Shared->Prop}{s:Shared}
theorem lt_tupInts{l b:Addr}{items items2:Array Value}{ns ms:List Int}{Q:Value->Shared->Prop}(hl:IsTup s.heap l items)(hb:IsTup s.heap b items2)(hi:IntsAre items.toList ns)(hj:IntsAre items2.toList ms)
  (hu:A.units<cLine) (h:Q (.bool (lexLt ns ms)) s):wpAny (model prog w) A (compareOp .Lt (.ref l) (.ref b)) Q E s:=by
 obtain⟨⟨cls,dd,data,sl⟩,ho,hc,n,hd⟩:=id hl
 obtain⟨⟨cls2,dd2,data2,sl2⟩,ho2,hc2,n2,hd2⟩:=id hb
 simp only at hc hd hc2 hd2
 subst hc hd hc2 hd2
 exact richCompare_meets_room (op:=.Lt) ⟨_,ho,rfl⟩ ⟨_,ho2,rfl⟩ PySem.F.slot_tuple_lt PySem.F.entry_tuple_lt (PySem.F.args_tuple_lt_2 _ _) (kv l b items items2 n n2 dd dd2 sl sl2 ns ms hi hj)
  ⟨ho,ho2,show Value.bool (lexLt ns ms)≠Value.notImplemented/\Q (.bool (lexLt ns ms)) s from ⟨(λx=>nomatch x),h⟩⟩ hu
theorem cat_tup{t b:Addr}{vs ws:List Value}{Q:Value->Shared->Prop}(ht:IsTup s.heap t vs.toArray)(hb:IsTup s.heap b ws.toArray)(hv:vs≠[])
  (h1:ws=[]->Q (.ref t) s) (h2:ws≠[]->Q (.ref s.heap.objs.size) {s with heap:=s.heap.push {cls:=.type "tuple",data:=.seq (vs++ws).toArray}})
  (hsz:vs.length+ws.length<=sizeLine):wpAny (model prog w) A (binaryOp .Add (.ref t) (.ref b)) Q E s:=by
 obtain⟨⟨cls,dd,data,sl⟩,ho,hc,n,hd⟩:=id ht
 obtain⟨⟨cls2,dd2,data2,sl2⟩,ho2,hc2,n2,hd2⟩:=id hb
 simp only at hc hd hc2 hd2
 subst hc hd hc2 hd2
 have e:vs.toArray++ws.toArray=(vs++ws).toArray:=by simp
 by_cases hw:ws=[]
 ·exact concat_meets ⟨_,ho,rfl⟩ ⟨_,ho2,rfl⟩ noFill_tuple_add seq_tuple_add PySem.F.slot_tuple_add PySem.F.entry_tuple_add (PySem.F.args_tuple_add_2 _ _)
   (tuple_addW1 t b vs.toArray ws.toArray n n2 dd dd2 sl sl2 (by simpa using hv) (by simp[hw])) ⟨ho,ho2,h1 hw⟩
 ·refine concat_meets ⟨_,ho,rfl⟩ ⟨_,ho2,rfl⟩ noFill_tuple_add seq_tuple_add PySem.F.slot_tuple_add PySem.F.entry_tuple_add (PySem.F.args_tuple_add_2 _ _)
   (tuple_addW2 t b vs.toArray ws.toArray n n2 dd dd2 sl sl2 (by simpa using hv) (by simpa using hw) (by rw[List.size_toArray,List.size_toArray];exact hsz)) ⟨ho,ho2,?_⟩
  rw[e]
  exact h2 hw
noncomputable def sIx(n d:Nat):Option Int->Nat
 |none=>d
 |some v=>if v<0 then (v+(n:Int)).toNat else min v.toNat n
theorem X_(n d:Nat)(hd:d<=n)(o:Option Int):sIx n d o<=n:=by
 cases o with
 |none=>exact hd
 |some v=>
  show (if v<0 then (v+(n:Int)).toNat else min v.toNat n)<=n
  by_cases hv:v<0
  ·rw[if_pos hv];omega
  ·rw[if_neg hv];exact Nat.min_le_right _ _
theorem ZV(v:Int)(n d:Nat):(if v<0 then max (v+(n:Int)) 0 else min v (n:Int))=((sIx n d (some v):Nat):Int):=by
 show (if v<0 then max (v+(n:Int)) 0 else min v (n:Int))=(((if v<0 then (v+(n:Int)).toNat else min v.toNat n):Nat):Int)
 by_cases hv:v<0
 ·simp only[if_pos hv];omega
 ·simp only[if_neg hv];omega
theorem Zj(lo hi:Option Int)(n:Nat):Builtin.Slice.sliceAdjust lo hi 1 (n:Int)=(((sIx n 0 lo:Nat):Int),((sIx n n hi:Nat):Int)):=by
 have h1:¬((1:Int)<0):=by omega
 unfold Builtin.Slice.sliceAdjust
 simp only[h1,if_false]
 refine Prod.ext ?_ ?_
 ·cases lo with
  |none=>rfl
  |some v=>exact ZV v n 0
 ·cases hi with
  |none=>rfl
  |some v=>exact ZV v n n
theorem uI(i j:Nat):Builtin.Slice.slicePlaces (i:Int) (j:Int) 1=j-i:=by
 unfold Builtin.Slice.slicePlaces
 have h1:(1:Int) > 0:=by omega
 simp only[h1,if_true,Int.ediv_one]
 split<;>omega
theorem kh{v:Value}{o:Option Int}{Q:Option Int->Shared->Prop}(p:IsPart v o)(h:Q o s):wpAny (model prog w) A (Builtin.Slice.slicePartIndex v) Q E s:=by
 cases p with
 |none=>exact slicePart_none h
 |int i t=>exact slicePart_int h
theorem sliceApplied_gen{sl:Addr}{vl vu:Value}{lo hi:Option Int}{n:Nat}{Q:Int×Int×Nat->Shared->Prop}(hs:s.heap.IsSliceOf sl vl vu .none)(pl:IsPart vl lo)(pu:IsPart vu hi)
  (h:Q (((sIx n 0 lo:Nat):Int),1,sIx n n hi-sIx n 0 lo) s):wpAny (model prog w) A (Builtin.Slice.sliceApplied (.ref sl) (pure (n:Int))) Q E s:=by
 obtain⟨os,hos,hcs,hds⟩:=id hs
 unfold Builtin.Slice.sliceApplied Builtin.Slice.sliceFields
 refine wpAny_bind (wpAny_bind (wpAny_field hos hds (x:=vl) rfl (wpAny_bind (wpAny_field hos hds (x:=vu) rfl (wpAny_bind (wpAny_field hos hds (x:=.none) rfl (wpAny_pure ?_)))))))
 refine wpAny_bind (slicePart_none ?_)
 show wpAny _ _ (if ((1:Int) == 0)=true then _ else _) _ _ s
 rw[if_neg (by decide)]
 refine wpAny_bind (kh pl (wpAny_bind (kh pu (wpAny_bind (wpAny_pure ?_)))))
 show wpAny _ _ (match Builtin.Slice.sliceAdjust lo hi 1 (n:Int) with|(lo,hi)=>pure (lo,(1:Int),Builtin.Slice.slicePlaces lo hi 1)) _ _ s
 rw[Zj lo hi n]
 show wpAny _ _ (pure (((sIx n 0 lo:Nat):Int),(1:Int),Builtin.Slice.slicePlaces ((sIx n 0 lo:Nat):Int) ((sIx n n hi:Nat):Int) 1)) _ _ s
 rw[uI]
 exact wpAny_pure h
theorem WC(xs:Array Value)(i k:Nat):((List.range k).filterMap λ(m:Nat)=>xs[((i:Int)+(m:Int) * 1).toNat]?).toArray=((xs.toList.drop i).take k).toArray:=by
 have e:(λ(m:Nat)=>xs[((i:Int)+(m:Int) * 1).toNat]?)=λm=>xs[i+m]?:=by
  funext m
  have:((i:Int)+(m:Int) * 1).toNat=i+m:=by omega
  rw[this]
 rw[e]
 have:=pick_run xs i k
 rw[List.filterMap_map] at this
 have e2:((λx=>xs[x]?) ∘ λx=>i+x)=λm=>xs[i+m]?:=rfl
 rw[e2] at this
 rw[this]
theorem getItem_tuple_cut{t sl:Addr}{items:Array Value}{vl vu:Value}{lo hi:Option Int}{Q:Value->Shared->Prop}(ht:IsTup s.heap t items)(hs:s.heap.IsSliceOf sl vl vu .none)(pl:IsPart vl lo)(pu:IsPart vu hi)
  (hw:¬(sIx items.size 0 lo=0/\sIx items.size items.size hi=items.size))
  (h:Q (.ref s.heap.objs.size) {s with heap:=s.heap.push {cls:=.type "tuple",data:=.seq ((items.toList.drop (sIx items.size 0 lo)).take (sIx items.size items.size hi-sIx items.size 0 lo)).toArray}})
  (hsz:items.size<=sizeLine):wpAny (model prog w) A (getItem (.ref t) (.ref sl)) Q E s:=by
 have htake:sizeOk (.seq ((items.toList.drop (sIx items.size 0 lo)).take (sIx items.size items.size hi-sIx items.size 0 lo)).toArray):=by
  show ((items.toList.drop (sIx items.size 0 lo)).take (sIx items.size items.size hi-sIx items.size 0 lo)).toArray.size<=sizeLine
  rw[List.size_toArray,List.length_take,List.length_drop,Array.length_toList]
  omega
 have hj:sIx items.size items.size hi<=items.size:=X_ _ _ (Nat.le_refl _) hi
 obtain⟨os,hos,hcs,hds⟩:=id hs
 have hTs:s.TypeIs (.ref sl) "slice":=⟨os,hos,hcs⟩
 unfold getItem
 try with_reducible refine wpAny_holding ?_
 first|refine wpAny_bind (wpAny_pure ?_)|skip
 refine wpAny_bind (wpAny_sequenceKey ht.typeIs (by decide) ?_)
 refine wpAny_bind (wpAny_callSpecial?_slot (name:=Str.ofString "__getitem__") ht.typeIs PyProof.Rows.slot_tuple_getitem
  (wpAny_call_entry PyProof.Rows.slot_tuple_getitem ht.typeIs entry_tuple_getitem ?_ (args_tuple_getitem _ _)))
 show wpAny _ _ (Builtin.Tuple.tupleItemsOf (.ref t) >>= _) _ _ s
 refine wpAny_bind (tupleItemsOf_ ht ?_)
 refine wpAny_bind (wpAny_typeOf hTs ?_)
 rw[if_pos (by decide)]
 refine wpAny_bind (sliceApplied_gen hs pl pu ?_)
 have hno:¬((((sIx items.size 0 lo:Nat):Int) == 0&&(1:Int) == 1&&(sIx items.size items.size hi-sIx items.size 0 lo) == items.size)=true):=by
  intro q
  rw[Bool.and_eq_true,Bool.and_eq_true] at q
  have q1:((sIx items.size 0 lo:Nat):Int)=0:=eq_of_beq q.1.1
  have q2:sIx items.size items.size hi-sIx items.size 0 lo=items.size:=eq_of_beq q.2
  exact hw ⟨by omega,by omega⟩
 show wpAny _ _ (if (((sIx items.size 0 lo:Nat):Int) == 0&&(1:Int) == 1&&(sIx items.size items.size hi-sIx items.size 0 lo) == items.size)=true then _ else _) _ _ s
 rw[if_neg hno,WC]
 first
  |exact wpAny_bind (m:=Builtin.Tuple.tupleExact _) (wpAny_newObj_type (wpAny_pure ⟨_,rfl,wpAny_pure h⟩) htake)
  |exact wpAny_bind (m:=Builtin.Tuple.tupleExact _) (wpAny_newObj_type (wpAny_bind (wpAny_pure (wpAny_pure ⟨_,rfl,wpAny_pure h⟩))) htake)
  |exact wpAny_bind (wpAny_bind (m:=Builtin.Tuple.tupleExact _) (wpAny_newObj_type (wpAny_pure (wpAny_pure ⟨_,rfl,wpAny_pure h⟩)) htake))
  |exact wpAny_bind (wpAny_bind (m:=Builtin.Tuple.tupleExact _) (wpAny_newObj_type (wpAny_pure ⟨_,rfl,wpAny_pure h⟩) htake))
end
end HT
namespace L2
open PySem PySem.Spec PyProof.Rows
noncomputable abbrev TO:=St->Hp->(Option Int->Hp->Prop)->Prop
noncomputable def PO (X:Cx)(e:Option Expr)(t:TO):Prop:=
 ∀(pins:List (Addr×Obj)) (s:Shared) (σ:St) (H:Hp) (Q:Option Int->Hp->Prop),Inv X pins σ H s->t σ H Q->
  wpAny (model X.prog X.w) X.A (evalPart e X.env) (λu s'=>∃o H',Inv X pins σ H' s'/\IsPart u o/\Q o H') X.xe s
noncomputable def JV:TO:=λ_ H Q=>Q none H
noncomputable def z0Q(t:TE):TO:=λσ H Q=>t σ H λx H1=>∃i,x=.int i/\Q (some i) H1
theorem intsAre_of{ns:List Int}:∀{us:List Value},Vals (ns.map V.int) us->IntsAre us ns:=by
 induction ns with
 |nil=>intro us r;rw[List.map_nil] at r;cases r;exact .nil
 |cons n ns ih=>
  intro us r
  rw[List.map_cons] at r
  cases r with
  |cons r1 r2=>
   obtain⟨t,e⟩:=r1
   subst e
   exact .cons n t (ih r2)
section
variable {X:Cx}{e:Expr}{te:TE}{lo hi:Option Expr}{tl th:TO}{pos p2:Pos}
theorem KC:PO X none JV:=by
 intro pins s σ H Q I h
 rw[evalPart_none]
 exact wpAny_pure ⟨none,H,I,.none,h⟩
theorem Kt(h:PE X e te):PO X (some e) (z0Q te):=by
 intro pins s σ H Q I hw
 rw[evalPart_some]
 refine thn (h pins s σ H _ I hw) λu s1 ⟨x,H1,I1,r1,q1⟩=>?_
 obtain⟨i,rfl,q⟩:=q1
 obtain⟨t,rfl⟩:=r1
 exact⟨some i,H1,I1,.int i t,q⟩
noncomputable def SlR (X:Cx)(r:V->Option Int->Option Int->Hp->VK->Prop):Prop:=
 ∀(pins:List (Addr×Obj)) (s:Shared) (σ:St) (H:Hp) (x:V) (v vl vu:Value) (lo hi:Option Int) (sl:Addr) (Q:VK),Inv X pins σ H s->RelV x v->s.heap.IsSliceOf sl vl vu .none->IsPart vl lo->IsPart vu hi->r x lo hi H Q->
  ∃T id,typeLookup (.type T) "__getitem__"=pure (some (.builtin id))/\s.TypeIs v T/\wpAny (model X.prog X.w) X.A (getItem v (.ref sl)) (EP X pins σ Q) X.xe s
theorem SlR.or{r r':V->Option Int->Option Int->Hp->VK->Prop}(h:SlR X r)(h':SlR X r'):SlR X (λx lo hi H Q=>r x lo hi H Q\/r' x lo hi H Q):=by
 intro pins s σ H x v vl vu lo hi sl Q I rx hs pl pu q
 rcases q with q|q
 ·exact h pins s σ H x v vl vu lo hi sl Q I rx hs pl pu q
 ·exact h' pins s σ H x v vl vu lo hi sl Q I rx hs pl pu q
noncomputable def tSl (r:V->Option Int->Option Int->Hp->VK->Prop)(te:TE)(tl th:TO):TE:=λσ H Q=>te σ H λx H1=>tl σ H1 λl H2=>th σ H2 λu H3=>r x l u H3 Q
theorem WI{r:V->Option Int->Option Int->Hp->VK->Prop}(hr:SlR X r)(he:PE X e te)(hl:PO X lo tl)(hu:PO X hi th):PE X (.Subscript e (.Slice lo hi none p2) pos) (tSl r te tl th):=by
 intro pins s σ H Q I h
 refine Subscript_ (thn (he pins s σ H _ I h) λv s1 ⟨x,H1,I1,r1,q1⟩=>?_)
 refine wpAny_Slice (thn (hl pins s1 σ H1 _ I1 q1) λvl s2 ⟨l,H2,I2,pl,q2⟩=>thn (hu pins s2 σ H2 _ I2 q2) λvu s3 ⟨u,H3,I3,pu,q3⟩=>?_)
 rw[evalPart_none]
 refine wpAny_pure ?_
 have I4:Inv X pins σ H3 {s3 with heap:=s3.heap.push {cls:=.type "slice",data:=.fields #[vl,vu,.none]}}:=I3.kept (t':=s3.toks) λb ob q=>Heap.get?_push_of_some _ q
 obtain⟨T,id,hT,ht,hg⟩:=hr pins {s3 with heap:=s3.heap.push {cls:=.type "slice",data:=.fields #[vl,vu,.none]}} σ H3 x v vl vu l u s3.heap.objs.size Q I4 r1 (Heap.IsSliceOf.new ..) pl pu q3
 show wpAny (model X.prog X.w) X.A (subscriptTail e (.Slice lo hi none p2) v (.ref s3.heap.objs.size)) (EP X pins σ Q) X.xe {s3 with heap:=s3.heap.push {cls:=.type "slice",data:=.fields #[vl,vu,.none]}}
 exact tail_any (ops:=[.ref s3.heap.objs.size,v]) ht hT hg (by with_unfolding_all rfl)
noncomputable def kn (xs:List V)(lo hi:Option Int):List V:=(xs.drop (HT.sIx xs.length 0 lo)).take (HT.sIx xs.length xs.length hi-HT.sIx xs.length 0 lo)
theorem vO(xs:List V)(lo hi:Option Int):(kn xs lo hi).length<=xs.length:=by
 unfold kn
 rw[List.length_take,List.length_drop]
 omega
noncomputable def z0W (K:PySem.W.Frag):V->Option Int->Option Int->Hp->VK->Prop:=λx lo hi H Q=>∃a xs,x=.ref a/\SqT K H a xs/\
 ¬(HT.sIx xs.length 0 lo=0/\HT.sIx xs.length xs.length hi=xs.length)/\∀p,H p=none->Q (.ref p) (upd H p (.tup (kn xs lo hi)))
theorem XR:SlR X (z0W X.K):=by
 intro pins s σ H x v vl vu lo hi sl Q I rx hs pl pu h
 obtain⟨a,xs,rfl,hx,hw,q⟩:=h
 cases rx
 obtain⟨its,r,ht,hz⟩:=I.tuple hx
 have hlen:its.toArray.size=xs.length:=by rw[List.size_toArray];exact r.length.symm
 refine⟨"tuple",_,PyProof.Rows.slot_tuple_getitem.lookup,ht.typeIs,?_⟩
 refine HT.getItem_tuple_cut ht hs pl pu (by rw[hlen];exact hw) ?_ (by rw[hlen];exact hz)
 rw[hlen]
 refine⟨.ref s.heap.objs.size,_,I.laid (t':=s.toks) (o:=.tup (kn xs lo hi)) (λb ob q=>Heap.get?_push_of_some _ q) (Nat.le_refl _) ?_,rfl,q _ (I.hok.fresh (Nat.le_refl _))⟩
 exact⟨Nat.le_trans (vO xs lo hi) hz,_,(r.drop (HT.sIx xs.length 0 lo)).take (HT.sIx xs.length xs.length hi-HT.sIx xs.length 0 lo),IsTup.new _ _⟩
noncomputable def z1d (K:PySem.W.Frag):R2:=λx y H Q=>∃a b ns ms,x=.ref a/\y=.ref b/\SqT K H a (ns.map V.int)/\SqT K H b (ms.map V.int)/\Q (.bl (HT.lexLt ns ms)) H
theorem U4(hu:X.A.units<cLine):OpR X (compareOp .Lt) (z1d X.K):=by
 intro pins s σ H x y v u Q I rx ry h
 obtain⟨a,b,ns,ms,rfl,rfl,ha,hb,q⟩:=h
 cases rx
 cases ry
 obtain⟨its,r1,p1,_⟩:=I.tuple ha
 obtain⟨its2,r2,p2,_⟩:=I.tuple hb
 have i1:IntsAre its.toArray.toList ns:=intsAre_of r1
 have i2:IntsAre its2.toArray.toList ms:=intsAre_of r2
 exact HT.lt_tupInts p1 p2 i1 i2 hu ⟨.bl (HT.lexLt ns ms),H,I,rfl,q⟩
noncomputable def z0c(K:PySem.W.Frag):R2:=λx y H Q=>∃a b xs ys,x=.ref a/\y=.ref b/\SqT K H a xs/\SqT K H b ys/\xs≠[]/\xs.length+ys.length<=sizeLine/\
 (ys=[]->Q (.ref a) H)/\(ys≠[]->∀p,H p=none->Q (.ref p) (upd H p (.tup (xs++ys))))
theorem Vals.nil_iff{xs:List V}{us:List Value}(r:Vals xs us):us=[]↔xs=[]:=by
 cases r with
 |nil=>simp
 |cons _ _=>simp
theorem Kg:OpR X (binaryOp .Add) (z0c X.K):=by
 intro pins s σ H x y v u Q I rx ry h
 obtain⟨a,b,xs,ys,rfl,rfl,ha,hb,hx,hz,q1,q2⟩:=h
 cases rx
 cases ry
 obtain⟨its,r1,p1,_⟩:=I.tuple ha
 obtain⟨its2,r2,p2,_⟩:=I.tuple hb
 refine HT.cat_tup p1 p2 (λz=>hx (r1.nil_iff.mp z)) (λz=>⟨.ref a,H,I,rfl,q1 (r2.nil_iff.mp z)⟩) (λz=>?_) (by rw[←r1.length,←r2.length];exact hz)
 refine⟨.ref s.heap.objs.size,_,I.laid (t':=s.toks) (o:=.tup (xs++ys)) (λb ob q=>Heap.get?_push_of_some _ q) (Nat.le_refl _) ?_,rfl,q2 (λw=>z (r2.nil_iff.mpr w)) _ (I.hok.fresh (Nat.le_refl _))⟩
 exact⟨by rw[List.length_append];exact hz,_,r1.append r2,IsTup.new _ _⟩
end
end L2
namespace L2
open PySem PySem.Spec PyProof.Rows
noncomputable def ixN(n:Nat)(i:Int):Option Nat:=if 0<=i then (if i<n then some i.toNat else none) else if -(n:Int)<=i then some (i+n).toNat else none
noncomputable def atI {α:Type}(xs:List α)(i:Int):Option α:=(ixN xs.length i).bind λj=>xs[j]?
theorem JE{n:Nat}{i:Int}{j:Nat}(h:ixN n i=some j):seqIndex? i n=some j/\j<n /\ -(n:Int)<=i/\i<n:=by
 unfold ixN at h
 by_cases h0:0<=i
 ·rw[if_pos h0] at h
  by_cases h1:i<n
  ·rw[if_pos h1] at h
   have e:i.toNat=j:=Option.some.inj h
   exact⟨by rw[seqIndex_of h0 h1,e],by omega,by omega,h1⟩
  ·rw[if_neg h1] at h;cases h
 ·rw[if_neg h0] at h
  by_cases h1:-(n:Int)<=i
  ·rw[if_pos h1] at h
   have e:(i+n).toNat=j:=Option.some.inj h
   exact⟨by rw[seqIndex_neg (by omega) h1,e],by omega,h1,by omega⟩
  ·rw[if_neg h1] at h;cases h
theorem xJ{α:Type}{xs:List α}{i:Int}{v:α}(h:atI xs i=some v):∃j,seqIndex? i xs.length=some j/\xs[j]?=some v/\j<xs.length /\ -(xs.length:Int)<=i/\i<xs.length:=by
 unfold atI at h
 cases e:ixN xs.length i with
 |none=>rw[e] at h;cases h
 |some j=>
  rw[e] at h
  obtain⟨h1,h2,h3,h4⟩:=JE e
  exact⟨j,h1,h,h2,h3,h4⟩
noncomputable def X0(b:Expr):Prop:=∀o i,subscripted b false o i=operate [o,i] (getItem o i)
noncomputable def IxR (X:Cx)(r:R2):Prop:=
 ∀(value slice:Expr) (pins:List (Addr×Obj)) (s:Shared) (σ:St) (H:Hp) (x y:V) (v u:Value) (Q:VK),Inv X pins σ H s->RelV x v->RelV y u->r x y H Q->
  subscripted slice false v u=operate [v,u] (getItem v u)->wpAny (model X.prog X.w) X.A (subscriptTail value slice v u) (EP X pins σ Q) X.xe s
noncomputable def MtR (X:Cx)(id:String)(r:V->List V->Hp->VK->Prop):Prop:=
 ∀(pins:List (Addr×Obj)) (s:Shared) (σ:St) (H:Hp) (x:V) (xs:List V) (v:Value) (us:List Value) (Q:VK),Inv X pins σ H s->RelV x v->Vals xs us->r x xs H Q->
  wpAny (model X.prog X.w) X.A (call (.builtin id) (v::us)) (EP X pins σ Q) X.xe s
section
variable {X:Cx}{a b:Expr}{ta tb:TE}{pos:Pos}
noncomputable def z19 (K:PySem.W.Frag):R2:=λx y H Q=>∃p xs i v,x=.ref p/\y=.int i/\SqL K H p xs/\atI xs i=some v/\Q v H
noncomputable def z14 (K:PySem.W.Frag):R2:=λx y H Q=>∃p xs i v,x=.ref p/\y=.int i/\SqT K H p xs/\atI xs i=some v/\Q v H
noncomputable def z16:R2:=λx y H Q=>∃z i c,x=.str z/\y=.int i/\z.length<=sizeLine/\atI z.cps.toList i=some c/\Q (.str ⟨#[c]⟩) H
theorem Q7:IxR X (z19 X.K):=by
 intro value slice pins s σ H x y v u Q I rx ry h hs
 obtain⟨p,xs,i,z,rfl,rfl,hq,he,q⟩:=h
 cases rx
 obtain⟨t,rfl⟩:=ry
 obtain⟨its,r,pl,hz⟩:=I.list hq
 obtain⟨j,h1,h2,h3,h4,h5⟩:=xJ he
 obtain⟨w,ew,rw'⟩:=r.get h2
 have hl:=r.length
 have hn:=ke
 have fin:EP X pins σ Q w s:=⟨z,H,I,rw',q⟩
 by_cases h0:0<=i
 ·have hj:i.toNat=j:=by
   rw[seqIndex_of h0 h5] at h1
   exact Option.some.inj h1
  exact item_listR pl.isList h0 (by omega) (by rw[hj];simpa using ew) fin hs
 ·have hj:(i+(its.toArray.size:Int)).toNat=j:=by
   rw[seqIndex_neg (by omega) h4] at h1
   rw[List.size_toArray,←hl]
   exact Option.some.inj h1
  exact subscriptTail_builtinR (x:=w) pl.isList.typeIs slot_list_getitem.lookup
   (wpAny_getItem_list_neg (Q:=λr s'=>r=w/\EP X pins σ Q r s') pl.isList (by omega) (by rw[List.size_toArray]<;>omega) (by omega) (by rw[hj];simpa using ew) ⟨rfl,fin⟩) hs
theorem Yx:IxR X (z14 X.K):=by
 intro value slice pins s σ H x y v u Q I rx ry h hs
 obtain⟨p,xs,i,z,rfl,rfl,hq,he,q⟩:=h
 cases rx
 obtain⟨t,rfl⟩:=ry
 obtain⟨its,r,pl,hz⟩:=I.tuple hq
 obtain⟨j,h1,h2,h3,h4,h5⟩:=xJ he
 obtain⟨w,ew,rw'⟩:=r.get h2
 have hl:=r.length
 have hn:=ke
 have fin:EP X pins σ Q w s:=⟨z,H,I,rw',q⟩
 exact subscriptTail_builtinR (x:=w) pl.typeIs slot_tuple_getitem.lookup
  (getItem_tuple (j:=j) (Q:=λr s'=>r=w/\EP X pins σ Q r s') pl (by omega) (by omega) (by rw[List.size_toArray,←hl];exact h1) (by simpa using ew) ⟨rfl,fin⟩) hs
theorem Yo:IxR X z16:=by
 intro value slice pins s σ H x y v u Q I rx ry h hs
 obtain⟨z,i,c,rfl,rfl,hz,he,q⟩:=h
 obtain⟨t,rfl⟩:=rx
 obtain⟨t',rfl⟩:=ry
 obtain⟨j,h1,h2,h3,h4,h5⟩:=xJ he
 have hl:z.cps.toList.length=z.length:=by simp[Str.length]
 rw[hl] at h1 h4 h5
 have hn:=ke
 exact tail_any (typeIs_str s z t) slot_str_getitem.lookup (getItem_str (c:=c) (by
  have e1:decide (i < -(2 ^ 63:Int))=false:=decide_eq_false (by omega)
  have e2:decide (i ≥ 2 ^ 63)=false:=decide_eq_false (by omega)
  rw[e1,e2,Bool.or_false]) (by rw[h1];simpa using h2) ⟨.str ⟨#[c]⟩,H,I.tok _,⟨_,rfl⟩,q⟩) hs
theorem xE(lo hi:Option Int)(n:Nat):(sliceBounds lo hi none n).1=((HT.sIx n 0 lo:Nat):Int)/\(sliceBounds lo hi none n).2.1=((HT.sIx n n hi:Nat):Int)/\(sliceBounds lo hi none n).2.2=1:=by
 refine⟨?_,?_,rfl⟩
 ·cases lo with
  |none=>simp[sliceBounds,HT.sIx]
  |some i=>
   simp only[sliceBounds,HT.sIx,Option.getD_none,show (1:Int) > 0 by decide,if_true]
   by_cases h:i<0
   ·simp only[h,if_true]<;>omega
   ·simp only[h,if_false]<;>omega
 ·cases hi with
  |none=>simp[sliceBounds,HT.sIx]
  |some i=>
   simp only[sliceBounds,HT.sIx,Option.getD_none,show (1:Int) > 0 by decide,if_true]
   by_cases h:i<0
   ·simp only[h,if_true]<;>omega
   ·simp only[h,if_false]<;>omega
theorem ku(its:List Value)(lo hi:Option Int):slicePick its.toArray lo hi none=((its.drop (HT.sIx its.length 0 lo)).take (HT.sIx its.length its.length hi-HT.sIx its.length 0 lo)).toArray:=by
 obtain⟨h1,h2,h3⟩:=xE lo hi its.toArray.size
 unfold slicePick
 rw[h1,h2,h3]
 simp only[sliceRange_one,pick_run,List.size_toArray]<;>rfl
noncomputable def z0Y (K:PySem.W.Frag):V->Option Int->Option Int->Hp->VK->Prop:=λx lo hi H Q=>∃a xs,x=.ref a/\SqL K H a xs/\∀p,H p=none->Q (.ref p) (upd H p (.lst (kn xs lo hi)))
theorem Kp:SlR X (z0Y X.K):=by
 intro pins s σ H x v vl vu lo hi sl Q I rx hs pl pu h
 obtain⟨a,xs,rfl,hx,q⟩:=h
 cases rx
 obtain⟨its,r,ht,hz⟩:=I.list hx
 have hlen:=r.length
 refine⟨"list",_,slot_list_getitem.lookup,ht.isList.typeIs,?_⟩
 refine wpAny_getItem_list_slice ht.isList hs pl pu .none (by simp) ?_ (by rw[List.size_toArray]<;>omega)
 rw[ku,←hlen]
 refine⟨.ref s.heap.objs.size,_,I.laid (t':=s.toks) (o:=.lst (kn xs lo hi)) (λb ob q=>Heap.get?_push_of_some _ q) (Nat.le_refl _) ?_,rfl,q _ (I.hok.fresh (Nat.le_refl _))⟩
 exact⟨Nat.le_trans (vO xs lo hi) hz,_,0,(r.drop (HT.sIx xs.length 0 lo)).take (HT.sIx xs.length xs.length hi-HT.sIx xs.length 0 lo),Heap.get?_push_size _ rfl⟩
theorem qC:ZO X (.builtin "len") (λxs H Q=>∃p ys,xs=[.ref p]/\(SqL X.K H p ys\/SqT X.K H p ys)/\Q (.int ys.length) H):=by
 intro pins s σ H xs us Q I r h
 obtain⟨p,ys,rfl,hq,q⟩:=h
 obtain⟨u,rfl,rx⟩:=vals1 r
 cases rx
 have hn:=ke
 rcases hq with hq|hq
 ·obtain⟨its,r',pl,hz⟩:=I.list hq
  have hlen:=r'.length
  exact Calls.call_len_list pl.isList (by simp only[List.size_toArray]<;>omega) ⟨.int ys.length,H,I.tok _,⟨s.toks+1,by rw[List.size_toArray,hlen]⟩,q⟩
 ·obtain⟨its,r',pl,hz⟩:=I.tuple hq
  have hlen:=r'.length
  exact len_tuple pl (by simp only[List.size_toArray]<;>omega) ⟨.int ys.length,H,I.tok _,⟨s.toks+1,by rw[List.size_toArray,hlen]⟩,q⟩
theorem xV:ZO X (.builtin "len") (λxs H Q=>∃z,xs=[.str z]/\z.length<=sizeLine/\Q (.int z.length) H):=by
 intro pins s σ H xs us Q I r h
 obtain⟨z,rfl,hz,q⟩:=h
 obtain⟨u,rfl,t,rfl⟩:=vals1 r
 have hn:=ke
 exact len_str (by omega) ⟨.int z.length,H,I.tok _,⟨_,rfl⟩,q⟩
theorem qN:ZO X (.type "list") (λxs H Q=>∃p ys,xs=[.ref p]/\(SqL X.K H p ys\/SqT X.K H p ys)/\∀l,H l=none->Q (.ref l) (upd H l (.lst ys))):=by
 intro pins s σ H xs us Q I r h
 obtain⟨p,ys,rfl,hq,q⟩:=h
 obtain⟨u,rfl,rx⟩:=vals1 r
 cases rx
 have fin:∀(its:List Value),Vals ys its->ys.length<=sizeLine->∀(h':Heap) (c':Nat),(∀b o',s.heap.get? b=some o'->h'.get? b=some o')->
   h'.get? s.heap.objs.size=some {cls:=.type "list",dict:=none,data:=.seq its.toArray c',slots:=#[]}->EP X pins σ Q (.ref s.heap.objs.size) {s with heap:=h'}:=λits r' hz h' c' kp e=>
  ⟨.ref s.heap.objs.size,_,I.laid (t':=s.toks) kp (Nat.le_refl _) (show ObjOk X.prog X.w _ h' _ (.lst ys) from ⟨hz,its,c',r',e⟩),rfl,q _ (I.hok.fresh (Nat.le_refl _))⟩
 rcases hq with hq|hq
 ·obtain⟨its,r',pl,hz⟩:=I.list hq
  have hlen:=r'.length
  obtain⟨o,ho,hc,n,hd⟩:=pl.isList
  exact call_list_seq p (.inl rfl) ho hc hd (λh' c' kp e=>fin its r' hz h' c' kp e) (by simp only[List.size_toArray]<;>omega)
 ·obtain⟨its,r',pl,hz⟩:=I.tuple hq
  have hlen:=r'.length
  obtain⟨o,ho,hc,n,hd⟩:=pl
  exact call_list_seq p (.inr rfl) ho hc hd (λh' c' kp e=>fin its r' hz h' c' kp e) (by simp only[List.size_toArray]<;>omega)
noncomputable def tyV (K:PySem.W.Frag)(T:String)(x:V)(H:Hp):Prop:=match x with
 |.str _=>T="str"
 |.int _=>T="int"
 |.ref p=>(T="list"/\∃xs,SqL K H p xs)\/(T="tuple"/\∃o,K.lookup p=some o/\o.cls=.type "tuple"/\o.dict=none)\/
   (T="dict"/\((∃kvs,H p=some (.dK kvs))\/∃kvs,H p=some (.dT kvs)))\/(T="set"/\∃S n,H p=some (.set S n))
 |_=>False
theorem U7{pins:List (Addr×Obj)}{σ:St}{H:Hp}{s:Shared}{T:String}{x:V}{v:Value}(I:Inv X pins σ H s)(r:RelV x v)(ty:tyV X.K T x H) :
  s.TypeIs v T/\∀a,v=.ref a->∃ob,s.heap.get? a=some ob/\ob.dict=none:=by
 cases x with
 |str z=>
  obtain⟨t,rfl⟩:=r
  cases (show T="str" from ty)
  exact⟨typeIs_str s z t,λ_ e=>nomatch e⟩
 |int i=>
  obtain⟨t,rfl⟩:=r
  cases (show T="int" from ty)
  exact⟨typeIs_int s i t,λ_ e=>nomatch e⟩
 |ref p=>
  cases r
  rcases ty with⟨rfl,xs,hq⟩|⟨rfl,o,hk,hc,hd⟩|⟨rfl,hk⟩|⟨rfl,S,n,hk⟩
  ·obtain⟨its,_,pl,_⟩:=I.list hq
   refine⟨pl.isList.typeIs,λa e=>?_⟩
   cases e
   obtain⟨o,n,e,c,hd,_⟩:=pl
   exact⟨o,e,hd⟩
  ·refine⟨⟨o,I.kIn p o hk,hc⟩,λa e=>?_⟩
   cases e
   exact⟨o,I.kIn _ o hk,hd⟩
  ·have z:∃o,s.heap.get? p=some o/\o.ExactDict:=by
    rcases hk with⟨kvs,hk⟩|⟨kvs,hk⟩
    ·obtain⟨_,_,_,_,o,_,_,e,ex,_⟩:=I.hok p _ hk
     exact⟨o,e,ex⟩
    ·obtain⟨_,_,_,_,o,_,_,e,ex,_⟩:=I.hok p _ hk
     exact⟨o,e,ex⟩
   obtain⟨o,e,ex⟩:=z
   refine⟨⟨o,e,ex.1⟩,λa e2=>?_⟩
   cases e2
   exact⟨o,e,ex.2.1⟩
  ·obtain⟨o,_,_,_,e,ex,_⟩:=I.hok p _ hk
   refine⟨⟨o,e,ex.1⟩,λa e2=>?_⟩
   cases e2
   exact⟨o,e,ex.2.1⟩
 |_=>exact False.elim ty
noncomputable def tBM (K:PySem.W.Frag)(T:String)(r:V->List V->Hp->VK->Prop)(to:TE)(t:TA):TE:=λσ H Q=>to σ H λx H1=>tyV K T x H1/\t σ H1 λxs H2=>r x xs H2 Q
variable {o e:Expr}{es:List Expr}{to:TE}{t:TA}{name:Str}{apos cpos:Pos}{T id:String}{r:V->List V->Hp->VK->Prop}
theorem ZT (pa:PlainAttrs T) (slot:Slot T name id) (hty:typeOf (.builtin id)=pure (.type "method_descriptor")) (hm:MtR X id r) (ho:PE X o to) (ha:PA X (e::es) t)
  (hbase:attributeBase o name X.env (eval o X.env)=eval o X.env:=by rfl)
  (hfew:((backTo cpos (starEach (e::es) X.env)).all (λx=>!x.1)&&(backToKw cpos (keywordEach [] X.env)).all (λx=>x.1.isSome)
   &&decide ((e::es).length+([]:List Keyword).length+(if ([]:List Keyword).isEmpty then 0 else 1)<30))=true:=by rfl)
  (hline:(apos.endLine == cpos.line)=true:=by rfl) (hs:starEach (e::es) X.env=(false,eval e X.env)::starEach es X.env:=by rfl) (hplain:(backTo cpos (starEach es X.env)).any (·.1)=false:=by rfl) :
  PE X (.Call (.Attribute o name apos) (e::es) [] cpos) (tBM X.K T r to t):=by
 intro pins s σ H Q I h
 refine wpAny_Call_method_late hbase hfew hline rfl (thn (ho pins s σ H _ I h) λv s1 ⟨x,H1,I1,r1,ty,q1⟩=>?_)
 obtain⟨h1,h2⟩:=U7 I1 r1 ty
 refine⟨T,id,pa,slot,hty,h1,h2,?_⟩
 have hA:=ha cpos pins s1 σ H1 _ I1 q1
 rw[hs] at hA ⊢
 refine Calls.callWith_builtin (by show (false || (backTo cpos (starEach es X.env)).any (·.1))=false;rw[hplain]<;>rfl) (Calls.evalArgs_plain ?_)
 exact thn hA λus s2 ⟨vs,H2,I2,r2,q2⟩=>hm pins s2 σ H2 x vs v us Q I2 r1 r2 q2
end
end L2
namespace L2
open PySem PySem.Spec PyProof.Rows
noncomputable def MtM (X:Cx)(id:String)(r:V->List V->Hp->VK->Prop):Prop:=
 ∀(pins:List (Addr×Obj)) (s:Shared) (σ:St) (H:Hp) (x:V) (xs:List V) (v:Value) (us:List Value) (Q:VK),Inv X pins σ H s->RelV x v->Vals xs us->r x xs H Q->
  wpAny (model X.prog X.w) X.A (call (.builtin id) (v::us)) (EP X pins σ Q) X.xe s
theorem Vals.one:∀{x:V} {us:List Value},Vals [x] us->∃u,us=[u]/\RelV x u
 |_,_,.cons r .nil=>⟨_,rfl,r⟩
section
variable {X:Cx}{pins:List (Addr×Obj)}{σ:St}{H:Hp}{s:Shared}{l b:Addr}{xs ys zs:List V}
theorem Inv.lset{its its':List Value}{n:Nat}{f:Array Value->Array Value}{t':Nat}(I:Inv X pins σ H s)(hH:H l=some (.lst xs))
  (e:s.heap.get? l=some {cls:=.type "list",data:=.seq its.toArray n}) (hf:f its.toArray=its'.toArray) (hv:Vals ys its') (hz:ys.length<=sizeLine) :
  Inv X pins σ (upd H l (.lst ys)) {s with heap:=s.heap.update l (Obj.mapSeq f),toks:=t'}:=by
 have q:=PySem.IsL.update e f
 rw[hf] at q
 refine I.write (x:=l) (e:=l) (by rw[hH];exact trivial) (.inl rfl) (λb' u hb hu=>(Heap.get?_update_other s.heap (Obj.mapSeq f) (Ne.symm hb)).trans hu) ⟨_,q⟩ ?_
 exact⟨hz,its',_,hv,q⟩
theorem Inv.lnew{its:List Value}{t':Nat}(I:Inv X pins σ H s)(hv:Vals ys its)(hz:ys.length<=sizeLine) :
  Inv X pins σ (upd H s.heap.objs.size (.lst ys)) {s with heap:=s.heap.push {cls:=.type "list",data:=.seq its.toArray},toks:=t'}:=
 I.laid (λ_ _ q=>Heap.get?_push_of_some _ q) (Nat.le_refl _) ⟨hz,its,0,hv,Heap.get?_push_size _ rfl⟩
theorem Inv.fresh(I:Inv X pins σ H s):H s.heap.objs.size=none:=I.hok.fresh (Nat.le_refl _)
theorem Inv.lstM(I:Inv X pins σ H s)(hH:H l=some (.lst xs)):xs.length<=sizeLine/\∃(its:List Value) (n:Nat),Vals xs its/\xs.length=its.length/\s.heap.get? l=some {cls:=.type "list",data:=.seq its.toArray n}:=by
 obtain⟨z,its,n,r,e⟩:=I.hok l _ hH
 exact⟨z,its,n,r,r.length,e⟩
end
section
variable {X:Cx}
noncomputable def JN:V->List V->Hp->VK->Prop:=λx vs H Q=>∃l xs y,x=.ref l/\vs=[y]/\H l=some (.lst xs)/\xs.length<sizeLine/\Q .non (upd H l (.lst (xs++[y])))
theorem kB:MtM X "list.append" JN:=by
 intro pins s σ H x vs v us Q I rx rv h
 obtain⟨l,xs,y,rfl,rfl,hH,hz,q⟩:=h
 cases rx
 obtain⟨u,rfl,ru⟩:=rv.one
 obtain⟨z,its,n,r,hl,e⟩:=I.lstM hH
 refine call_meets F.slot_list_append ⟨_,e,rfl⟩ F.entry_list_append (F.args_list_append_2 _ _) (PySem.list_append l its.toArray n u (by rw[List.size_toArray];omega)) ⟨e,?_⟩
 refine⟨.non,_,I.lset (its':=its++[u]) hH e (by simp) (r.append (.cons ru .nil)) ?_,rfl,q⟩
 rw[List.length_append,List.length_singleton]
 omega
end
end L2
namespace Att
open PySem PySem.W PySem.Calls PyProof.Rows
theorem j3{P:Params}{h:Heap}:∀(ns:List Int) (vs:List Value),WellAll P h vs (ns.map WData.int)->IntsAre vs ns:=by
 intro ns
 induction ns with
 |nil=>
  intro vs w
  rw[List.map_nil] at w
  cases w
  exact .nil
 |cons n ns ih=>
  intro vs w
  rw[List.map_cons] at w
  cases w with
  |cons a b=>
   cases a
   exact .cons _ _ (ih _ b)
theorem QD{l:OpenLaw}{n:Nat}(hn:l.most=some n){P:Params}{h:Heap}{args:List WData}{vals:List Value}
  (hpre:l.row.toRowW.claim.pre args=true) (hwl:WellAll P h vals args) :
  ∃a vs ns,vals=[Value.ref a]/\args=[WData.list (ns.map WData.int)]/\h.get? a=some {cls:=.type "list",data:=.seq vs.toArray}/\IntsAre vs ns/\ns.length<=n:=by
 have hsh:WShape.hasAll [] args [.list .int]=true:=(pre_splitW hpre).1
 have hc:l.pre.holds [] {args:=args}=true:=(pre_splitW hpre).2
 obtain⟨d,r,rfl,h1,h2⟩:=hasAllW_cons hsh
 obtain rfl:=hasAllW_nil h2
 obtain⟨xs,rfl,h3⟩:=hasW_list h1
 obtain⟨ns,rfl⟩:=items_int h3
 have hlen:ns.length<=n:=by
  unfold OpenLaw.pre at hc
  have h4:(WTm.not (.lt (.lit (.int (n:Int))) (.len (.arg 0)))).holds [] {args:=[.list (ns.map .int)]}=true:=by
   have h4:=(holds_andW hc).1
   rw[hn] at h4
   exact h4
  have h5:=condW_of h4 (w_not (w_lt w_lit (w_len_list (w_arg rfl))))
  rw[List.length_map] at h5
  refine Nat.le_of_not_lt λq=>?_
  have q':(n:Int)<((ns.length:Nat):Int):=by omega
  first
   |(rw[decide_eq_true q'] at h5;exact absurd h5 (by decide))
   |(simp at h5;omega)
 cases hwl with
 |cons w1 w2=>
  cases w2
  cases w1 with
  |list ho hall=>exact⟨_,_,ns,rfl,rfl,ho,j3 ns _ hall,hlen⟩
theorem QH(l:OpenLaw)(args:List WData):l.row.toRowW.claim.post args (.bool true) args=true:=
 postW_of (r:=l.row.toRowW) (X:=(true == true))
  (show WShape.has [] (.bool true) .bool=true by first|rfl|decide|simp[WShape.has,WShape.arms,WShape.armsAll])
  (show (WTm.eq .res (.lit (.bool true))).value [] {args:=args,res:=some (.bool true),after:=args}=some (.bool (true == true)) from w_eq_bool (w_res rfl) w_lit) rfl
theorem attach_call{l:OpenLaw}{n:Nat}{q:Program}{loose:List Str}{XP:(Str->Option Value)->Heap->Prop}{YP:World->Heap->Prop}{d:DefRec}
  (hn:l.most=some n) (hdf:d.params.defaults=[])
  (call:∀(w:World) (s₀ s₁:Shared) (mg mb:Str->Option Value) (fa:Addr) (o:Obj) (pm cd doc:Value) (a:Addr) (vs:List Value) (ns:List Int),
   Ground q loose [] XP w s₀ mg mb s₁.heap->YP w s₁.heap->
   s₁.heap.get? fa=some o->o.data=.func (docDef d.name d.params d.body d.scope pm cd doc)->s₁.heap.CodeRec cd d.name->mg d.name=some (.ref fa)->
   s₁.heap.get? a=some {cls:=.type "list",data:=.seq vs.toArray}->IntsAre vs ns->ns.length<=n->s₁.gens=#[]->
   codeAny (model l.prog w) callerA (.call (.ref fa) ⟨[.ref a],[]⟩) (λr s'=>r=.ok (.ret (.bool true))/\OldK s₁.heap s'.heap/\s'.os=s₁.os/\AllBare s'.gens) s₁) :
  WalkO q loose XP YP l.row.toRowW d [] (λf vs=>PySem.call f vs):=by
 intro w s₀ s₁ mg mb G Y fa o pm cd doc dV kV ho hd hcd hD hmg hg args vals as hpre hlay hrd hwl hlo
 obtain rfl:dV=.none:=Dflts.none hD hdf
 obtain rfl:kV=.none:=Dflts.noKw hD
 obtain⟨a,vs,ns,rfl,rfl,hobj,hints,hlen⟩:=QD hn hpre hwl
 refine enter_call (codeAny_mono (call w s₀ s₁ mg mb fa o pm cd doc a vs ns G Y ho (fd_plain hd) hcd hmg hobj hints hlen hg) λr s' hq=>?_)
 obtain⟨rfl,h2,h3,h4⟩:=hq
 exact⟨.inl ⟨.bool true,.bool true,[],rfl,λ_=>rfl,.bool true,QH l _,λ_=>⟨List.Pairwise.nil,λ_ hm=>(nomatch hm)⟩⟩,h2,h3,h4⟩
section
variable {prog:Program}{w:World}{A:Around}{E:Value->Shared->Prop}{s:Shared}{K:Frag}
noncomputable def ledger(h:Heap)(L d:Addr):List (Addr×Obj):=(List.range h.objs.size).filterMap λa=>if a=L\/a=d then none else (h.get? a).map λo=>(a,o)
end
end Att
namespace L2
open PySem PySem.Spec PyProof.Rows
theorem xt:∀{vs:List Value} {ns:List Int},IntsAre vs ns->Vals (ns.map V.int) vs
 |_,_,.nil=>.nil
 |_,_,.cons n t h=>.cons ⟨t,rfl⟩ (xt h)
noncomputable def YG (H:Hp):Prop:=∀b,H b=none\/∃o xs,H b=some (.frz o (.lst xs))
theorem Ja{P:Program}{w:World}{K:PySem.W.Frag}{mg mb:Str->Option Value}{CX:CXT}{k:Nat}{fa a:Addr}{fd:FuncData}{x:Str}{sp:Sp}{s₁:Shared}{vs:List Value}{ns:List Int}
  (KX:K.In s₁.heap) (hns:s₁.heap.Ns mainGlobals mg) (hb:s₁.heap.Ns builtinsNs mb) (hbb:∀x:Str,x≠"__name__"->mb x=bootBuiltins x) (hlim:s₁.heap.NoLimit) (hg:s₁.gens=#[])
  (ha:s₁.heap.get? a=some {cls:=.type "list",data:=.seq vs.toArray}) (hi:IntsAre vs ns) (hl:ns.length<=sizeLine) (hr:Room k callerA)
  (F:∀base:Heap,K.In base->base.Ns mainGlobals mg->FnOk P w K mg base CX k fa fd [x] sp) (hbind:∀(s:Shared) (u:Value),BindsTo s fd ⟨[u],[]⟩ [(x,u)])
  (hsp:∀H:Hp,YG H->SqL K H a (ns.map V.int)->sp [.ref a] H (λv _=>v=.bl true) λ_ _ _=>False)
  (hCX:∀H e s',CX [] H s₁ (λ_ _ _=>False) e s'->False) :
  codeAny (model P w) callerA (.call (.ref fa) ⟨[.ref a],[]⟩) (λr s'=>r=.ok (.ret (.bool true))/\OldK s₁.heap s'.heap/\s'.os=s₁.os/\AllBare s'.gens) s₁:=by
 have rv:=xt hi
 have lenV:=hi.length
 have core:∀H:Hp,YG H->SqL K H a (ns.map V.int)->HOk P w H s₁.heap->(∀b,H b≠none->b=a)->(H a≠none->K.lookup a=none)->
   codeAny (model P w) callerA (.call (.ref fa) ⟨[.ref a],[]⟩) (λr s'=>r=.ok (.ret (.bool true))/\OldK s₁.heap s'.heap/\s'.os=s₁.os/\AllBare s'.gens) s₁:=by
  intro H hO hS hok hA hK
  have z_:∀{b:Addr} {o:Obj},s₁.heap.get? b=some o->H b=none->(xN s₁.heap H).get? b=some o:=λe n=>Jd e n
  have noA:∀{b:Addr} {o:Obj} {es:Array DictEntry} {ep:Nat},s₁.heap.get? b=some o->o.data=.dict es ep->H b=none:=λ{b o es ep} e d=>by
   cases q:H b with
   |none=>rfl
   |some u=>
    have e':b=a:=hA b (by rw[q];simp)
    subst e'
    rw[ha] at e;cases e
    have d':Data.seq vs.toArray _=Data.dict es ep:=d
    cases d'
  have nsK:∀{b:Addr} {m:Str->Option Value},s₁.heap.Ns b m->(xN s₁.heap H).Ns b m:=λ{b m} ⟨o,es,ep,e,d,r⟩=>⟨o,es,ep,z_ e (noA e d),d,r⟩
  have hKb:K.In (xN s₁.heap H):=λb o e=>z_ (KX b o e) (by
   cases q:H b with
   |none=>rfl
   |some u=>
    have e':b=a:=hA b (by rw[q];simp)
    subst e'
    rw[hK (by rw[q];simp)] at e;cases e)
  have hM:Mod K mg (xN s₁.heap H):=⟨hKb,nsK hns,⟨mb,nsK hb,hbb⟩,let ⟨mc,h1,h2⟩:=hlim;⟨mc,nsK h1,h2⟩⟩
  have e0:Env0 P w K mg (xN s₁.heap H) callerA [] s₁ H:=⟨rfl,hM,λb o e=>Kc e,Nat.le_of_eq (QY _ _),trivial,λb hb=>absurd (show b∈([]:List Addr) from hb) (by simp),hok,.of_eq hg⟩
  refine codeAny_mono ((F _ hKb (nsK hns)).run callerA [] s₁ H ⟨[.ref a],[]⟩ [.ref a] [.ref a] _ _ hr e0 (hbind s₁ (.ref a)) (.cons rfl .nil) (hsp H hO hS)) λr s' h=>?_
  cases r with
  |error e=>exact (hCX H e s' h).elim
  |ok fl=>
   cases fl with
   |next=>exact False.elim h
   |brk=>exact False.elim h
   |cont=>exact False.elim h
   |ret u=>
    obtain⟨v,H',os,bare,un,hok',r',q⟩:=h
    have q':v=.bl true:=q
    subst q'
    obtain rfl:u=Value.bool true:=r'
    refine⟨rfl,OldK.of_keep λb o e=>?_,os,bare⟩
    cases q:H b with
    |none=>exact un.keep b o e q (by intro z;exact absurd (show b∈([]:List Addr) from z) (by simp)) (by simp)
    |some u=>
     rcases hO b with z|⟨ob,xs,z⟩
     ·rw[q] at z;cases z
     ·have z2:=un.frzs b ob _ z
      obtain⟨e1,_⟩:=hok b _ z
      obtain⟨e2,_⟩:=hok' b _ z2
      rw[e] at e1;cases e1
      exact e2
 cases hk:K.lookup a with
 |some o=>
  have e:=KX a o hk
  rw[ha] at e
  cases e
  refine core (λ_=>none) (λ_=>.inl rfl) (.inr ⟨_,vs.toArray,_,hk,rfl,rfl,rfl,by rw[List.size_toArray,lenV];exact hl,by simpa using rv⟩) (λb u z=>by have z':(none:Option HO)=some u:=z;cases z') (λb z=>absurd rfl z) λz=>absurd rfl z
 |none=>
  refine core (λb=>if b=a then some (.frz {cls:=.type "list",data:=.seq vs.toArray} (.lst (ns.map V.int))) else none) (λb=>?_) (.inl (.inr ⟨{cls:=.type "list",data:=.seq vs.toArray},if_pos rfl⟩)) (λb u z=>?_) (λb z=>?_) λ_=>hk
  ·by_cases hb:b=a
   ·exact .inr ⟨_,_,if_pos hb⟩
   ·exact .inl (if_neg hb)
  ·by_cases hb:b=a
   ·have z':=(if_pos hb).symm.trans z
    cases z'
    subst hb
    exact⟨ha,by rw[List.length_map];exact hl,vs,_,rv,ha⟩
   ·have z':=(if_neg hb).symm.trans z
    cases z'
  ·by_cases hb:b=a
   ·exact hb
   ·exact absurd (if_neg hb) z
end L2
namespace L2
open PySem PySem.Spec PyProof.Rows
noncomputable abbrev KOf{K:PySem.W.Frag}{h:Heap}(_:K.In h):PySem.W.Frag:=K
theorem walk_of{l:PySem.W.OpenLaw}{n k:Nat}{q:Program}{loose:List Str}{XP:(Str->Option Value)->Heap->Prop}{YP:World->Heap->Prop}{d:DefRec}{K:Params->PySem.W.Frag}{CX:World->CXT}{sp:World->Sp}{x:Str}
  (hn:l.most=some n) (hn2:n<=sizeLine) (hdf:d.params.defaults=[]) (hr:Room k callerA)
  (hY:∀(w:World) (h:Heap),YP w h->(K w.params).In h)
  (F:∀(w:World) (mg:Str->Option Value) (fa:Addr) (h:Heap),(K w.params).In h->h.Ns mainGlobals mg->mg d.name=some (.ref fa)->
   ∃fd:FuncData,(∀(s:Shared) (u:Value),BindsTo s fd ⟨[u],[]⟩ [(x,u)])/\
    ∀base:Heap,(K w.params).In base->base.Ns mainGlobals mg->FnOk l.prog w (K w.params) mg base (CX w) k fa fd [x] (sp w))
  (hsp:∀(w:World) (H:Hp) (a:Addr) (ns:List Int),ns.length<=n->YG H->SqL (K w.params) H a (ns.map V.int)->sp w [.ref a] H (λv _=>v=.bl true) λ_ _ _=>False)
  (hCX:∀(w:World) (H:Hp) (s:Shared) (e:Value) (s':Shared),CX w [] H s (λ_ _ _=>False) e s'->False) :
  PySem.W.WalkO q loose XP YP l.row.toRowW d [] (λf vs=>PySem.call f vs):=by
 refine Att.attach_call hn hdf λw s₀ s₁ mg mb fa o pm cd doc a vs ns G Y ho hd hcd hmg hobj hints hlen hg=>?_
 have KX:=hY w _ Y
 obtain⟨fd,hb,hF⟩:=F w mg fa _ KX G.T.g hmg
 exact Ja KX G.T.g G.T.b G.T.builtins G.T.nolimit hg hobj hints (Nat.le_trans hlen hn2) hr hF hb (λH hO hS=>hsp w H a ns hlen hO hS) λH e s'=>hCX w H s₁ e s'
end L2
namespace L2
open PySem PySem.Spec PyProof.Rows
noncomputable def inClass(s:Stmt)(j:Nat):Stmt:=match s with
 |.ClassDef _ _ _ body _ _ _ _ _ _ _=>body.getD j (.Pass ⟨0,0,0,0⟩)
 |_=>.Pass ⟨0,0,0,0⟩
noncomputable def zU(s:Stmt):Arguments:=match s with
 |.FunctionDef _ a _ _ _ _ _ _ _ _=>a
 |_=>{posonlyargs:=[],args:=[],vararg:=none,kwonlyargs:=[],kw_defaults:=[],kwarg:=none,defaults:=[]}
noncomputable def zb(s:Stmt):List Stmt:=match s with
 |.FunctionDef _ _ b _ _ _ _ _ _ _=>b
 |_=>[]
noncomputable def zB(s:Stmt):Scope:=match s with
 |.FunctionDef _ _ _ _ _ _ sc _ _ _=>sc
 |_=>{kind:=.function,names:=[],isGenerator:=false,isCoroutine:=false}
structure Fun(K:PySem.W.Frag)(x qual:Str)(st:Stmt)(f:Addr)(fd:FuncData):Prop where
 ex:∃(oc:Value) (od:Option Addr) (kV doc pm:Value) (an:Option Addr) (cdv ct:Value) (osl:Array (Option Value)),
  fd=PySem.W.fnOf x qual (zU st) (zb st) (zB st) .none kV doc pm an cdv ct/\K.lookup f=some ⟨oc,od,.func fd,osl⟩/\PySem.W.codeIn K cdv qual=true
 kp:PySem.W.keepIn K (.ref f)=true
section
variable {P:Program}{w:World}{K:PySem.W.Frag}{mg:Str->Option Value}{base:Heap}
theorem Fun.binds{x qual:Str}{st:Stmt}{f:Addr}{fd:FuncData}{ps:List Str}(F:Fun K x qual st f fd)
  (h:∀(kV doc pm:Value) (an:Option Addr) (cdv ct:Value) (us:List Value),us.length=ps.length->bindArgs (PySem.W.fnOf x qual (zU st) (zb st) (zB st) .none kV doc pm an cdv ct) ⟨us,[]⟩=pure (ps.zip us)):Binds K fd ps []:=by
 obtain⟨oc,od,kV,doc,pm,an,cdv,ct,osl,rfl,lk,hcd⟩:=F.ex
 exact .all (h kV doc pm an cdv ct)
theorem xY{x qual:Str}{st:Stmt}{f:Addr}{oc:Value}{od an:Option Addr}{osl:Array (Option Value)}{kV doc pm cdv ct:Value}(l:K.lookup f=some ⟨oc,od,.func (PySem.W.fnOf x qual (zU st) (zb st) (zB st) .none kV doc pm an cdv ct),osl⟩)
  (c:PySem.W.codeIn K cdv qual=true) (k:PySem.W.keepIn K (.ref f)=true):Fun K x qual st f (PySem.W.fnOf x qual (zU st) (zb st) (zB st) .none kV doc pm an cdv ct):=⟨⟨oc,od,kV,doc,pm,an,cdv,ct,osl,rfl,l,c⟩,k⟩
end
noncomputable def vc (H H':Hp):Prop:=∀b o,H b=some o->H' b=some o
end L2
end
namespace NH
open PySem
noncomputable def stC:Value->Value
 |.int i _=>.ref i.toNat
 |v=>v
noncomputable def z0Z (h:Heap)(x:Addr)(cls:Value)(d:Option Addr):Prop:=∃oe vs a0,h.get? x=some oe/\(oe.cls=stC cls/\oe.dict=d)/\oe.data=.fields vs/\vs[0]?=some a0/\vs[1]?=some .none/\∀a,cls=.ref a->vs[2]?=some .none
inductive XTr(h:Heap)(x T:Addr)(cls:Value)(d:Option Addr)(fl:Value):Prop where
 |mk (oe:Obj) (vs:Array Value) (a0:Value) (oT:Obj) (ts:Array Value) (h1:h.get? x=some oe) (h2:oe.cls=stC cls/\oe.dict=d) (h3:oe.data=.fields vs) (h4:vs[0]?=some a0) (h5:vs[1]?=some (.ref T)) (h6:T≠x) (h7:h.get? T=some oT) (h8:oT.data=.fields ts) (h9:ts[3]?=some fl) (h10:∀a,cls=.ref a->vs[2]?=some .none)
noncomputable def UZ (h:Heap)(x:Addr)(cls:Value)(d:Option Addr):Option Addr->Value->Prop
 |none,fl=>z0Z h x cls d/\fl=.none
 |some T,fl=>XTr h x T cls d fl
structure XMove(fs:List Addr)(x:Addr)(T T':Option Addr)(h h':Heap):Prop where
 keep:∀b o,h.get? b=some o->b∉fs->b≠x->b∉T.toList->h'.get? b=some o
 slot:∀b o,h.get? b=some o->b∈fs->b≠x->b∉T.toList->∃sl,h'.get? b=some {o with slots:=sl}
 newT:∀t∈T'.toList,t∈T.toList\/h.objs.size<=t
theorem XMove.refl(fs:List Addr)(x:Addr)(T:Option Addr)(h:Heap):XMove fs x T T h h:=⟨λ_ _ e _ _ _=>e,λ_ o e _ _ _=>⟨o.slots,e⟩,λ_ ht=>.inl ht⟩
theorem jR(o:Obj)(f:Array Value->Array Value):(Obj.mapFields f o).dict=o.dict:=by
 obtain⟨c,d,dt,sl⟩:=o
 cases dt<;>rfl
section
variable {M:Model}{A:Around}{E:Value->Shared->Prop}{s:Shared}
theorem Jf{base:Heap}{env e0:Env}{outer:List Env}{L:Addr}{Q:Value->Shared->Prop}(hfr:A.frames=some (e0::outer))(hl:s.heap.FunFrames base (e0::outer))
  (hf:env.frame=some L) (h0:e0.frame=some L) (h:∀h',Heap.SlotsOnly ((e0::outer).filterMap (·.frame)) s.heap h'->Q (.ref L) {s with heap:=h'}):wpAny M A (frameOf env) Q E s:=by
 unfold frameOf
 refine wpAny_bind (wpAny_frameEnvs hfr ?_)
 have hw:((e0::outer).dropWhile λy=>y.frame != env.frame)=e0::outer:=by simp[List.dropWhile,hf,h0]
 rw[hw]
 unfold frameObject
 refine wpAny_bind (wpAny_bind (wpAny_readyFrames_fun hl λh1 q1=>wpAny_pure ?_))
 rw[h0]
 exact wpAny_pure (h h1 q1)
theorem jZ{base:Heap}{env e0:Env}{outer:List Env}{L x:Addr}{cls head:Value}{d T:Option Addr}{had:Bool}{oe:Obj}{vs:Array Value}{a0:Value}{Q:Unit->Shared->Prop}
  (hfr:A.frames=some (e0::outer)) (hl:s.heap.FunFrames base (e0::outer)) (hf:env.frame=some L) (h0:e0.frame=some L)
  (ho:s.heap.get? x=some oe) (hc:oe.cls=stC cls/\oe.dict=d) (hd:oe.data=.fields vs) (hv0:vs[0]?=some a0) (hsz:1<vs.size) (hv2:∀a,cls=.ref a->vs[2]?=some .none)
  (h:∀h' t,XTr h' x t cls d (rawInt L)->XMove ((e0::outer).filterMap (·.frame)) x T (some t) s.heap h'->s.heap.objs.size<=t->Q () {s with heap:=h'}) :
  wpAny M A (do let a ←frameOf env;let pl ←entryPlaceOf L had;let b ←EntryCells.newEntry head a .none (rawInt L) .none pl;setField (.ref x) 1 b) Q E s:=by
 have nin:x∉(e0::outer).filterMap (·.frame):=λhm=>by
  obtain⟨_,o,ho',nf⟩:=hl.mem hm
  rw[ho] at ho';cases ho';exact nf vs hd
 refine wpAny_bind (Jf hfr hl hf h0 λh1 q1=>?_)
 refine wpAny_bind (wpAny_entryPlaceOf λpl hpl=>?_)
 unfold EntryCells.newEntry newFields
 refine wpAny_bind (wpAny_newObj_type ?_ (hpl.sizeOk5 _ _ _ _ _))
 have e1:h1.get? x=some oe:=(q1.2.1 x nin).trans ho
 generalize hob:({cls:=.type "traceback",dict:=none,data:=.fields ([head,.ref L,.none,rawInt L,.none]++(if pl.isEmpty then List.replicate 6 Value.none else pl)).toArray}:Obj)=ob
 have e2:=Heap.get?_push_of_some (h:=h1) ob e1
 have hdata:ob.data=.fields ([head,.ref L,.none,rawInt L,.none]++(if pl.isEmpty then List.replicate 6 Value.none else pl)).toArray:=by rw[←hob]
 have hfree:ob.isFreed=false:=by rw[←hob];rfl
 refine wpAny_setField e2 hd hsz ?_
 have tx:h1.objs.size≠x:=Nat.ne_of_gt (Heap.lt_size e1)
 have d3:=Obj.data_mapFields hd (·.setIfInBounds 1 (Value.ref h1.objs.size))
 have e3:=Heap.get?_update_self (Obj.mapFields (·.setIfInBounds 1 (Value.ref h1.objs.size))) e2 (Obj.isFreed_of_fields d3)
 have other:∀b o,b≠x->h1.get? b=some o->((h1.push ob).update x (Obj.mapFields (·.setIfInBounds 1 (Value.ref h1.objs.size)))).get? b=some o:=λb o hb e=>by
  rw[Heap.get?_update_other _ _ (Ne.symm hb)];exact Heap.get?_push_of_some _ e
 refine h _ h1.objs.size ⟨_,_,a0,ob,_,e3,⟨(Obj.cls_mapFields _ _).trans hc.1,(jR _ _).trans hc.2⟩,d3,by rw[Array.getElem?_setIfInBounds_ne (by decide)];exact hv0,by simp[hsz],tx,?_,hdata,?_,λa e=>by rw[Array.getElem?_setIfInBounds_ne (by decide)];exact hv2 a e⟩ ⟨λb o e nb nx _=>?_,λb o e _ nx _=>?_,λt ht=>.inr ?_⟩ (Nat.le_of_eq q1.1.symm)
 ·rw[Heap.get?_update_other _ _ (Ne.symm tx)];exact Heap.get?_push_size _ hfree
 ·first|(simp;done)|(rcases hpl with rfl|⟨_,_,_,_,_,_,_,rfl⟩<;>simp)
 ·exact other b o nx ((q1.2.1 b nb).trans e)
 ·obtain⟨sl,e'⟩:=q1.2.2 b o e
  exact⟨sl,other b _ nx e'⟩
 ·have:t=h1.objs.size:=by simpa using ht
  rw[this];exact Nat.le_of_eq q1.1.symm
theorem WJ{base:Heap}{env e0:Env}{outer:List Env}{L x:Addr}{cls:Value}{d T:Option Addr}{fl:Value}{Q:Unit->Shared->Prop}
  (hfr:A.frames=some (e0::outer)) (hl:s.heap.FunFrames base (e0::outer)) (hf:env.frame=some L) (h0:e0.frame=some L) (hx:UZ s.heap x cls d T fl) (hfl:fl=.none\/fl=rawInt L)
  (h:∀h' t,XTr h' x t cls d (rawInt L)->XMove ((e0::outer).filterMap (·.frame)) x T (some t) s.heap h'->Q () {s with heap:=h'}):wpAny M A (noteFrame (.ref x) env) Q E s:=by
 unfold noteFrame
 simp only[hf]
 cases T with
 |none=>
  obtain⟨⟨oe,vs,a0,ho,hc,hd,hv0,hv1,hv2⟩,_⟩:=hx
  refine wpAny_bind (wpAny_field ho hd hv1 ?_)
  rw[if_neg (by decide)]
  exact jZ (T:=none) hfr hl hf h0 ho hc hd hv0 (Array.getElem?_eq_some_iff.mp hv1).1 hv2 λh' t a b _=>h h' t a b
 |some T=>
  obtain⟨oe,vs,a0,oT,ts,ho,hc,hd,hv0,hv1,hT,hoT,hdT,h3,hv2⟩:=hx
  refine wpAny_bind (wpAny_field ho hd hv1 ?_)
  rw[if_pos (show (Value.ref T != Value.none)=true from by simp)]
  refine wpAny_bind (wpAny_field hoT hdT h3 ?_)
  by_cases hq:fl=rawInt L
  ·subst hq
   rw[if_pos (show (rawInt L == rawInt L)=true from by simp)]
   exact wpAny_pure (h s.heap T ⟨oe,vs,a0,oT,ts,ho,hc,hd,hv0,hv1,hT,hoT,hdT,h3,hv2⟩ (XMove.refl _ _ _ _))
  ·obtain rfl:fl=.none:=hfl.resolve_right hq
   rw[if_neg (show ¬((Value.none == rawInt L)=true) from by simp[rawInt])]
   refine wpAny_bind (wpAny_setField hoT hdT (Array.getElem?_eq_some_iff.mp h3).1 ?_)
   have oth:∀b,b≠T->(s.heap.update T (Obj.mapFields (·.setIfInBounds 3 Value.none))).get? b=s.heap.get? b:=λb hb=>Heap.get?_update_other _ _ (Ne.symm hb)
   have fr:∀b∈(e0::outer).filterMap (·.frame),b≠T:=λb hb z=>by
    obtain⟨_,o,ho',nf⟩:=hl.mem hb
    rw[z,hoT] at ho';cases ho';exact nf ts hdT
   refine jZ (T:=some T) (s:={s with heap:=s.heap.update T (Obj.mapFields (·.setIfInBounds 3 Value.none))}) (base:=base) hfr (hl.of_keeps λb o e nf=>⟨o,(oth b λz=>?_).trans e,rfl⟩) hf h0 ((oth x (Ne.symm hT)).trans ho) hc hd hv0 (Array.getElem?_eq_some_iff.mp hv1).1 hv2 λh' t a b c=>h h' t a ⟨?_,?_,?_⟩
   ·rw[z,hoT] at e;cases e;exact nf ts hdT
   ·exact λd o e n1 n2 n3=>b.keep d o ((oth d λz=>n3 (by simp[z])).trans e) n1 n2 n3
   ·exact λd o e n1 n2 n3=>b.slot d o ((oth d λz=>n3 (by simp[z])).trans e) n1 n2 n3
   ·intro t' ht'
    rcases b.newT t' ht' with z|z
    ·exact .inl z
    ·refine .inr (Nat.le_trans (Nat.le_of_eq ?_) z)
     exact (Heap.size_after_update ..).symm
theorem Zu{x T:Addr}{cls fl:Value}{d fr:Option Addr}{fs:List Addr}{Q:Unit->Shared->Prop}(hx:XTr s.heap x T cls d fl)
  (h:∀h',XTr h' x T cls d (fr.elim .none λf=>rawInt f)->XMove fs x (some T) (some T) s.heap h'->Q () {s with heap:=h'}):wpAny M A (setFlight (.ref x) fr) Q E s:=by
 obtain⟨oe,vs,a0,oT,ts,ho,hc,hd,hv0,hv1,hT,hoT,hdT,h3,hv2⟩:=hx
 have sz:3<ts.size:=(Array.getElem?_eq_some_iff.mp h3).1
 unfold setFlight
 refine wpAny_bind (wpAny_field ho hd hv1 ?_)
 rw[if_pos (show (Value.ref T != Value.none)=true from by simp)]
 refine wpAny_setField hoT hdT sz ?_
 have oth:∀b,b≠T->(s.heap.update T (Obj.mapFields (·.setIfInBounds 3 (fr.elim .none λf=>rawInt f)))).get? b=s.heap.get? b:=λb hb=>Heap.get?_update_other _ _ (Ne.symm hb)
 have dT:=Obj.data_mapFields hdT (·.setIfInBounds 3 (fr.elim Value.none λf=>rawInt f))
 exact h _ ⟨oe,vs,a0,_,_,(oth x (Ne.symm hT)).trans ho,hc,hd,hv0,hv1,hT,Heap.get?_update_self _ hoT (Obj.isFreed_of_fields dT),dT,by simp[sz],hv2⟩
  ⟨λb o e _ _ n=>(oth b λz=>n (by simp[z])).trans e,λb o e _ _ n=>⟨o.slots,(oth b λz=>n (by simp[z])).trans e⟩,λt ht=>.inl ht⟩
end
end NH
namespace NH
open PySem PySem.Spec PyProof.Rows L2
noncomputable abbrev St:=L2.St
theorem xb{P:Program}{w:World}{H:Hp}{h:Heap}{a:Addr}{o:HO}(x:ObjOk P w H h a o):∃ob,h.get? a=some ob:=by
 cases o with
 |lst xs=>obtain⟨_,_,_,_,e⟩:=x;exact⟨_,e⟩
 |tup xs=>obtain⟨_,_,_,ob,e,_⟩:=x;exact⟨ob,e⟩
 |dK kvs=>obtain⟨_,_,_,_,o,_,_,e,_⟩:=x;exact⟨o,e⟩
 |dT kvs=>obtain⟨_,_,_,_,o,_,_,e,_⟩:=x;exact⟨o,e⟩
 |set S n=>obtain⟨o,_,_,_,e,_⟩:=x;exact⟨o,e⟩
 |ins C dx fs=>obtain⟨_,_,_,e,_⟩:=x;exact⟨_,e⟩
 |own y=>obtain⟨o,e⟩:=x;exact⟨o,e⟩
 |xd fs=>obtain⟨_,⟨o,_,_,e,_⟩,_⟩:=x;exact⟨o,e⟩
 |rng lo hi=>obtain⟨_,_,_,e⟩:=x;exact⟨_,e⟩
 |frz ob u=>obtain⟨e,_⟩:=x;exact⟨_,e⟩
 |tbl ps=>exact⟨_,(show h.get? a=some _ from x)⟩
 |met f y=>exact⟨_,(show h.get? a=some _ from x)⟩
 |ext φ=>obtain⟨_,⟨o,e⟩,_⟩:=x;exact⟨o,e⟩
structure XOk(X:Cx)(H:Hp)(b:Addr):Prop where
 free:H b=none
 loc:b≠X.env.locals
 nfs:b∉X.fs
 new:b∈X.ex\/X.s₀.heap.get? b=none
 cel:∀x c,X.env.cells.lookup x=some c->c≠b
 pin:∀p∈X.pn,p.1≠b
section
variable {X:Cx}{pins:List (Addr×Obj)}{σ:St}{H H':Hp}{s:Shared}{h':Heap}
theorem yP(I:Inv X pins σ H s){b:Addr}(e:s.heap.get? b=none):H b=none:=by
 cases q:H b with
 |none=>rfl
 |some o=>
  obtain⟨ob,z⟩:=xb (I.hok b o q)
  rw[e] at z;cases z
theorem qk(I:Inv X pins σ H s){b:Addr}(e:s.heap.get? b=none):XOk X H b:=by
 refine⟨yP I e,λz=>?_,λz=>?_,?_,λx c q z=>?_,λp hp z=>?_⟩
 ·obtain⟨m,⟨o,_,_,ho,_⟩,_⟩:=I.loc
  rw[←z,e] at ho;cases ho
 ·obtain⟨_,o,ho,_⟩:=I.funs.mem z
  rw[e] at ho;cases ho
 ·by_cases hx:b∈X.ex
  ·exact .inl hx
  ·refine .inr ?_
   cases q:X.s₀.heap.get? b with
   |none=>rfl
   |some o=>
    obtain⟨o',z⟩:=I.base.there b o q hx
    rw[e] at z;cases z
 ·obtain⟨v,o,ho,_⟩:=I.cell x c q
  rw[z,e] at ho;cases ho
 ·have:=(I.pin p (List.mem_append_left _ hp)).1
  rw[z,e] at this;cases this
theorem jx{ch:List Addr}(I:Inv X pins σ H s)(hch:∀b∈ch,XOk X H b/\∀p∈pins,p.1≠b)
  (keep:∀b o,b∉frs X.stack->b∉ch->s.heap.get? b=some o->h'.get? b=some o)
  (slot:∀b o,b∈frs X.stack->b∉ch->s.heap.get? b=some o->∃sl,h'.get? b=some {o with slots:=sl}) :
  Inv X pins σ H {s with heap:=h'}:=by
 have tr:∀b u,H b=some u->b∉ch:=λb u e z=>by rw[(hch b z).1.free] at e;cases e
 have trf:∀b u,H b=some u->b∉frs X.stack:=λb u e z=>by rw[I.stkFree b z] at e;cases e
 have any:∀b o,b∉ch->s.heap.get? b=some o->∃sl,h'.get? b=some {o with slots:=sl}:=λb o hb e=>by
  by_cases hf:b∈frs X.stack
  ·exact slot b o hf hb e
  ·exact⟨o.slots,keep b o hf hb e⟩
 have inf:∀b,b≠X.env.locals->b∉X.fs->b∉frs X.stack:=λb h1 h2 z=>(List.mem_cons.mp (I.stkSub b z)).elim h1 h2
 have nec:∀b o,X.s₀.heap.get? b=some o->b∉X.ex->b∉ch:=λb o e hx z=>by
  rcases (hch b z).1.new with q|q
  ·exact hx q
  ·rw[e] at q;cases q
 have neL:∀b o,X.s₀.heap.get? b=some o->b≠X.env.locals:=λb o e=>Nat.ne_of_lt (Nat.lt_of_lt_of_le (Heap.lt_size e) I.ok.above)
 have cellK:∀x c,X.env.cells.lookup x=some c->∀v,s.heap.IsCell c v->h'.IsCell c v:=λx c e v ⟨o,ho,hd⟩=>by
  obtain⟨sl,q⟩:=any c o (λz=>(hch c z).1.cel x c e rfl) ho
  exact⟨_,q,hd⟩
 refine⟨I.ok,I.os,I.bare,⟨λb o e n hb hx=>?_,λb o e n hb hx=>?_,λb o e n hx=>I.base.free b o e n hx,λb o e hx=>?_,λb xs e=>I.base.tups b xs e,λb o xs e=>I.base.frzs b o xs e,λb ps e=>I.base.tbls b ps e⟩,?_,λx c e=>?_,I.free,λx c e=>I.freeC x c e,λp hp=>?_,λb u e=>?_,I.len⟩
 ·exact keep b o (inf b (neL b o e) hb) (nec b o e hx) (I.base.keep b o e n hb hx)
 ·obtain⟨sl,e1⟩:=I.base.slot b o e n hb hx
  obtain⟨sl',e2⟩:=any b _ (nec b o e hx) e1
  exact⟨sl',e2⟩
 ·obtain⟨o',e1⟩:=I.base.there b o e hx
  obtain⟨sl,e2⟩:=any b o' (nec b o e hx) e1
  exact⟨_,e2⟩
 ·obtain⟨m,⟨o,es,ep,ho,r⟩,hl⟩:=I.loc
  obtain⟨sl,hL⟩:=any X.env.locals o (λz=>(hch _ z).1.loc rfl) ho
  refine⟨m,⟨_,es,ep,hL,r⟩,λi x v e1 e2 e3=>?_⟩
  obtain⟨u,ru,l⟩:=hl i x v e1 e2 e3
  refine⟨u,ru,?_⟩
  rcases l with l|⟨k,c,e,z⟩
  ·exact .inl l
  ·exact .inr ⟨k,c,e,cellK x c e _ z⟩
 ·obtain⟨v,z⟩:=I.cell x c e
  exact⟨v,cellK x c e v z⟩
 ·obtain⟨e,n,ne,nf,d⟩:=I.pin p hp
  have nch:p.1∉ch:=λz=>by
   rcases List.mem_append.mp hp with q|q
   ·exact (hch p.1 z).1.pin p q rfl
   ·exact (hch p.1 z).2 p q rfl
  exact⟨keep p.1 p.2 (inf p.1 ne nf) nch e,n,ne,nf,d⟩
 ·refine (I.hok b u e).stay (λc v hc q=>?_) (λ_ q=>q) λ_ _ q=>q
  rcases hc with z|z
  ·subst z;exact keep c v (trf c u e) (tr c u e) q
  ·exact keep c v (trf c _ z) (tr c _ z) q
structure Frm(X:Cx)(e0:Env)(out:List Env)(L:Addr):Prop where
 stk:X.stack=e0::out
 f0:e0.frame=some L
 fe:X.env.frame=some L
noncomputable abbrev XW:=Value->Option Addr->St->Hp->Prop
inductive XP(X:Cx)(W:XW)(e:Value)(s:Shared):Prop where
 |mk (x:Addr) (cls:Value) (d:Option Addr) (σ:St) (H:Hp) (T:Option Addr) (fl:Value) (ee:e=.ref x) (i:Inv X [] σ H s) (ox:XOk X H x) (ot:∀t∈T.toList,XOk X H t) (r:UZ s.heap x cls d T fl) (hf:fl=.none\/∃L,X.env.frame=some L/\fl=rawInt L) (w:W cls d σ H)
theorem ZX{x:Addr}{T:Option Addr}{t:Addr}(I:Inv X [] σ H s)(ox:XOk X H x)(ot:∀t∈T.toList,XOk X H t)(mv:XMove (frs X.stack) x T (some t) s.heap h') :
  Inv X [] σ H {s with heap:=h'}/\XOk X H t:=by
 refine⟨jx (ch:=x::T.toList) I (λb hb=>⟨?_,λp hp=>absurd hp (by simp)⟩) (λb o hf hc e=>?_) (λb o hf hc e=>?_),?_⟩
 ·rcases List.mem_cons.mp hb with z|z
  ·rw[z];exact ox
  ·exact ot b z
 ·exact mv.keep b o e hf (λz=>hc (by simp[z])) (λz=>hc (List.mem_cons_of_mem _ z))
 ·exact mv.slot b o e hf (λz=>hc (by simp[z])) (λz=>hc (List.mem_cons_of_mem _ z))
 ·rcases mv.newT t (by simp) with z|z
  ·exact ot t z
  ·exact qk I (Heap.get?_none_of_le z)
theorem wk{M:Model}{A:Around}{E:Value->Shared->Prop}{W:XW}{e:Value}{e0:Env}{out:List Env}{L:Addr}{Q:Unit->Shared->Prop}(F:Frm X e0 out L)(hfr:A.frames=some X.stack)(p:XP X W e s)
  (h:∀x cls d σ H T h',e=.ref x->Inv X [] σ H {s with heap:=h'}->XOk X H x->XOk X H T->XTr h' x T cls d (rawInt L)->W cls d σ H->Q () {s with heap:=h'}):wpAny M A (noteFrame e X.env) Q E s:=by
 obtain⟨x,cls,d,σ,H,T,fl,rfl,I,ox,ot,hr,hfl,w⟩:=p
 have hst:=I.stack
 rw[F.stk] at hfr hst
 refine WJ hfr hst F.fe F.f0 hr (hfl.imp_right λ⟨L',e1,e2⟩=>by rw[F.fe] at e1;cases e1;exact e2) λh' t tr mv=>?_
 have mv':XMove (frs X.stack) x T (some t) s.heap h':=by rw[F.stk];exact mv
 obtain⟨I',o'⟩:=ZX I ox ot mv'
 exact h x cls d σ H t h' rfl I' ox o' tr w
theorem zF{M:Model}{A:Around}{E:Value->Shared->Prop}{x T:Addr}{cls fl:Value}{d fr:Option Addr}{Q:Unit->Shared->Prop}(I:Inv X [] σ H s)(ox:XOk X H x)(oT:XOk X H T)(tr:XTr s.heap x T cls d fl)
  (h:∀h',Inv X [] σ H {s with heap:=h'}->XTr h' x T cls d (fr.elim .none λf=>rawInt f)->Q () {s with heap:=h'}):wpAny M A (setFlight (.ref x) fr) Q E s:=by
 refine Zu (fs:=frs X.stack) tr λh' tr' mv=>h h' (ZX (T:=some T) I ox (λt ht=>?_) mv).1 tr'
 have:t=T:=by simpa using ht
 rw[this];exact oT
theorem vF{W:XW}{M:Model}{e0:Env}{out:List Env}{L:Addr}(F:Frm X e0 out L)(hfr:X.A.frames=some X.stack):PassesOwn M X.A X.env (XP X W):=by
 intro e s p
 unfold notedBy
 refine wk F hfr p λx cls d σ H T h' ee I ox oT tr w=>?_
 subst ee
 unfold cameBackBy
 obtain⟨oe,vs,a0,oT',ts,ho,hc,hd,hv0,hv1,hT,hoT,hdT,h3,_⟩:=id tr
 refine wpAny_bind (wpAny_field ho hd hv1 ?_)
 rw[if_neg (show ¬((Value.ref T == Value.none)=true) from by simp)]
 rw[F.fe]
 have go:wpAny M X.A (setFlight (.ref x) (some L)) (λ_ s''=>XP X W (.ref x) s'') (XP X W) {s with heap:=h'}:=
  zF (s:={s with heap:=h'}) I ox oT tr λh2 I2 tr2=>⟨x,cls,d,σ,H,some T,rawInt L,rfl,I2,ox,λt ht=>by
   have:t=T:=by simpa using ht
   rw[this];exact oT,tr2,.inr ⟨L,F.fe,rfl⟩,w⟩
 first|exact go|exact wpAny_bind (wpAny_pure go)
inductive CXP(P:Program)(w:World)(outer:List Env)(H:Hp)(s:Shared)(E:XK)(e:Value)(s':Shared):Prop where
 |mk (x T:Addr) (cls:Value) (d:Option Addr) (H':Hp) (ee:e=.ref x) (o:s'.os=s.os) (b:AllBare s'.gens) (n:Un (frs outer) [] H H' s.heap s'.heap) (k:HOk P w H' s'.heap) (h1:s.heap.get? x=none) (h2:s.heap.get? T=none) (h3:H' x=none) (h4:H' T=none) (t:XTr s'.heap x T cls d .none) (q:E cls d H')
noncomputable def CX1 (P:Program)(w:World):CXT:=CXP P w
noncomputable def wOf (E:XK):XW:=λc d _ H=>E c d H
theorem Vg{M:Model}{E:XK}{e:Value}{e0:Env}{out:List Env}{L:Addr}{F2:Value->Shared->Prop}(F:Frm X e0 out L)(hfr:X.A.frames=some X.stack)(hex:X.ex=[])(p:XP X (wOf E) e s) :
  wpAny M X.A (leaving X.env e) (λ_ s''=>CX1 X.prog X.w X.outer X.H₀ X.s₀ E e s'') F2 s:=by
 unfold leaving
 refine wpAny_bind (wk F hfr p λx cls d σ H T h' ee I ox oT tr w=>?_)
 subst ee
 refine zF (s:={s with heap:=h'}) I ox oT tr λh2 I2 tr2=>?_
 have nw:∀b,XOk X H b->X.s₀.heap.get? b=none:=λb o=>o.new.resolve_left (by rw[hex];simp)
 refine⟨x,T,cls,d,H,rfl,I2.os,I2.bare,?_,I2.hok,nw x ox,nw T oT,ox.free,oT.free,tr2,w⟩
 have:=I2.base
 rw[hex] at this
 exact this
theorem Q3{E:XK}{W:XW}{e:Value}{s':Shared}(I:Inv X pins σ H s)(c:CX1 X.prog X.w X.stack H s E e s')(h:∀cls d H',E cls d H'->W cls d σ H'):XP X W e s':=by
 obtain⟨x,T,cls,d,H',rfl,os,bare,un,hok,nx,nT,fx,fT,tr,w⟩:=c
 have J:Inv X pins σ H' s':=I.call' (ch:=[]) os un hok bare λb z=>absurd z (by simp)
 have k:∀b,s.heap.get? b=none->H' b=none->XOk X H' b:=λb e f=>by
  have o:=qk I e
  exact⟨f,o.loc,o.nfs,o.new,o.cel,o.pin⟩
 refine⟨x,cls,d,σ,H',some T,.none,rfl,J.pins_of (λp hp=>absurd hp (by simp)),k x nx fx,λt ht=>?_,tr,.inl rfl,h cls d H' w⟩
 have:t=T:=by simpa using ht
 rw[this];exact k T nT fT
theorem JF{W:XW}{x C:Addr}{args:List Value}{h2:Heap}(I:Inv X pins σ H s)(mk:Heap.MadeExcOf s.heap h2 x (.ref C) args)(w:W (.ref C) none σ H):XP X W (.ref x) {s with heap:=h2}:=by
 have J:Inv X pins σ H {s with heap:=h2,toks:=s.toks}:=I.kept mk.keeps
 obtain⟨t,ho,_,_⟩:=mk.there
 exact⟨x,.ref C,none,σ,H,none,.none,rfl,J.pins_of (λp hp=>absurd hp (by simp)),qk I mk.new,λt ht=>absurd ht (by simp),⟨⟨_,_,.ref t,ho,⟨rfl,rfl⟩,rfl,rfl,rfl,λ_ _=>rfl⟩,rfl⟩,.inl rfl,w⟩
noncomputable abbrev Cx.pin'(X:Cx)(pins:List (Addr×Obj)):Cx:={X with pn:=X.pn++pins}
noncomputable abbrev Cx.han(X:Cx)(x:Addr):Cx:={X with A:=X.A.mark (some (.ref x)),calm:=false,xe:=λ_ _=>False}
theorem Vm(ok:X.Ok):(Cx.pin' X pins).Ok:=⟨ok.mod,ok.kind,ok.glob,ok.blt,ok.above,ok.inj,ok.has,ok.cab,ok.hd,ok.frames,ok.stk,ok.exf,ok.bs,ok.bsz,ok.noex,ok.exfs,ok.funs,ok.frf⟩
theorem ui(ok:(Cx.pin' X pins).Ok):X.Ok:=⟨ok.mod,ok.kind,ok.glob,ok.blt,ok.above,ok.inj,ok.has,ok.cab,ok.hd,ok.frames,ok.stk,ok.exf,ok.bs,ok.bsz,ok.noex,ok.exfs,ok.funs,ok.frf⟩
theorem Ys{x:Addr}(ok:X.Ok):(Cx.han X x).Ok:=⟨ok.mod,ok.kind,ok.glob,ok.blt,ok.above,ok.inj,ok.has,ok.cab,(λh=>by cases h),ok.frames,ok.stk,ok.exf,ok.bs,ok.bsz,ok.noex,ok.exfs,ok.funs,ok.frf⟩
theorem jo(I:Inv X pins σ H s):Inv (Cx.pin' X pins) [] σ H s:=⟨Vm I.ok,I.os,I.bare,I.base,I.loc,I.cell,I.free,I.freeC,λp hp=>I.pin p (by simpa using hp),I.hok,I.len⟩
theorem zi(I:Inv (Cx.pin' X pins) [] σ H s):Inv X pins σ H s:=⟨ui I.ok,I.os,I.bare,I.base,I.loc,I.cell,I.free,I.freeC,λp hp=>I.pin p (by simpa using hp),I.hok,I.len⟩
theorem vd{x:Addr}(I:Inv X pins σ H s):Inv (Cx.han X x) pins σ H s:=⟨Ys I.ok,I.os,I.bare,I.base,I.loc,I.cell,I.free,I.freeC,I.pin,I.hok,I.len⟩
theorem wc{x:Addr}(ok:X.Ok)(I:Inv (Cx.han X x) pins σ H s):Inv X pins σ H s:=⟨ok,I.os,I.bare,I.base,I.loc,I.cell,I.free,I.freeC,I.pin,I.hok,I.len⟩
theorem we{E:Value->Shared->Prop}{W:XW}{e:Value}(p:XP (X.wish E) W e s):XP X W e s:=by
 obtain⟨x,cls,d,σ,H,T,fl,a,I,b,c,r,r2,r3⟩:=p
 exact⟨x,cls,d,σ,H,T,fl,a,I.unwish,⟨b.free,b.loc,b.nfs,b.new,b.cel,b.pin⟩,λt ht=>let b:=c t ht;⟨b.free,b.loc,b.nfs,b.new,b.cel,b.pin⟩,r,r2,r3⟩
end
end NH
namespace NH
open PySem
inductive T where
 |non|bl (b:Bool)|int (i:Int)|str (x:Str)
 |tup (ts:List T)|lst (ts:List T)|obj (c:Nat) (fs:List (Nat×T))
 |mut (i:Nat)
 |exc (c:Nat) (fs:List (Nat×T))
 |dic (kvs:List (L2.Key×T))
 |clo (j:Nat) (cs:List T)
inductive MO where
 |lst (ts:List T)|obj (c:Nat) (fs:List (Nat×T))|dic (kvs:List (L2.Key×T))
 |tab (j:Nat)|dct (ks:List (Int×Int))
noncomputable abbrev Xc:MO->Bool
 |.tab _=>true
 |_=>false
noncomputable abbrev Mem:=List MO
noncomputable abbrev Sl:=List (Option T)
mutual
def qS:T->Bool
 |.mut _=>false
 |.tup ts=>jO ts
 |.lst ts=>jO ts
 |.obj _ fs=>v_ fs
 |.exc _ fs=>v_ fs
 |.dic kvs=>Qo kvs
 |.clo _ cs=>jO cs
 |_=>true
def jO:List T->Bool
 |[]=>true
 |t::r=>qS t&&jO r
def v_:List (Nat×T)->Bool
 |[]=>true
 |p::r=>qS p.2&&v_ r
def Qo:List (L2.Key×T)->Bool
 |[]=>true
 |p::r=>qS p.2&&Qo r
end
noncomputable abbrev Xp:=Nat->List (Nat×T)->Mem->Prop
noncomputable abbrev RE(β:Type):=(β->Mem->Prop)->Xp->Prop
noncomputable abbrev RE.ok{β:Type}(a:β)(μ:Mem):RE β:=λK _=>K a μ
noncomputable abbrev RE.st{β:Type}:RE β:=λ_ _=>False
noncomputable abbrev RE.bind{β γ:Type}(r:RE γ)(k:γ->Mem->RE β):RE β:=λK Z=>r (λa μ=>k a μ K Z) Z
noncomputable abbrev RE.grd{β:Type}(p:Prop)(r:RE β):RE β:=λK Z=>p/\r K Z
noncomputable abbrev RE.som{β γ:Type}(o:Option γ)(k:γ->RE β):RE β:=λK Z=>∃a,o=some a/\k a K Z
@[reducible] noncomputable def brW(b:Bool)(A B:Prop):Prop:=match b with
 |true=>A
 |false=>B
noncomputable abbrev RE.br{β:Type}(b:Bool)(r s:RE β):RE β:=λK Z=>brW b (r K Z) (s K Z)
structure En where
 nx:Sl->Mem->Prop
 rt:T->Mem->Prop
 bk:Sl->Mem->Prop
 ct:Sl->Mem->Prop
 ex:Nat->List (Nat×T)->Sl->Mem->Prop
noncomputable abbrev Out:=En->Prop
noncomputable abbrev En.nxt(E:En)(f:Sl->Mem->Prop):En:=⟨f,E.rt,E.bk,E.ct,E.ex⟩
noncomputable abbrev En.turn(E:En)(N:Sl->Mem->Prop):En:=⟨N,E.rt,E.nx,N,E.ex⟩
noncomputable abbrev En.tri(E:En)(X:Nat->List (Nat×T)->Sl->Mem->Prop):En:=⟨E.nx,E.rt,E.bk,E.ct,X⟩
noncomputable abbrev En.fn(K:T->Mem->Prop)(Z:Xp):En:=⟨λ_ μ1=>K .non μ1,K,λ_ _=>False,λ_ _=>False,λc fs _ μ1=>Z c fs μ1⟩
noncomputable abbrev Out.nx(τ:Sl)(μ:Mem):Out:=λE=>E.nx τ μ
noncomputable abbrev Out.rt(t:T)(μ:Mem):Out:=λE=>E.rt t μ
noncomputable abbrev Out.ex(c:Nat)(fs:List (Nat×T))(τ:Sl)(μ:Mem):Out:=λE=>E.ex c fs τ μ
noncomputable abbrev Out.st:Out:=λ_=>False
noncomputable abbrev Out.grd(p:Prop)(o:Out):Out:=λE=>p/\o E
noncomputable abbrev Out.som{γ:Type}(o:Option γ)(k:γ->Out):Out:=λE=>∃a,o=some a/\k a E
noncomputable abbrev Out.br(b:Bool)(r s:Out):Out:=λE=>brW b (r E) (s E)
noncomputable abbrev Out.seq(o:Out)(f:Sl->Mem->Out):Out:=λE=>o (E.nxt λτ μ=>f τ μ E)
noncomputable abbrev RE.out{β:Type}(r:RE β)(τ:Sl)(f:β->Mem->Out):Out:=λE=>r (λa μ=>f a μ E) (λc fs μ=>E.ex c fs τ μ)
noncomputable abbrev Fn:=List T->Mem->RE T
noncomputable abbrev De:=Sl->Mem->RE T
noncomputable abbrev Dt:=Sl->Mem->RE Bool
noncomputable abbrev Da:=Sl->Mem->RE (List T)
noncomputable abbrev Ds:=Sl->Mem->Out
noncomputable abbrev RI:=(List T->(Mem->Prop)->Mem->Prop)->Xp->Prop
noncomputable abbrev RI.ok(xs:List T)(o:Mem->Prop)(μ:Mem):RI:=λK _=>K xs o μ
noncomputable abbrev RI.st:RI:=λ_ _=>False
noncomputable abbrev RI.grd(p:Prop)(r:RI):RI:=λK Z=>p/\r K Z
noncomputable abbrev RI.go{β:Type}(r:RI)(k:List T->(Mem->Prop)->Mem->RE β):RE β:=λK Z=>r (λxs o μ=>k xs o μ K Z) Z
noncomputable abbrev RI.out(r:RI)(τ:Sl)(f:List T->(Mem->Prop)->Mem->Out):Out:=λE=>r (λxs o μ=>f xs o μ E) (λc fs μ=>E.ex c fs τ μ)
noncomputable abbrev RI.re(r:RI):RE (List T×(Mem->Prop)):=λK Z=>r (λxs o μ=>K (xs,o) μ) Z
noncomputable abbrev RE.it{β:Type}(r:RE β)(k:β->Mem->RI):RI:=λK Z=>r (λa μ=>k a μ K Z) Z
noncomputable abbrev Di:=Sl->Mem->RI
abbrev lvT:Mem->Prop:=λ_=>True
abbrev lvM(i:Nat)(xs:List T):Mem->Prop:=λμ=>μ[i]?=some (.lst xs)
structure LamD where
 jt:Nat
 qn:Str
 y:Str
 body:Expr
 sc:Scope
 fr:List Str
 g:De
noncomputable abbrev z1o(j jt:Nat)(ts:List T):T:=.clo (300+j) (.clo (100+jt) []::ts.map λt=>.clo 200 [t])
inductive GM where
 |fn (f:Fn)
 |fnh (nm:Str) (f:Fn)
 |met (c:Nat) (nm:Str) (f:Fn)
 |mk (c:Nat) (frozen:Bool) (f:Fn)
 |cst (t:T)
 |xcl (c:Nat)
 |xcf (c:Nat) (f:Nat)
 |xin (c f:Nat) (nm fl:Str)
 |mkd (c:Nat) (nm:Str) (n:Nat) (f:Fn)
 |metd (c:Nat) (nm:Str) (n:Nat) (d:T) (f:Fn)
 |kpr
 |kap (ls:List LamD)
 |tbl (kvs:List (Str×Int))
 |none
 |bad
noncomputable abbrev W4(τ:Sl):Nat->Option T:=List.rec (motive:=λ_=>Nat->Option T) (λ_=>none) (λo _ ih i=>Nat.rec (motive:=λ_=>Option T) o (λn _=>ih n) i) τ
noncomputable abbrev wD(τ:Sl):Nat->Option T->Sl:=List.rec (motive:=λ_=>Nat->Option T->Sl) (λ_ _=>[]) (λo r ih i t=>Nat.rec (motive:=λ_=>Sl) (t::r) (λn _=>o::ih n t) i) τ
theorem Qa:∀{τ:Sl} {i:Nat} {t:T},W4 τ i=some t↔τ[i]?=some (some t)
 |[],_,_=>by simp
 |o::r,0,t=>by show o=some t↔_;simp
 |o::r,n+1,t=>by
  show W4 r n=some t↔_
  rw[Qa (τ:=r) (i:=n)];simp
theorem jf:∀{τ:Sl} {i:Nat} {t:Option T},wD τ i t=τ.set i t
 |[],_,_=>by simp
 |o::r,0,t=>rfl
 |o::r,n+1,t=>by
  show o::wD r n t=_
  rw[jf (τ:=r) (i:=n)];simp
noncomputable abbrev yw(fs:List (Nat×T)):Nat->Option T:=List.rec (motive:=λ_=>Nat->Option T) (λ_=>none) (λp _ ih i=>Bool.rec (motive:=λ_=>Option T) (ih i) (some p.2) (Nat.beq p.1 i)) fs
noncomputable abbrev Vs(f:Nat)(v:T)(fs:List (Nat×T)):List (Nat×T):=List.rec (motive:=λ_=>List (Nat×T)) [(f,v)] (λp r ih=>Bool.rec (motive:=λ_=>List (Nat×T)) (p::ih) ((p.1,v)::r) (Nat.beq p.1 f)) fs
theorem QN{p:Nat×T}{r:List (Nat×T)}{i:Nat}:yw (p::r) i=match Nat.beq p.1 i with
  |true=>some p.2
  |false=>yw r i:=by
 show (Bool.rec (yw r i) (some p.2) (Nat.beq p.1 i):Option T)=_
 cases Nat.beq p.1 i<;>rfl
theorem Qt{f:Nat}{v:T}{p:Nat×T}{r:List (Nat×T)}:Vs f v (p::r)=match Nat.beq p.1 f with
  |true=>(p.1,v)::r
  |false=>p::Vs f v r:=by
 show (Bool.rec (p::Vs f v r) ((p.1,v)::r) (Nat.beq p.1 f):List (Nat×T))=_
 cases Nat.beq p.1 f<;>rfl
noncomputable def idx:List Str->Str->Option Nat
 |[],_=>none
 |y::r,x=>if y=x then some 0 else (idx r x).map (·+1)
noncomputable abbrev tyN:T->Mem->Option Nat
 |.non,_=>some 0
 |.bl _,_=>some 1
 |.int _,_=>some 2
 |.str _,_=>some 3
 |.tup _,_=>some 4
 |.lst _,_=>some 5
 |.dic _,_=>some 6
 |.exc c _,_=>some c
 |.obj c _,_=>some c
 |_,_=>none
noncomputable abbrev tyO:MO->Nat
 |.lst _=>5
 |.obj c _=>c
 |.dic _=>6
 |.tab _=>99
 |.dct _=>6
noncomputable abbrev Ky(a b:Bool):Bool:=match a with
 |true=>b
 |false=>false
noncomputable abbrev bOr(a b:Bool):Bool:=match a with
 |true=>true
 |false=>b
noncomputable abbrev qb(a c:Nat):Bool:=bOr (Nat.beq a c) (bOr (Ky (Nat.beq a 1) (Nat.beq c 2)) (Ky (Nat.ble 10 a) (Ky (Nat.ble a 39) (bOr (Nat.beq c 11) (Ky (Nat.beq c 10) (Nat.ble 12 a))))))
noncomputable abbrev isAny(t:Nat)(cs:List Nat):Bool:=List.rec (motive:=λ_=>Bool) false (λc _ ih=>bOr (qb t c) ih) cs
theorem jq{t c:Nat}{r:List Nat}:isAny t (c::r)=bOr (qb t c) (isAny t r):=rfl
noncomputable def big:Int:=18446744073709551616
noncomputable def room:Nat:=1000000
noncomputable abbrev Uo:T->T->Mem->RE T
 |.int i,.int j,μ=>.ok (.int (i+j)) μ
 |.str x,.str y,μ=>.grd (x.length+y.length<=room) (.ok (.str (x++y)) μ)
 |.lst xs,.lst ys,μ=>.grd (xs.length+ys.length<=room) (.ok (.lst (xs++ys)) μ)
 |.tup xs,.tup ys,μ=>.grd (xs.length+ys.length<=room) (.ok (.tup (xs++ys)) μ)
 |.mut i,.lst ys,μ=>λK _=>∃xs,μ[i]?=some (.lst xs)/\xs.length+ys.length<=room/\K (.lst (xs++ys)) μ
 |.lst xs,.mut j,μ=>λK _=>∃ys,μ[j]?=some (.lst ys)/\xs.length+ys.length<=room/\K (.lst (xs++ys)) μ
 |.mut i,.mut j,μ=>λK _=>∃p:List T×List T,(μ[i]?=some (.lst p.1)/\μ[j]?=some (.lst p.2))/\p.1.length+p.2.length<=room/\K (.lst (p.1++p.2)) μ
 |_,_,_=>.st
noncomputable abbrev xK(f:Int->Int->Mem->RE T):T->T->Mem->RE T
 |.int i,.int j,μ=>f i j μ
 |_,_,_=>.st
noncomputable abbrev UM:Operator->T->T->Mem->RE T
 |.Add=>Uo
 |.Sub=>xK λi j μ=>.ok (.int (i-j)) μ
 |.Mult=>xK λi j μ=>.grd ((-big<i/\i<big)\/(-big<j/\j<big)) (.ok (.int (i * j)) μ)
 |.FloorDiv=>xK λi j μ=>.grd (0<j/\j<1606938044258990275541962092341162602522202993782792835301376) (.ok (.int (i / j)) μ)
 |.Mod=>xK λi j μ=>.grd (0<j) (.ok (.int (i % j)) μ)
 |.Pow=>xK λi j μ=>.grd (0<=j/\j<=1000000/\i.natAbs<18446744073709551616) (.ok (.int (i ^ j.toNat)) μ)
 |.RShift=>xK λi j μ=>.grd (0<=j) (.ok (.int (i / 2 ^ j.toNat)) μ)
 |.BitAnd=>xK λi j μ=>.ok (.int (Builtin.bitAnd i j)) μ
 |_=>λ_ _ _=>.st
mutual
def eqT:T->T->Option Bool
 |.int i,b=>match b with
  |.int j=>some (i == j)
  |.bl k=>some (i == (if k then 1 else 0))
  |.str _=>some false
  |.non=>some false
  |.tup _=>some false
  |.lst _=>some false
  |_=>none
 |.bl k,b=>match b with
  |.int j=>some ((if k then 1 else 0) == j)
  |.bl j=>some (k == j)
  |.str _=>some false
  |.non=>some false
  |.tup _=>some false
  |.lst _=>some false
  |_=>none
 |.str x,b=>match b with
  |.str y=>some (x == y)
  |.int _=>some false
  |.bl _=>some false
  |.non=>some false
  |.tup _=>some false
  |.lst _=>some false
  |_=>none
 |.non,b=>match b with
  |.non=>some true
  |.int _=>some false
  |.bl _=>some false
  |.str _=>some false
  |.tup _=>some false
  |.lst _=>some false
  |_=>none
 |.tup xs,b=>match b with
  |.tup ys=>eqL xs ys
  |.non=>some false
  |.int _=>some false
  |.bl _=>some false
  |.str _=>some false
  |.lst _=>some false
  |_=>none
 |.lst xs,b=>match b with
  |.lst ys=>eqL xs ys
  |.non=>some false
  |.int _=>some false
  |.bl _=>some false
  |.str _=>some false
  |.tup _=>some false
  |_=>none
 |_,_=>none
def eqL:List T->List T->Option Bool
 |[],[]=>some true
 |[],_::_=>some false
 |_::_,[]=>some false
 |x::xs,y::ys=>match eqT x y,eqL xs ys with
  |some a,some b=>some (a&&b)
  |_,_=>none
end
mutual
def vC:T->Nat
 |.tup ts=>qo ts+1
 |.lst ts=>qo ts+1
 |_=>0
def qo:List T->Nat
 |[]=>0
 |t::r=>max (vC t) (qo r)
end
noncomputable abbrev scT:T->T->Option Bool
 |.non,.non=>some true
 |.non,.int _=>some false|.int _,.non=>some false|.non,.bl _=>some false|.bl _,.non=>some false|.non,.str _=>some false|.str _,.non=>some false
 |.int i,.int j=>some (decide (i=j))|.bl i,.bl j=>some (decide (i=j))|.str i,.str j=>some (decide (i=j))
 |.int _,.str _=>some false|.str _,.int _=>some false|.bl _,.str _=>some false|.str _,.bl _=>some false
 |_,_=>none
noncomputable abbrev eqW(x y:T)(μ:Mem)(k:Bool->RE T):RE T:=match x,y with
 |.tup xs,.tup ys=>.grd (qo xs<=40) (.som (eqL xs ys) k)
 |.lst xs,.lst ys=>.grd (qo xs<=40) (.som (eqL xs ys) k)
 |.mut i,.lst ys=>λK Z=>∃xs,μ[i]?=some (.lst xs)/\RE.grd (qo xs<=40) (.som (eqL xs ys) k) K Z
 |.lst xs,.mut j=>λK Z=>∃ys,μ[j]?=some (.lst ys)/\RE.grd (qo xs<=40) (.som (eqL xs ys) k) K Z
 |.mut i,.mut j=>λK Z=>∃p:List T×List T,(μ[i]?=some (.lst p.1)/\μ[j]?=some (.lst p.2))/\RE.grd (qo p.1<=40) (.som (eqL p.1 p.2) k) K Z
 |x,y=>match scT x y with
  |some b=>k b
  |none=>.st
noncomputable def intsOf:List T->Option (List Int)
 |[]=>some []
 |.int i::r=>(intsOf r).map (i::·)
 |_::_=>none
noncomputable abbrev ltW(x y:T)(k:Bool->RE T):RE T:=match x,y with
 |.int i,.int j=>k (decide (i<j))
 |.tup xs,.tup ys=>.som (intsOf xs) λns=>.som (intsOf ys) λms=>k (HT.lexLt ns ms)
 |.str a,.str b=>k (decide (a.cps.toList<b.cps.toList))
 |_,_=>.st
noncomputable abbrev y3(op:CmpOp)(x y:T)(μ:Mem):RE T:=
 match op with
 |.Eq=>eqW x y μ λb=>.ok (.bl b) μ
 |.NotEq=>eqW x y μ λb=>.ok (.bl (!b)) μ
 |.Lt=>ltW x y λb=>.ok (.bl b) μ
 |.LtE=>match x,y with|.int i,.int j=>.ok (.bl (decide (i<=j))) μ|_,_=>.st
 |.Gt=>match x,y with|.int i,.int j=>.ok (.bl (decide (j<i))) μ|_,_=>.st
 |.GtE=>match x,y with|.int i,.int j=>.ok (.bl (decide (j<=i))) μ|_,_=>.st
 |.Is=>(match y with
  |.non=>.ok (.bl (match x with|.non=>true|_=>false)) μ
  |.bl b=>(match x with|.bl a=>.ok (.bl (decide (a=b))) μ|_=>.st)
  |_=>.st)
 |.IsNot=>(match y with
  |.non=>.ok (.bl (match x with|.non=>false|_=>true)) μ
  |.bl b=>(match x with|.bl a=>.ok (.bl (!decide (a=b))) μ|_=>.st)
  |_=>.st)
 |.In=>(match x,y with|.str i,.str j=>.ok (.bl (!(Builtin.Str.occurrences j i 0 j.length 1).isEmpty)) μ|_,_=>.st)
 |.NotIn=>(match x,y with|.str i,.str j=>.ok (.bl (!(!(Builtin.Str.occurrences j i 0 j.length 1).isEmpty))) μ|_,_=>.st)
noncomputable abbrev ye:T->Mem->RE Bool
 |.bl b,μ=>.ok b μ
 |_,_=>.st
noncomputable abbrev eC(t:T):De:=λ_ μ=>.ok t μ
noncomputable abbrev eV(i:Nat):De:=λτ μ=>match W4 τ i with
 |some t=>.ok t μ
 |none=>.st
noncomputable abbrev za(op:Operator)(f g:De):De:=λτ μ=>(f τ μ).bind λx μ1=>(g τ μ1).bind λy μ2=>UM op x y μ2
noncomputable abbrev kj(f:De):De:=λτ μ=>(f τ μ).bind λx μ1=>match x with|.int i=>.ok (.int (-i)) μ1|_=>.st
noncomputable abbrev Um(f:De):De:=λτ μ=>(f τ μ).bind λx μ1=>match x with|.bl b=>.ok (.bl (!b)) μ1|_=>.st
noncomputable abbrev Jj(f g:De):De:=λτ μ=>(f τ μ).bind λx μ1=>match x with|.bl b=>.br b (g τ μ1) (.ok (.bl false) μ1)|_=>.st
noncomputable abbrev eOr(f g:De):De:=λτ μ=>(f τ μ).bind λx μ1=>match x with|.bl b=>.br b (.ok (.bl true) μ1) (g τ μ1)|_=>.st
noncomputable abbrev zI(op:CmpOp)(f g:De):De:=λτ μ=>(f τ μ).bind λx μ1=>(g τ μ1).bind λy μ2=>y3 op x y μ2
noncomputable abbrev chS(op:CmpOp)(last:Bool)(ih:T->Sl->Mem->RE T)(x y:T)(τ:Sl)(μ1:Mem):RE T:=match last with
 |true=>y3 op x y μ1
 |false=>(y3 op x y μ1).bind λk μ2=>match k with
  |.bl b=>.br b (ih y τ μ2) (.ok (.bl false) μ2)
  |_=>.st
noncomputable abbrev VI(ps:List (CmpOp×De)):T->Sl->Mem->RE T:=List.rec (motive:=λ_=>T->Sl->Mem->RE T) (λ_ _ _=>.st) (λp r ih x τ μ=>(p.2 τ μ).bind λy μ1=>chS p.1 r.isEmpty ih x y τ μ1) ps
noncomputable abbrev eCh(f:De)(ps:List (CmpOp×De)):De:=λτ μ=>(f τ μ).bind λx μ1=>VI ps x τ μ1
noncomputable abbrev tE(f:De):Dt:=λτ μ=>(f τ μ).bind ye
noncomputable abbrev xU(f g:Dt):Dt:=λτ μ=>(f τ μ).bind λb μ1=>.br b (g τ μ1) (.ok false μ1)
noncomputable abbrev tOr(f g:Dt):Dt:=λτ μ=>(f τ μ).bind λb μ1=>.br b (.ok true μ1) (g τ μ1)
noncomputable abbrev vx(f:Dt):Dt:=λτ μ=>(f τ μ).bind λb μ1=>.ok (!b) μ1
noncomputable abbrev Z7(t:T)(f:Nat)(μ:Mem):RE T:=match t with
 |.obj _ fs=>(match yw fs f with|some v=>.ok v μ|none=>.st)
 |.mut i=>λK _=>∃c fs v,μ[i]?=some (.obj c fs)/\yw fs f=some v/\K v μ
 |_=>.st
noncomputable abbrev Vp(f:De)(n:Nat):De:=λτ μ=>(f τ μ).bind λt μ1=>Z7 t n μ1
noncomputable def Ku(n:Nat)(i:Int):Option Nat:=if 0<=i then (if i<n then some i.toNat else none) else if -(n:Int)<=i then some (i+n).toNat else none
noncomputable def wJ {α:Type}(xs:List α)(i:Int):Option α:=(Ku xs.length i).bind λj=>xs[j]?
noncomputable abbrev Xw(t i:T)(μ:Mem):RE T:=match i with
 |.int k=>(match t with
  |.lst ts=>.som (wJ ts k) λv=>.ok v μ
  |.tup ts=>.som (wJ ts k) λv=>.ok v μ
  |.mut j=>λK _=>∃ts v,μ[j]?=some (.lst ts)/\wJ ts k=some v/\K v μ
  |.str z=>.grd (z.length<=room) (.som (wJ z.cps.toList k) λc=>.ok (.str ⟨#[c]⟩) μ)
  |_=>.st)
 |_=>.st
noncomputable abbrev eIx(f g:De):De:=λτ μ=>(f τ μ).bind λx μ1=>(g τ μ1).bind λy μ2=>Xw x y μ2
noncomputable def VA(n d:Nat):Option Int->Nat
 |none=>d
 |some v=>if v<0 then (v+(n:Int)).toNat else min v.toNat n
noncomputable def j2 {α:Type}(xs:List α)(lo hi:Option Int):List α:=(xs.drop (VA xs.length 0 lo)).take (VA xs.length xs.length hi-VA xs.length 0 lo)
noncomputable abbrev Dp:=Sl->Mem->RE (Option Int)
noncomputable abbrev pN:Dp:=λ_ μ=>.ok none μ
noncomputable abbrev pS(f:De):Dp:=λτ μ=>(f τ μ).bind λt μ1=>match t with|.int i=>.ok (some i) μ1|_=>.st
noncomputable abbrev z0i(x:T)(l h:Option Int)(μ:Mem):RE T:=match x with
 |.lst xs=>.ok (.lst (j2 xs l h)) μ
 |.tup xs=>.ok (.tup (j2 xs l h)) μ
 |.str z=>.grd (z.length<=room) (.ok (.str (Txt.slice z l h)) μ)
 |.mut i=>λK _=>∃ts,μ[i]?=some (.lst ts)/\K (.lst (j2 ts l h)) μ
 |_=>.st
noncomputable abbrev eSl(f:De)(lo hi:Dp):De:=λτ μ=>(f τ μ).bind λx μ1=>(lo τ μ1).bind λl μ2=>(hi τ μ2).bind λh μ3=>z0i x l h μ3
noncomputable abbrev evs(fs:List De):Da:=List.rec (motive:=λ_=>Da) (λ_ μ=>.ok [] μ) (λf _ ih τ μ=>(f τ μ).bind λt μ1=>(ih τ μ1).bind λts μ2=>.ok (t::ts) μ2) fs
noncomputable abbrev qy(fs:List De):De:=λτ μ=>(evs fs τ μ).bind λts μ1=>.ok (.lst ts) μ1
noncomputable abbrev Vf(fs:List De):De:=λτ μ=>(evs fs τ μ).bind λts μ1=>.ok (.tup ts) μ1
noncomputable abbrev Qu(fs:List De):De:=λτ μ=>(evs fs τ μ).bind λts μ1=>.ok (.mut μ1.length) (μ1++[.lst ts])
noncomputable abbrev z9(g:Fn)(fs:List De):De:=λτ μ=>(evs fs τ μ).bind g
noncomputable abbrev yA(c:Nat)(g:Fn)(ts:List T)(μ:Mem):RE T:=λK Z=>
 jO ts=true/\g (.mut 0::ts) [.obj c []] (λr μ1=>r=.non/\∃fs,μ1[0]?=some (.obj c fs)/\v_ fs=true/\K (.obj c fs) μ) (λk fs _=>v_ fs=true/\Z k fs μ)
noncomputable abbrev eMk(c:Nat)(g:Fn)(fs:List De):De:=λτ μ=>(evs fs τ μ).bind (yA c g)
noncomputable abbrev WL(cs:List Nat)(x:T)(μ:Mem):RE T:=match x with
 |.mut i=>.som μ[i]? λo=>.br (Xc o) .st (.ok (.bl (isAny (tyO o) cs)) μ)
 |x=>match tyN x μ with
  |some t=>.ok (.bl (isAny t cs)) μ
  |none=>.st
noncomputable abbrev jF(cs:List Nat)(f:De):De:=λτ μ=>(f τ μ).bind (WL cs)
noncomputable abbrev eB1(op:T->Mem->RE T)(f:De):De:=λτ μ=>(f τ μ).bind op
noncomputable abbrev wO(t:T)(μ:Mem):RE T:=match t with
 |.lst xs=>.ok (.int xs.length) μ
 |.tup xs=>.ok (.int xs.length) μ
 |.str s=>.grd (s.length<=room) (.ok (.int s.length) μ)
 |.mut i=>λK _=>∃xs,μ[i]?=some (.lst xs)/\K (.int xs.length) μ
 |_=>.st
noncomputable abbrev z1u(t:T)(μ:Mem):RE T:=match t with
 |.lst xs=>.ok (.lst xs) μ
 |.tup xs=>.ok (.lst xs) μ
 |.mut i=>λK _=>∃xs,μ[i]?=some (.lst xs)/\K (.lst xs) μ
 |_=>.st
noncomputable abbrev WQ(t:T)(μ:Mem):RE T:=match t with
 |.lst xs=>.ok (.mut μ.length) (μ++[.lst xs])
 |.tup xs=>.ok (.mut μ.length) (μ++[.lst xs])
 |.mut i=>λK _=>∃xs,μ[i]?=some (.lst xs)/\K (.mut μ.length) (μ++[.lst xs])
 |_=>.st
noncomputable def bools:List T->Option (List Bool)
 |[]=>some []
 |.bl b::r=>(bools r).map (b::·)
 |_::_=>none
noncomputable abbrev Jm(t:T)(μ:Mem):RE T:=match t with
 |.lst xs=>.som (bools xs) λbs=>.ok (.bl (bs.all id)) μ
 |_=>.st
noncomputable abbrev J6(o f:De):De:=λτ μ=>(o τ μ).bind λot μ1=>match ot with
 |.mut i=>λK Z=>(∃ts,μ1[i]?=some (.lst ts))/\f τ μ1 (λt μ2=>∃ts,μ2[i]?=some (.lst ts)/\ts.length<room/\K .non (μ2.set i (.lst (ts++[t])))) Z
 |_=>.st
noncomputable def strsOf:List T->Option (List Str)
 |[]=>some []
 |.str x::r=>(strsOf r).map (x::·)
 |_::_=>none
noncomputable abbrev Zv(o f:De):De:=λτ μ=>(o τ μ).bind λot μ1=>match ot with
 |.str x=>(f τ μ1).bind λt μ2=>match t with
  |.str y=>λK _=>∃i r,Builtin.Str.occurrences x y 0 x.length 1=i::r/\K (.int i) μ2
  |_=>.st
 |_=>.st
noncomputable abbrev vI(z:Str):List T:=z.cps.toList.map λc=>T.str ⟨#[c]⟩
noncomputable abbrev Yw(t:T)(μ:Mem):RI:=match t with
 |.lst xs=>.ok xs lvT μ
 |.tup xs=>.ok xs lvT μ
 |.str z=>.ok (vI z) lvT μ
 |.mut i=>λK _=>∃xs,μ[i]?=some (.lst xs)/\K xs (lvM i xs) μ
 |_=>.st
noncomputable abbrev iE(f:De):Di:=λτ μ=>(f τ μ).it Yw
noncomputable def rangeT(n:Int):List T:=(List.range n.toNat).map λ(i:Nat)=>T.int i
noncomputable def y6(a b c:Int):List T:=(List.range (if a<b then (b-a-1) / c+1 else 0:Int).toNat).map λ(i:Nat)=>T.int (a+i * c)
noncomputable abbrev inL(a:Int):Prop := -1606938044258990275541962092341162602522202993782792835301376<=a/\a<1606938044258990275541962092341162602522202993782792835301376
noncomputable abbrev uU(f:De):Di:=λτ μ=>(f τ μ).it λt μ1=>match t with
 |.int n=>.grd (inL n) (.ok (rangeT n) lvT μ1)
 |_=>.st
noncomputable abbrev Vy(x y z:T)(μ:Mem):RI:=match x,y,z with
 |.int a,.int b,.int c=>.grd (inL a/\inL b/\0<c/\c<1073741824) (.ok (y6 a b c) lvT μ)
 |_,_,_=>.st
noncomputable abbrev X7(f g h:De):Di:=λτ μ=>(f τ μ).it λx μ1=>(g τ μ1).it λy μ2=>(h τ μ2).it λz μ3=>Vy x y z μ3
noncomputable abbrev Jk(f g:De):Di:=λτ μ=>(f τ μ).it λx μ1=>(g τ μ1).it λy μ2=>match x,y with
 |.int a,.int b=>.grd (inL a/\inL b) (.ok (y6 a b 1) lvT μ2)
 |_,_=>.st
inductive Tg where
 |one (i:Nat)|tup (is:List Nat)
noncomputable abbrev yh(is:List Nat):List T->Sl->Option Sl:=List.rec (motive:=λ_=>List T->Sl->Option Sl) (λts τ=>List.rec (motive:=λ_=>Option Sl) (some τ) (λ_ _ _=>none) ts) (λi _ ih ts τ=>List.rec (motive:=λ_=>Option Sl) none (λt ts' _=>ih ts' (wD τ i (some t))) ts) is
noncomputable abbrev asg:Tg->T->Sl->Option Sl
 |.one i,t,τ=>some (wD τ i (some t))
 |.tup is,.tup ts,τ=>yh is ts τ
 |_,_,_=>none
noncomputable def zN(tg:Tg)(g:Sl->Mem->RE (Option T))(lv:Mem->Prop)(τ:Sl):List T->Mem->RE (List T)
 |[],μ=>.ok [] μ
 |x::r,μ=>.som (asg tg x τ) λτ'=>(g τ' μ).bind λo μ1=>.grd (lv μ1) (match o with
  |some y=>(zN tg g lv τ r μ1).bind λys μ2=>.ok (y::ys) μ2
  |none=>zN tg g lv τ r μ1)
noncomputable abbrev j6(cs:List Dt)(f:De):Sl->Mem->RE (Option T):=List.rec (motive:=λ_=>Sl->Mem->RE (Option T)) (λτ μ=>(f τ μ).bind λy μ1=>.ok (some y) μ1) (λc _ ih τ μ=>(c τ μ).bind λb μ1=>.br b (ih τ μ1) (.ok none μ1)) cs
noncomputable abbrev Zw(is:List Nat)(τ:Sl):Sl:=List.rec (motive:=λ_=>Sl) [] (λi _ ih=>W4 τ i::ih) is
noncomputable abbrev blk(n:Nat)(fs:List Nat)(τ:Sl):Sl:=Nat.rec (motive:=λ_=>Sl) (Zw fs τ) (λ_ ih=>none::ih) n
noncomputable abbrev wt(n:Nat)(fs:List Nat)(tg:Tg)(it:Di)(cs:List Dt)(f:De):De:=λτ μ=>(it τ μ).go λxs o μ1=>.grd (xs.length<=room) ((zN tg (j6 cs f) o (blk n fs τ) xs μ1).bind λys μ2=>.ok (.lst ys) μ2)
noncomputable abbrev qX(n:Nat)(fs:List Nat)(tg:Tg)(it:Di)(cs:List Dt)(f:De):De:=λτ μ=>(it τ μ).go λxs o μ1=>.grd (xs.length<=room) ((zN tg (j6 cs f) o (blk n fs τ) xs μ1).bind λys μ2=>.ok (.mut μ2.length) (μ2++[.lst ys]))
noncomputable abbrev zx(f:De):Ds:=λτ μ=>(f τ μ).out τ λt μ1=>.rt t μ1
noncomputable abbrev Xu:Ds:=λ_ μ=>.rt .non μ
noncomputable abbrev ji(f:De):Ds:=λτ μ=>(f τ μ).out τ λ_ μ1=>.nx τ μ1
noncomputable abbrev zY(ss:List Ds):Ds:=List.rec (motive:=λ_=>Ds) (λτ μ=>.nx τ μ) (λs _ ih τ μ=>(s τ μ).seq ih) ss
noncomputable abbrev sIf(c:Dt)(a b:List Ds):Ds:=λτ μ=>(c τ μ).out τ λk μ1=>.br k (zY a τ μ1) (zY b τ μ1)
noncomputable abbrev zf(i:Nat)(f:De):Ds:=λτ μ=>(f τ μ).out τ λt μ1=>.nx (wD τ i (some t)) μ1
noncomputable abbrev z0K(is:List Nat)(f:De):Ds:=λτ μ=>(f τ μ).out τ λt μ1=>.som (asg (.tup is) t τ) λτ'=>.nx τ' μ1
noncomputable abbrev uR(o:De)(n:Nat)(f:De):Ds:=λτ μ=>(f τ μ).out τ λt μ1=>(o τ μ1).out τ λot μ2=>match ot with
 |.mut i=>λE=>∃c fs,μ2[i]?=some (.obj c fs)/\fs.length<900/\E.nx τ (μ2.set i (.obj c (Vs n t fs)))
 |_=>.st
noncomputable abbrev ur(o b f:De):Ds:=λτ μ=>(f τ μ).out τ λt μ1=>(o τ μ1).out τ λot μ2=>(b τ μ2).out τ λit μ3=>match ot,it with
 |.mut i,.int k=>λE=>∃ts,μ3[i]?=some (.lst ts)/\(0<=k/\k<ts.length/\k<9223372036854775808)/\E.nx τ (μ3.set i (.lst (ts.set k.toNat t)))
 |_,_=>.st
noncomputable def forM(tg:Tg)(body:Ds)(lv:Mem->Prop):List T->Ds
 |[],τ,μ=>.nx τ μ
 |x::r,τ,μ=>.som (asg tg x τ) λτ'=>λE=>body τ' μ (E.turn λτ2 μ2=>lv μ2/\forM tg body lv r τ2 μ2 E)
noncomputable abbrev uy(tg:Tg)(it:Di)(body:List Ds):Ds:=λτ μ=>(it τ μ).out τ λxs o μ1=>forM tg (zY body) o xs τ μ1
noncomputable def jX(c:Dt)(body:List Ds):Ds:=λτ μ E=>∃I:Nat->Sl->Mem->Prop,(∃n,I n τ μ)/\∀n τ μ,I n τ μ->
 c τ μ (λb μ1=>brW b (zY body τ μ1 (E.turn λτ2 μ2=>∃m,m<n/\I m τ2 μ2)) (E.nx τ μ1)) (λk fs μ1=>E.ex k fs τ μ1)
noncomputable abbrev uZ(c:Nat)(fs:List De):Ds:=λτ μ=>(evs fs τ μ).out τ λts μ1=>.grd (ts.length<=room) (.ex c [] τ μ1)
noncomputable abbrev qZ(c f:Nat)(g:De):Ds:=λτ μ=>(g τ μ).out τ λt μ1=>match t with
 |.int i=>.grd (i.natAbs.log2<1920) (.ex c [(f,.int i)] τ μ1)
 |_=>.st
noncomputable abbrev z02(i:Option Nat)(v:List Ds)(k:Nat)(fs:List (Nat×T))(τ:Sl)(μ:Mem):Out:=λE=>match i with
 |some j=>zY v (wD τ j (some (.exc k fs))) μ {nx:=λτ2 μ2=>E.nx (wD τ2 j none) μ2,rt:=E.rt,bk:=λ_ _=>False,ct:=λ_ _=>False,ex:=λ_ _ _ _=>False}
 |none=>zY v τ μ {nx:=E.nx,rt:=E.rt,bk:=λ_ _=>False,ct:=λ_ _=>False,ex:=λ_ _ _ _=>False}
noncomputable abbrev KZ(hs:List (List Nat×Option Nat×List Ds)):Nat->List (Nat×T)->Sl->Mem->Out:=List.rec (motive:=λ_=>Nat->List (Nat×T)->Sl->Mem->Out) (λk fs τ μ=>.ex k fs τ μ) (λp _ ih k fs τ μ=>.br (isAny k p.1) (z02 p.2.1 p.2.2 k fs τ μ) (ih k fs τ μ)) hs
noncomputable abbrev UA(b:List Ds)(hs:List (List Nat×Option Nat×List Ds)):Ds:=λτ μ E=>zY b τ μ (E.tri λk fs τ1 μ1=>KZ hs k fs τ1 μ1 E)
noncomputable abbrev pad(n:Nat):Sl:=Nat.rec (motive:=λ_=>Sl) [] (λ_ ih=>none::ih) n
noncomputable abbrev K7(ts:List T)(n:Nat):Sl:=List.rec (motive:=λ_=>Sl) (pad n) (λt _ ih=>some t::ih) ts
noncomputable abbrev fnW(n m:Nat)(body:List Ds):Fn:=λts μ K Z=>ts.length=n/\zY body (K7 ts m) μ (En.fn K Z)
end NH
namespace NH
open PySem PySem.Spec PyProof.Rows L2
section
structure DP where
 K:PySem.W.Frag
 adr:Nat->Option Addr
 cad:Nat->Option Addr
 fn:Nat->Option Str
 inj:∀i j x,fn i=some x->fn j=some x->i=j
 clo:Nat->Addr->Option HO->List V->Prop
 tabs:Nat->Option (Addr×List Pos×Str)
noncomputable def XcAt (a C:Addr)(d:Option Addr):Heap->Prop:=λh=>∃oe vs,h.get? a=some oe/\oe.cls=.ref C/\oe.data=.fields vs/\oe.dict=d
noncomputable def WH(x:Int×Int):Int:=reduceHash (Builtin.Tuple.tupleHashOf [hashInt x.1,hashInt x.2])
noncomputable def X1(a:Addr)(xs:List ((Int×Int)×Addr)):Heap->Prop:=λh=>∃o es ep,h.get? a=some o/\o.ExactDict/\o.data=.dict es ep/\es.toList=xs.map λx=>(⟨WH x.1,.ref x.2,.bool true⟩:DictEntry)
noncomputable def Zt(c:Addr)(qn:Str):Heap->Prop:=λh=>h.CodeRec (.ref c) qn
mutual
def Den (D:DP)(φ α:List Addr)(H:Hp):T->V->Prop
 |.non,v=>v=.non
 |.bl b,v=>v=.bl b
 |.int i,v=>v=.int i
 |.str x,v=>v=.str x
 |.mut i,v=>∃a,α[i]?=some a/\v=.ref a
 |.tup ts,v=>∃a xs,v=.ref a/\a∉φ/\a∉α/\Rd H a (.tup xs)/\DenL D φ α H ts xs
 |.lst ts,v=>∃a xs,v=.ref a/\a∉φ/\a∉α/\Rd H a (.lst xs)/\DenL D φ α H ts xs
 |.obj c fs,v=>∃a C dx gs,v=.ref a/\a∉φ/\a∉α/\D.cad c=some C/\H a=some (.ins C dx gs)/\DenF D φ α H fs gs
 |.exc c fs,v=>∃a C d,v=.ref a/\a∉φ/\a∉α/\D.adr c=some C/\H a=some (.ext (XcAt a C d))/\(match d with
  |none=>fs=[]
  |some dx=>∃gs,dx∉φ/\dx∉α/\H dx=some (.xd gs)/\DenF D φ α H fs gs)
 |.dic kvs,v=>∃a gs,v=.ref a/\a∉φ/\a∉α/\H a=some (.dK gs)/\DenK D φ α H kvs gs
 |.clo j cs,v=>∃a ob xs,v=.ref a/\D.clo j a ob xs/\(∀o,ob=some o->a∉φ/\a∉α/\H a=some o)/\DenL D φ α H cs xs
def DenL (D:DP)(φ α:List Addr)(H:Hp):List T->List V->Prop
 |[],vs=>vs=[]
 |t::ts,vs=>∃v r,vs=v::r/\Den D φ α H t v/\DenL D φ α H ts r
def DenF (D:DP)(φ α:List Addr)(H:Hp):List (Nat×T)->List (Str×V)->Prop
 |[],gs=>gs=[]
 |p::fs,gs=>∃x v r,D.fn p.1=some x/\gs=(x,v)::r/\Den D φ α H p.2 v/\DenF D φ α H fs r
def DenK (D:DP)(φ α:List Addr)(H:Hp):List (Key×T)->List (Key×V)->Prop
 |[],gs=>gs=[]
 |p::fs,gs=>∃v r,gs=(p.1,v)::r/\Den D φ α H p.2 v/\DenK D φ α H fs r
end
noncomputable def cvF (fs:List (Nat×T))(C:Addr):Value:=if fs.length<=1 then .ref C else .int (C:Int) 0
theorem Q0{fs:List (Nat×T)}{C:Addr}:stC (cvF fs C)=.ref C:=by
 unfold cvF
 split
 ·rfl
 ·show Value.ref (Int.toNat (C:Int))=_
  rw[Int.toNat_natCast]
noncomputable def XDict(D:DP)(φ α:List Addr)(H:Hp)(fs:List (Nat×T)):Option Addr->Prop
 |none=>fs=[]
 |some dx=>∃gs,dx∉φ/\dx∉α/\H dx=some (.xd gs)/\DenF D φ α H fs gs
noncomputable def DenO (D:DP)(φ α:List Addr)(H:Hp):MO->Addr->Prop
 |.lst ts,a=>∃xs,H a=some (.lst xs)/\DenL D φ α H ts xs
 |.obj c fs,a=>∃C dx gs,D.cad c=some C/\H a=some (.ins C dx gs)/\DenF D φ α H fs gs
 |.dic kvs,a=>∃gs,H a=some (.dK gs)/\DenK D φ α H kvs gs
 |.tab j,a=>∃poss qn ps,D.tabs j=some (a,poss,qn)/\H a=some (.tbl ps)/\TriplesOk ps.toList/\∀pos∈poss,codeAmong pos ps.toList=none\/∃c,codeAmong pos ps.toList=some (.ref c)/\c∉φ/\c∉α/\H c=some (.ext (Zt c qn))
 |.dct ks,a=>∃xs:List ((Int×Int)×Addr),ks=xs.map (·.1)/\ks.Nodup/\ks.length<=100000/\(a == sysModules)=false/\H a=some (.ext (X1 a xs))/\∀x∈xs,x.2∉φ/\x.2∉α/\Rd H x.2 (.tup [.int x.1.1,.int x.1.2])
structure Stp(α:List Addr)(H:Hp)(α':List Addr)(H':Hp):Prop where
 ext:∃β,α'=α++β/\∀b∈β,H b=none
 keep:∀b o,b∉α->H b=some o->H' b=some o
 live:∀b,H' b=none->H b=none
theorem Stp.refl(α:List Addr)(H:Hp):Stp α H α H:=⟨⟨[],by simp,by simp⟩,λ_ _ _ e=>e,λ_ e=>e⟩
theorem Stp.trans{α α1 α2:List Addr}{H H1 H2:Hp}(a:Stp α H α1 H1)(b:Stp α1 H1 α2 H2):Stp α H α2 H2:=by
 obtain⟨β,rfl,hβ⟩:=a.ext
 obtain⟨γ,rfl,hγ⟩:=b.ext
 refine⟨⟨β++γ,by simp,λc hc=>?_⟩,λc o n e=>?_,λc e=>a.live c (b.live c e)⟩
 ·rcases List.mem_append.mp hc with h|h
  ·exact hβ c h
  ·exact a.live c (hγ c h)
 ·refine b.keep c o (λh=>?_) (a.keep c o n e)
  rcases List.mem_append.mp h with h|h
  ·exact n h
  ·rw[hβ c h] at e;cases e
theorem Stp.new{α:List Addr}{H H':Hp}(s:vc H H'):Stp α H α H':=⟨⟨[],by simp,by simp⟩,λb o _ e=>s b o e,λb e=>by
 cases q:H b with
 |none=>rfl
 |some o=>rw[s b o q] at e;cases e⟩
theorem zd{H:Hp}{p:Addr}{o:HO}(h:H p=none):vc H (upd H p o):=λb u e=>by rw[z8 (zD e h)];exact e
theorem Stp.out{α α':List Addr}{H H':Hp}(s:Stp α H α' H'){a:Addr}{o:HO}(n:a∉α)(e:H a=some o):a∉α':=by
 obtain⟨β,rfl,hβ⟩:=s.ext
 intro h
 rcases List.mem_append.mp h with h|h
 ·exact n h
 ·rw[hβ a h] at e;cases e
section
variable {D:DP}{φ φ' α α':List Addr}{H H':Hp}
structure Lk(φ α:List Addr)(H:Hp)(φ' α':List Addr)(H':Hp):Prop where
 ob:∀a o,a∉φ->a∉α->H a=some o->a∉φ'/\a∉α'/\H' a=some o
 st:∀(i:Nat) (a:Addr),α[i]?=some a->α'[i]?=some a
mutual
theorem Den.lk(h:Lk φ α H φ' α' H'):∀{t:T} {v:V},Den D φ α H t v->Den D φ' α' H' t v
 |.non,_,d=>d
 |.bl _,_,d=>d
 |.int _,_,d=>d
 |.str _,_,d=>d
 |.mut i,_,d=>by obtain⟨a,e,q⟩:=d;exact⟨a,h.st i a e,q⟩
 |.tup ts,_,d=>by
  obtain⟨a,xs,rfl,n1,n2,r,l⟩:=d
  rcases r with r|⟨o,r⟩
  ·obtain⟨m1,m2,e⟩:=h.ob a _ n1 n2 r
   exact⟨a,xs,rfl,m1,m2,.inl e,DenL.lk h l⟩
  ·obtain⟨m1,m2,e⟩:=h.ob a _ n1 n2 r
   exact⟨a,xs,rfl,m1,m2,.inr ⟨o,e⟩,DenL.lk h l⟩
 |.lst ts,_,d=>by
  obtain⟨a,xs,rfl,n1,n2,r,l⟩:=d
  rcases r with r|⟨o,r⟩
  ·obtain⟨m1,m2,e⟩:=h.ob a _ n1 n2 r
   exact⟨a,xs,rfl,m1,m2,.inl e,DenL.lk h l⟩
  ·obtain⟨m1,m2,e⟩:=h.ob a _ n1 n2 r
   exact⟨a,xs,rfl,m1,m2,.inr ⟨o,e⟩,DenL.lk h l⟩
 |.obj c fs,_,d=>by
  obtain⟨a,C,dx,gs,rfl,n1,n2,ad,e,l⟩:=d
  obtain⟨m1,m2,e⟩:=h.ob a _ n1 n2 e
  exact⟨a,C,dx,gs,rfl,m1,m2,ad,e,DenF.lk h l⟩
 |.exc c fs,_,d=>by
  obtain⟨a,C,d,rfl,n1,n2,ad,e,l⟩:=d
  obtain⟨m1,m2,e⟩:=h.ob a _ n1 n2 e
  refine⟨a,C,d,rfl,m1,m2,ad,e,?_⟩
  cases d with
  |none=>exact l
  |some dx=>
   obtain⟨gs,k1,k2,e2,l⟩:=l
   obtain⟨k1,k2,e2⟩:=h.ob dx _ k1 k2 e2
   exact⟨gs,k1,k2,e2,DenF.lk h l⟩
 |.dic kvs,_,d=>by
  obtain⟨a,gs,rfl,n1,n2,e,l⟩:=d
  obtain⟨m1,m2,e⟩:=h.ob a _ n1 n2 e
  exact⟨a,gs,rfl,m1,m2,e,DenK.lk h l⟩
 |.clo j cs,_,d=>by
  obtain⟨a,ob,xs,rfl,c,e,l⟩:=d
  exact⟨a,ob,xs,rfl,c,λo z=>let ⟨n1,n2,q⟩:=e o z;h.ob a o n1 n2 q,DenL.lk h l⟩
theorem DenL.lk(h:Lk φ α H φ' α' H'):∀{ts:List T} {vs:List V},DenL D φ α H ts vs->DenL D φ' α' H' ts vs
 |[],_,l=>l
 |t::ts,_,l=>by
  obtain⟨v,r,rfl,a,b⟩:=l
  exact⟨v,r,rfl,Den.lk h a,DenL.lk h b⟩
theorem DenF.lk(h:Lk φ α H φ' α' H'):∀{fs:List (Nat×T)} {gs:List (Str×V)},DenF D φ α H fs gs->DenF D φ' α' H' fs gs
 |[],_,l=>l
 |p::fs,_,l=>by
  obtain⟨x,v,r,e,rfl,a,b⟩:=l
  exact⟨x,v,r,e,rfl,Den.lk h a,DenF.lk h b⟩
theorem DenK.lk(h:Lk φ α H φ' α' H'):∀{fs:List (Key×T)} {gs:List (Key×V)},DenK D φ α H fs gs->DenK D φ' α' H' fs gs
 |[],_,l=>l
 |p::fs,_,l=>by
  obtain⟨v,r,rfl,a,b⟩:=l
  exact⟨v,r,rfl,Den.lk h a,DenK.lk h b⟩
end
theorem Stp.lk(s:Stp α H α' H'):Lk φ α H φ α' H':=⟨λa o n1 n2 e=>⟨n1,s.out n2 e,s.keep a o n2 e⟩,λi a e=>by
 obtain⟨β,rfl,_⟩:=s.ext
 rw[List.getElem?_append_left (List.getElem?_eq_some_iff.mp e).1];exact e⟩
theorem Den.step(s:Stp α H α' H'){t:T}{v:V}(d:Den D φ α H t v):Den D φ α' H' t v:=d.lk s.lk
theorem DenL.step(s:Stp α H α' H'){t:List T}{v:List V}(d:DenL D φ α H t v):DenL D φ α' H' t v:=d.lk s.lk
theorem DenF.step(s:Stp α H α' H'){t:List (Nat×T)}{v:List (Str×V)}(d:DenF D φ α H t v):DenF D φ α' H' t v:=d.lk s.lk
theorem XDict.lk{fs:List (Nat×T)}{d:Option Addr}(h:Lk φ α H φ' α' H')(x:XDict D φ α H fs d):XDict D φ' α' H' fs d:=by
 cases d with
 |none=>exact x
 |some dx=>
  obtain⟨gs,k1,k2,e2,l⟩:=x
  obtain⟨k1,k2,e2⟩:=h.ob dx _ k1 k2 e2
  exact⟨gs,k1,k2,e2,DenF.lk h l⟩
mutual
theorem Den.hide{β:List Addr}:∀{t:T} {v:V},qS t=true->Den D φ α H t v->(∀a,a∉φ->a∉α->a∉φ'/\a∉β)->Den D φ' β H t v
 |.non,_,_,h,_=>h
 |.bl _,_,_,h,_=>h
 |.int _,_,_,h,_=>h
 |.str _,_,_,h,_=>h
 |.mut i,_,p,_,_=>by simp[qS] at p
 |.tup ts,_,p,h,k=>by
  obtain⟨a,xs,rfl,n1,n2,r,l⟩:=h
  exact⟨a,xs,rfl,(k a n1 n2).1,(k a n1 n2).2,r,DenL.hide (by simpa[qS] using p) l k⟩
 |.lst ts,_,p,h,k=>by
  obtain⟨a,xs,rfl,n1,n2,r,l⟩:=h
  exact⟨a,xs,rfl,(k a n1 n2).1,(k a n1 n2).2,r,DenL.hide (by simpa[qS] using p) l k⟩
 |.obj c fs,_,p,h,k=>by
  obtain⟨a,C,dx,gs,rfl,n1,n2,ad,e,l⟩:=h
  exact⟨a,C,dx,gs,rfl,(k a n1 n2).1,(k a n1 n2).2,ad,e,DenF.hide (by simpa[qS] using p) l k⟩
 |.exc c fs,_,p,h,k=>by
  obtain⟨a,C,d,rfl,n1,n2,ad,e,l⟩:=h
  refine⟨a,C,d,rfl,(k a n1 n2).1,(k a n1 n2).2,ad,e,?_⟩
  cases d with
  |none=>exact l
  |some dx=>
   obtain⟨gs,k1,k2,e2,l⟩:=l
   exact⟨gs,(k dx k1 k2).1,(k dx k1 k2).2,e2,DenF.hide (by simpa[qS] using p) l k⟩
 |.dic kvs,_,p,h,k=>by
  obtain⟨a,gs,rfl,n1,n2,e,l⟩:=h
  exact⟨a,gs,rfl,(k a n1 n2).1,(k a n1 n2).2,e,DenK.hide (by simpa[qS] using p) l k⟩
 |.clo j cs,_,p,h,k=>by
  obtain⟨a,ob,xs,rfl,c,e,l⟩:=h
  exact⟨a,ob,xs,rfl,c,λo z=>let ⟨n1,n2,q⟩:=e o z;⟨(k a n1 n2).1,(k a n1 n2).2,q⟩,DenL.hide (by simpa[qS] using p) l k⟩
theorem DenL.hide{β:List Addr}:∀{ts:List T} {vs:List V},jO ts=true->DenL D φ α H ts vs->(∀a,a∉φ->a∉α->a∉φ'/\a∉β)->DenL D φ' β H ts vs
 |[],_,_,h,_=>h
 |t::ts,_,p,h,k=>by
  obtain⟨v,r,rfl,a,b⟩:=h
  simp only[jO,Bool.and_eq_true] at p
  exact⟨v,r,rfl,Den.hide p.1 a k,DenL.hide p.2 b k⟩
theorem DenF.hide{β:List Addr}:∀{fs:List (Nat×T)} {gs:List (Str×V)},v_ fs=true->DenF D φ α H fs gs->(∀a,a∉φ->a∉α->a∉φ'/\a∉β)->DenF D φ' β H fs gs
 |[],_,_,h,_=>h
 |q::fs,_,p,h,k=>by
  obtain⟨x,v,r,e,rfl,a,b⟩:=h
  simp only[v_,Bool.and_eq_true] at p
  exact⟨x,v,r,e,rfl,Den.hide p.1 a k,DenF.hide p.2 b k⟩
theorem DenK.hide{β:List Addr}:∀{fs:List (Key×T)} {gs:List (Key×V)},Qo fs=true->DenK D φ α H fs gs->(∀a,a∉φ->a∉α->a∉φ'/\a∉β)->DenK D φ' β H fs gs
 |[],_,_,h,_=>h
 |q::fs,_,p,h,k=>by
  obtain⟨v,r,rfl,a,b⟩:=h
  simp only[Qo,Bool.and_eq_true] at p
  exact⟨v,r,rfl,Den.hide p.1 a k,DenK.hide p.2 b k⟩
end
theorem XDict.hide{fs:List (Nat×T)}{d:Option Addr}{β:List Addr}(p:v_ fs=true)(x:XDict D φ α H fs d)(k:∀a,a∉φ->a∉α->a∉φ'/\a∉β):XDict D φ' β H fs d:=by
 cases d with
 |none=>exact x
 |some dx=>
  obtain⟨gs,k1,k2,e2,l⟩:=x
  exact⟨gs,(k dx k1 k2).1,(k dx k1 k2).2,e2,DenF.hide p l k⟩
theorem Kw:∀a:Addr,a∉φ->a∉α->a∉φ++α/\a∉([]:List Addr):=λa n1 n2=>⟨λz=>(List.mem_append.mp z).elim n1 n2,by simp⟩
theorem uo{β:List Addr}:∀a:Addr,a∉φ++α->a∉β->a∉φ/\a∉α:=λa n1 _=>⟨λz=>n1 (List.mem_append_left _ z),λz=>n1 (List.mem_append_right _ z)⟩
theorem DenL.length:∀{ts:List T} {vs:List V},DenL D φ α H ts vs->ts.length=vs.length
 |[],_,h=>by have:_=[]:=h;subst this;rfl
 |t::ts,_,h=>by
  obtain⟨v,r,rfl,_,b⟩:=h
  simp[DenL.length b]
theorem DenL.get:∀{ts:List T} {vs:List V} {i:Nat} {t:T},DenL D φ α H ts vs->ts[i]?=some t->∃v,vs[i]?=some v/\Den D φ α H t v
 |[],_,_,_,_,e=>by simp at e
 |t::ts,_,0,_,h,e=>by
  obtain⟨v,r,rfl,a,b⟩:=h
  simp at e;subst e
  exact⟨v,rfl,a⟩
 |t::ts,_,i+1,u,h,e=>by
  obtain⟨v,r,rfl,a,b⟩:=h
  obtain⟨w,e',d⟩:=DenL.get (i:=i) (t:=u) b (by simpa using e)
  exact⟨w,by simpa using e',d⟩
theorem DenL.append:∀{ts us:List T} {vs ws:List V},DenL D φ α H ts vs->DenL D φ α H us ws->DenL D φ α H (ts++us) (vs++ws)
 |[],us,_,ws,h,k=>by have:_=[]:=h;subst this;exact k
 |t::ts,us,_,ws,h,k=>by
  obtain⟨v,r,rfl,a,b⟩:=h
  exact⟨v,r++ws,rfl,a,DenL.append b k⟩
theorem DenL.drop:∀(n:Nat) {ts:List T} {vs:List V},DenL D φ α H ts vs->DenL D φ α H (ts.drop n) (vs.drop n)
 |0,_,_,h=>h
 |n+1,[],_,h=>by have:_=[]:=h;subst this;exact rfl
 |n+1,t::ts,_,h=>by
  obtain⟨v,r,rfl,a,b⟩:=h
  exact DenL.drop n b
theorem DenL.take:∀(n:Nat) {ts:List T} {vs:List V},DenL D φ α H ts vs->DenL D φ α H (ts.take n) (vs.take n)
 |0,_,_,h=>by simp[DenL]
 |n+1,[],_,h=>by have:_=[]:=h;subst this;exact rfl
 |n+1,t::ts,_,h=>by
  obtain⟨v,r,rfl,a,b⟩:=h
  exact⟨v,r.take n,rfl,a,DenL.take n b⟩
theorem DenL.set:∀{ts:List T} {vs:List V} {i:Nat} {t:T} {v:V},DenL D φ α H ts vs->Den D φ α H t v->DenL D φ α H (ts.set i t) (vs.set i v)
 |[],vs,i,t,v,l,d=>by have l:vs=[]:=l;subst l;exact rfl
 |x::ts,_,0,t,v,l,d=>by
  obtain⟨w,r,rfl,dw,l⟩:=l
  exact⟨v,r,rfl,d,l⟩
 |x::ts,_,i+1,t,v,l,d=>by
  obtain⟨w,r,rfl,dw,l⟩:=l
  exact⟨w,r.set i v,rfl,dw,DenL.set l d⟩
theorem DenF.look:∀{fs:List (Nat×T)} {gs:List (Str×V)} {f:Nat} {t:T},DenF D φ α H fs gs->yw fs f=some t->∃x v,D.fn f=some x/\gs.lookup x=some v/\Den D φ α H t v
 |[],_,_,_,_,e=>by simp[yw] at e
 |p::fs,_,f,t,h,e=>by
  obtain⟨x,v,r,ex,rfl,a,b⟩:=h
  rw[QN] at e
  cases q:Nat.beq p.1 f with
  |true=>
   have q':=Nat.eq_of_beq_eq_true q
   rw[q] at e
   have e:some p.2=some t:=e
   cases e
   exact⟨x,v,by rw[←q'];exact ex,by simp[List.lookup_cons],a⟩
  |false=>
   rw[q] at e
   obtain⟨y,w,h1,h2,h3⟩:=DenF.look b e
   refine⟨y,w,h1,?_,h3⟩
   rw[List.lookup_cons]
   have ne:(y == x)=false:=by
    refine beq_eq_false_iff_ne.mpr λz=>?_
    subst z
    have:=D.inj _ _ _ ex h1
    rw[this] at q
    simp at q
   rw[ne];exact h2
theorem DenF.put{f:Nat}{x:Str}{t:T}{w:V}(hx:D.fn f=some x):∀{fs:List (Nat×T)} {gs:List (Str×V)},DenF D φ α H fs gs->Den D φ α H t w->DenF D φ α H (Vs f t fs) (qq x w gs)
 |[],gs,h,d=>by
  have:gs=[]:=h
  subst this
  exact⟨x,w,[],hx,rfl,d,rfl⟩
 |p::fs,gs,h,d=>by
  obtain⟨z,y,r,ez,rfl,dy,l⟩:=h
  rw[Qt]
  show DenF D φ α H _ (if z=x then (z,w)::r else (z,y)::qq x w r)
  cases q:Nat.beq p.1 f with
  |true=>
   have q':=Nat.eq_of_beq_eq_true q
   have:z=x:=by rw[q',hx] at ez;exact (Option.some.inj ez).symm
   rw[if_pos this]
   exact⟨z,w,r,ez,rfl,d,l⟩
  |false=>
   have:z≠x:=λe=>by
    subst e
    have:=D.inj _ _ _ ez hx
    rw[this] at q
    simp at q
   rw[if_neg this]
   exact⟨z,y,qq x w r,ez,rfl,dy,DenF.put hx l d⟩
theorem DenF.length:∀{fs:List (Nat×T)} {gs:List (Str×V)},DenF D φ α H fs gs->fs.length=gs.length
 |[],_,h=>by have:_=[]:=h;subst this;rfl
 |p::fs,_,h=>by
  obtain⟨x,v,r,_,rfl,_,b⟩:=h
  simp[DenF.length b]
noncomputable def noF:HO->Bool
 |.frz _ _=>false
 |_=>true
structure MRel(D:DP)(φ α:List Addr)(H:Hp)(μ:Mem):Prop where
 len:α.length=μ.length
 nd:α.Nodup
 dis:∀b∈α,b∉φ
 phi:∀b∈φ,∃o,H b=some o/\noF o=true
 ob:∀(i:Nat) (a:Addr) (o:MO),α[i]?=some a->μ[i]?=some o->DenO D φ α H o a
theorem MRel.nil(D:DP){φ:List Addr}{H:Hp}(h:∀b∈φ,∃o,H b=some o/\noF o=true):MRel D φ [] H []:=⟨rfl,by simp,by simp,h,by simp⟩
theorem DenO.lk{o:MO}{a:Addr}(s:Lk φ α H φ' α' H')(e:H' a=H a)(h:DenO D φ α H o a):DenO D φ' α' H' o a:=by
 cases o with
 |lst ts=>
  obtain⟨xs,q,l⟩:=h
  exact⟨xs,e.trans q,DenL.lk s l⟩
 |obj c fs=>
  obtain⟨C,dx,gs,ad,q,l⟩:=h
  exact⟨C,dx,gs,ad,e.trans q,DenF.lk s l⟩
 |dic kvs=>
  obtain⟨xs,q,l⟩:=h
  exact⟨xs,e.trans q,DenK.lk s l⟩
 |tab j=>
  obtain⟨pos,qn,ps,h1,h2,h3,h4⟩:=h
  refine⟨pos,qn,ps,h1,e.trans h2,h3,λp hp=>(h4 p hp).imp id λ⟨c,k1,k2,k3,k4⟩=>?_⟩
  obtain⟨m1,m2,m3⟩:=s.ob c _ k2 k3 k4
  exact⟨c,k1,m1,m2,m3⟩
 |dct ks=>
  obtain⟨xs,h1,h2,h3,h4,h5,h6⟩:=h
  refine⟨xs,h1,h2,h3,h4,e.trans h5,λx hx=>?_⟩
  obtain⟨k1,k2,k3⟩:=h6 x hx
  rcases k3 with k3|⟨o,k3⟩
  ·obtain⟨m1,m2,m3⟩:=s.ob _ _ k1 k2 k3
   exact⟨m1,m2,.inl m3⟩
  ·obtain⟨m1,m2,m3⟩:=s.ob _ _ k1 k2 k3
   exact⟨m1,m2,.inr ⟨o,m3⟩⟩
theorem DenO.step{o:MO}{a:Addr}(s:Stp α H α' H')(e:H' a=H a)(h:DenO D φ α H o a):DenO D φ α' H' o a:=h.lk s.lk e
theorem DenO.some{o:MO}{a:Addr}(h:DenO D φ α H o a):∃u,H a=Option.some u/\noF u=true:=by
 cases o with
 |lst ts=>obtain⟨xs,q,_⟩:=h;exact⟨_,q,rfl⟩
 |obj c fs=>obtain⟨C,dx,gs,_,q,_⟩:=h;exact⟨_,q,rfl⟩
 |dic ts=>obtain⟨xs,q,_⟩:=h;exact⟨_,q,rfl⟩
 |tab j=>obtain⟨_,_,ps,_,q,_⟩:=h;exact⟨_,q,rfl⟩
 |dct ks=>obtain⟨_,_,_,_,_,q,_⟩:=h;exact⟨_,q,rfl⟩
theorem MRel.new{μ:Mem}(m:MRel D φ α H μ)(s:vc H H'):MRel D φ α H' μ:=
 ⟨m.len,m.nd,m.dis,λb hb=>let ⟨o,e,n⟩:=m.phi b hb;⟨o,s b o e,n⟩,λi a o e1 e2=>by
  have d:=m.ob i a o e1 e2
  obtain⟨u,q,_⟩:=d.some
  exact d.step (Stp.new s) ((s _ _ q).trans q.symm)⟩
theorem MRel.lk{μ:Mem}(h:Lk φ α H φ' α H')(hα:∀a∈α,H' a=H a/\a∉φ')(hφ:∀b∈φ',∃o,H' b=some o/\noF o=true)(m:MRel D φ α H μ):MRel D φ' α H' μ:=
 ⟨m.len,m.nd,λb hb=>(hα b hb).2,hφ,λi a o e1 e2=>(m.ob i a o e1 e2).lk h (hα a (List.mem_of_getElem? e1)).1⟩
structure SRel(D:DP)(φ α:List Addr)(H:Hp)(τ:Sl)(σ:St):Prop where
 len:τ.length=σ.length
 val:∀(i:Nat) (t:T),τ[i]?=some (some t)->∃v,σ[i]?=some (some v)/\Den D φ α H t v
theorem SRel.lk{τ:Sl}{σ:St}(r:SRel D φ α H τ σ)(s:Lk φ α H φ' α' H'):SRel D φ' α' H' τ σ:=⟨r.len,λi t e=>by
 obtain⟨v,q,d⟩:=r.val i t e
 exact⟨v,q,d.lk s⟩⟩
theorem SRel.step{τ:Sl}{σ:St}(r:SRel D φ α H τ σ)(s:Stp α H α' H'):SRel D φ α' H' τ σ:=r.lk s.lk
theorem SRel.set{τ:Sl}{σ:St}(r:SRel D φ α H τ σ){i:Nat}{t:T}{v:V}(d:Den D φ α H t v):SRel D φ α H (wD τ i (some t)) (σ.set i (some v)):=by
 rw[jf]
 refine⟨by simp[r.len],λj u e=>?_⟩
 by_cases h:i=j
 ·subst h
  rw[List.getElem?_set_self'] at e
  cases q:τ[i]? with
  |none=>rw[q] at e;cases e
  |some o=>
   rw[q] at e
   simp at e
   subst e
   have hl:i<σ.length:=by rw[←r.len];exact (List.getElem?_eq_some_iff.mp q).1
   exact⟨v,by simp[hl],d⟩
 ·rw[List.getElem?_set_ne h] at e ⊢
  exact r.val j u e
theorem SRel.unset{τ:Sl}{σ:St}{i:Nat}(r:SRel D φ α H τ σ):SRel D φ α H (wD τ i none) (σ.set i none):=by
 rw[jf]
 refine⟨by simp[r.len],λj t e=>?_⟩
 by_cases h:i=j
 ·subst h
  rw[List.getElem?_set_self'] at e
  cases q:τ[i]? with
  |none=>rw[q] at e;cases e
  |some o=>rw[q] at e;cases e
 ·rw[List.getElem?_set_ne h] at e ⊢
  exact r.val j t e
theorem SRel.get{τ:Sl}{σ:St}(r:SRel D φ α H τ σ){i:Nat}{t:T}(e:W4 τ i=some t):∃v,σ[i]?=some (some v)/\Den D φ α H t v:=r.val i t (Qa.mp e)
end
theorem vH{φ α:List Addr}{H:Hp}{b:Addr}(hb:H b=none):Lk φ α H (φ++[b]) α H:=by
 refine⟨λa o n1 n2 e=>⟨λz=>?_,n2,e⟩,λ_ _ e=>e⟩
 rcases List.mem_append.mp z with z|z
 ·exact n1 z
 ·rw[List.mem_singleton.mp z,hb] at e
  cases e
theorem yD{φ α:List Addr}{H H':Hp}{b:Addr}(hb:H b=none)(s:vc H H'):Lk φ α H (φ++[b]) α H':=⟨λa o n1 n2 e=>let ⟨q1,q2,q3⟩:=(vH hb).ob a o n1 n2 e;⟨q1,q2,s a o e⟩,λ_ _ e=>e⟩
theorem qx{φ α:List Addr}{H:Hp}{b:Addr}:Lk (φ++[b]) α H φ α H:=⟨λa o n1 n2 e=>⟨λz=>n1 (List.mem_append_left _ z),n2,e⟩,λ_ _ e=>e⟩
theorem jA{φ α:List Addr}{H:Hp}{b:Addr}{u:HO}(hb:b∈φ):Lk φ α H φ α (upd H b u):=⟨λa o n1 n2 e=>⟨n1,n2,by rw[z8 (λz:a=b=>n1 (by rw[z];exact hb))];exact e⟩,λ_ _ e=>e⟩
end
inductive Post(D:DP)(W:XW)(φ α:List Addr)(H:Hp)(σ:St){β:Type}(R:β->Mem->List Addr->Hp->Prop)(r:RE β):Prop where
 |mk (K:β->Mem->Prop) (Z:Xp) (q:r K Z) (h:(∀a μ',K a μ'->∀α' H',Stp α H α' H'->MRel D φ α' H' μ'->R a μ' α' H')/\
  ∀c fs μ',Z c fs μ'->∀α' H' C d,Stp α H α' H'->MRel D φ α' H' μ'->D.adr c=some C->XDict D φ α' H' fs d->W (cvF fs C) d σ H')
inductive RdP(D:DP)(H:Hp)(σ:St)(P:List Addr->List Addr->Sl->Mem->Prop):Prop where
 |mk (φ α:List Addr) (τ:Sl) (μ:Mem) (sr:SRel D φ α H τ σ) (mr:MRel D φ α H μ) (p:P φ α τ μ)
section
variable {D:DP}{W:XW}{φ α α':List Addr}{H H':Hp}{σ:St}{β γ:Type}{R R':β->Mem->List Addr->Hp->Prop}{S:γ->Mem->List Addr->Hp->Prop}
theorem Post.mono{r:RE β}(p:Post D W φ α H σ R r)(h:∀a μ' α' H',Stp α H α' H'->MRel D φ α' H' μ'->R a μ' α' H'->R' a μ' α' H'):Post D W φ α H σ R' r:=by
 obtain⟨K,Z,q,k,z⟩:=p
 exact⟨K,Z,q,λa μ' e α' H' s m=>h a μ' α' H' s m (k a μ' e α' H' s m),z⟩
theorem Post.bind{r:RE γ}{k:γ->Mem->RE β}(p:Post D W φ α H σ R (r.bind k)):Post D W φ α H σ (λa μ' α' H'=>Post D W φ α' H' σ R (k a μ')) r:=by
 obtain⟨K,Z,q,h,z⟩:=p
 exact⟨λa μ=>k a μ K Z,Z,q,λa μ' e α' H' s m=>⟨K,Z,e,λb μ2 e2 α2 H2 s2 m2=>h b μ2 e2 α2 H2 (s.trans s2) m2,λc fs μ2 e2 α2 H2 C d s2 m2=>z c fs μ2 e2 α2 H2 C d (s.trans s2) m2⟩,z⟩
theorem Post.elim{C:Prop}(p:Post D W φ α H σ R RE.st):C:=by obtain⟨_,_,q,_⟩:=p;exact q.elim
theorem Post.grd{c:Prop}{r:RE β}(p:Post D W φ α H σ R (RE.grd c r)):c/\Post D W φ α H σ R r:=by
 obtain⟨K,Z,q,h⟩:=p
 exact⟨q.1,K,Z,q.2,h⟩
theorem Post.som{o:Option γ}{k:γ->RE β}(p:Post D W φ α H σ R (RE.som o k)):∃a,o=some a/\Post D W φ α H σ R (k a):=by
 obtain⟨K,Z,⟨a,e,q⟩,h⟩:=p
 exact⟨a,e,K,Z,q,h⟩
theorem Post.br{b:Bool}{r s:RE β}(p:Post D W φ α H σ R (RE.br b r s)):(b=true/\Post D W φ α H σ R r)\/(b=false/\Post D W φ α H σ R s):=by
 obtain⟨K,Z,q,h⟩:=p
 cases b with
 |true=>exact .inl ⟨rfl,K,Z,q,h⟩
 |false=>exact .inr ⟨rfl,K,Z,q,h⟩
theorem Post.ok{a:β}{μ:Mem}(p:Post D W φ α H σ R (RE.ok a μ)){α':List Addr}{H':Hp}(s:Stp α H α' H')(m:MRel D φ α' H' μ):R a μ α' H':=by
 obtain⟨K,Z,q,h,_⟩:=p
 exact h a μ q α' H' s m
theorem Post.step{r:RE β}(p:Post D W φ α H σ R r)(st:Stp α H α' H'):Post D W φ α' H' σ R r:=by
 obtain⟨K,Z,q,h,z⟩:=p
 exact⟨K,Z,q,λb μ2 e2 α2 H2 s2 m2=>h b μ2 e2 α2 H2 (st.trans s2) m2,λc fs μ2 e2 α2 H2 C d s2 m2=>z c fs μ2 e2 α2 H2 C d (st.trans s2) m2⟩
theorem Post.ex0{δ:Type}{k:δ->RE β}(p:Post D W φ α H σ R (λK Z=>∃x,k x K Z)):∃x,Post D W φ α H σ R (k x):=by
 obtain⟨K,Z,⟨x,q⟩,h⟩:=p
 exact⟨x,K,Z,q,h⟩
theorem Post.ex1{δ:Type}{P:δ->Prop}{k:δ->RE β}(p:Post D W φ α H σ R (λK Z=>∃x,P x/\k x K Z)):∃x,P x/\Post D W φ α H σ R (k x):=by
 obtain⟨K,Z,⟨x,hx,q⟩,h⟩:=p
 exact⟨x,hx,K,Z,q,h⟩
end
noncomputable def rdE (D:DP)(W:XW)(f:De):TE:=λσ H Q=>RdP D H σ λφ α τ μ=>Post D W φ α H σ (λt _ α' H'=>∀v,Den D φ α' H' t v->Q v H') (f τ μ)
noncomputable def rdT (D:DP)(W:XW)(f:Dt):TT:=λσ H Q=>RdP D H σ λφ α τ μ=>Post D W φ α H σ (λb _ _ H'=>Q b H') (f τ μ)
noncomputable def rdA (D:DP)(W:XW)(n:Nat)(f:Da):TA:=λσ H Q=>RdP D H σ λφ α τ μ=>Post D W φ α H σ (λts _ α' H'=>∀vs,DenL D φ α' H' ts vs->vs.length=n->Q vs H') (f τ μ)
section
variable {X:Cx}{D:DP}{W:XW}{pins:List (Addr×Obj)}{s:Shared}{σ:St}{H:Hp}{φ α:List Addr}{τ:Sl}{μ:Mem}{β:Type}{R:β->Mem->List Addr->Hp->Prop}
inductive SubP(X:Cx)(D:DP)(W:XW)(pins:List (Addr×Obj))(σ:St)(H:Hp)(φ α:List Addr)(τ:Sl){β:Type}(R:β->Mem->List Addr->Hp->Prop)(k:T->Mem->RE β)(u:Value)(s1:Shared):Prop where
 |mk (v:V) (H1:Hp) (t:T) (μ1:Mem) (α1:List Addr) (i:Inv X pins σ H1 s1) (r:RelV v u) (st:Stp α H α1 H1) (sr:SRel D φ α1 H1 τ σ) (mr:MRel D φ α1 H1 μ1) (d:Den D φ α1 H1 t v) (p:Post D W φ α1 H1 σ R (k t μ1))
inductive SubT(X:Cx)(D:DP)(W:XW)(pins:List (Addr×Obj))(σ:St)(H:Hp)(φ α:List Addr)(τ:Sl){β:Type}(R:β->Mem->List Addr->Hp->Prop)(k:Bool->Mem->RE β)(b:Bool)(s1:Shared):Prop where
 |mk (H1:Hp) (μ1:Mem) (α1:List Addr) (i:Inv X pins σ H1 s1) (st:Stp α H α1 H1) (sr:SRel D φ α1 H1 τ σ) (mr:MRel D φ α1 H1 μ1) (p:Post D W φ α1 H1 σ R (k b μ1))
inductive SubA(X:Cx)(D:DP)(W:XW)(pins:List (Addr×Obj))(σ:St)(H:Hp)(φ α:List Addr)(τ:Sl){β:Type}(R:β->Mem->List Addr->Hp->Prop)(n:Nat)(k:List T->Mem->RE β)(us:List Value)(s1:Shared):Prop where
 |mk (vs:List V) (H1:Hp) (ts:List T) (μ1:Mem) (α1:List Addr) (i:Inv X pins σ H1 s1) (r:Vals vs us) (st:Stp α H α1 H1) (sr:SRel D φ α1 H1 τ σ) (mr:MRel D φ α1 H1 μ1) (d:DenL D φ α1 H1 ts vs) (hn:vs.length=n) (p:Post D W φ α1 H1 σ R (k ts μ1))
theorem sub{a:Expr}{f:Sl->Mem->RE T}{k:T->Mem->RE β}(ha:PE X a (rdE D W f))(I:Inv X pins σ H s)(sr:SRel D φ α H τ σ)(mr:MRel D φ α H μ)(p:Post D W φ α H σ R ((f τ μ).bind k)) :
  wpAny (model X.prog X.w) X.A (eval a X.env) (SubP X D W pins σ H φ α τ R k) X.xe s:=by
 refine thn (ha pins s σ H (λv H1=>∃t μ1 α1,Stp α H α1 H1/\SRel D φ α1 H1 τ σ/\MRel D φ α1 H1 μ1/\Den D φ α1 H1 t v/\Post D W φ α1 H1 σ R (k t μ1)) I ⟨φ,α,τ,μ,sr,mr,p.bind.mono λt μ' α' H' st m q v d=>⟨t,μ',α',st,sr.step st,m,d,q⟩⟩) ?_
 rintro u s1 ⟨v,H1,I1,r,t,μ1,α1,h1,h2,h3,h4,h⟩
 exact⟨v,H1,t,μ1,α1,I1,r,h1,h2,h3,h4,h⟩
theorem z1r{a:Expr}{f:Sl->Mem->RE Bool}{k:Bool->Mem->RE β}(ha:PT X a (rdT D W f))(I:Inv X pins σ H s)(sr:SRel D φ α H τ σ)(mr:MRel D φ α H μ)(p:Post D W φ α H σ R ((f τ μ).bind k)) :
  wpAny (model X.prog X.w) X.A (isTrue a X.env (eval a X.env)) (SubT X D W pins σ H φ α τ R k) X.xe s:=by
 refine thn (ha pins s σ H (λb H1=>∃μ1 α1,Stp α H α1 H1/\SRel D φ α1 H1 τ σ/\MRel D φ α1 H1 μ1/\Post D W φ α1 H1 σ R (k b μ1)) I ⟨φ,α,τ,μ,sr,mr,p.bind.mono λb μ' α' H' st m q=>⟨μ',α',st,sr.step st,m,q⟩⟩) ?_
 rintro b s1 ⟨H1,I1,μ1,α1,h1,h2,h3,h⟩
 exact⟨H1,μ1,α1,I1,h1,h2,h3,h⟩
theorem z0b{es:List Expr}{n:Nat}{pos:Pos}{f:Da}{k:List T->Mem->RE β}(ha:PA X es (rdA D W n f))(I:Inv X pins σ H s)(sr:SRel D φ α H τ σ)(mr:MRel D φ α H μ)(p:Post D W φ α H σ R ((f τ μ).bind k)) :
  wpAny (model X.prog X.w) X.A (spliced (backTo pos (starEach es X.env))) (SubA X D W pins σ H φ α τ R n k) X.xe s:=by
 refine thn (ha pos pins s σ H (λvs H1=>∃ts μ1 α1,Stp α H α1 H1/\SRel D φ α1 H1 τ σ/\MRel D φ α1 H1 μ1/\DenL D φ α1 H1 ts vs/\vs.length=n/\Post D W φ α1 H1 σ R (k ts μ1)) I ⟨φ,α,τ,μ,sr,mr,p.bind.mono λts μ' α' H' st m q vs d hn=>⟨ts,μ',α',st,sr.step st,m,d,hn,q⟩⟩) ?_
 rintro us s1 ⟨vs,H1,I1,r,ts,μ1,α1,h1,h2,h3,h4,h5,h⟩
 exact⟨vs,H1,ts,μ1,α1,I1,r,h1,h2,h3,h4,h5,h⟩
abbrev RV(D:DP)(φ:List Addr)(Q:VK):T->Mem->List Addr->Hp->Prop:=λt _ α' H'=>∀v,Den D φ α' H' t v->Q v H'
theorem Post.here{Q:VK}{t:T}{v:V}(p:Post D W φ α H σ (RV D φ Q) (.ok t μ))(mr:MRel D φ α H μ)(d:Den D φ α H t v):Q v H:=p.ok (Stp.refl _ _) mr v d
theorem Post.fresh{Q:VK}{t:T}{v:V}{H':Hp}(p:Post D W φ α H σ (RV D φ Q) (.ok t μ))(mr:MRel D φ α H μ)(sm:vc H H')(d:Den D φ α H' t v):Q v H':=p.ok (Stp.new sm) (mr.new sm) v d
theorem zp{n:Nat}(h:n<=room):n<=sizeLine:=Nat.le_trans h (by unfold room;decide)
theorem zj{α:List Addr}(mr:MRel D φ α H μ){p:Addr}(h:H p=none):p∉φ:=λz=>by
 obtain⟨o,e,_⟩:=mr.phi p z
 rw[h] at e;cases e
theorem zh{α:List Addr}(mr:MRel D φ α H μ){p:Addr}(h:H p=none):p∉α:=λz=>by
 obtain⟨i,hi⟩:=List.mem_iff_getElem?.mp z
 have hl:i<μ.length:=by rw[←mr.len];exact (List.getElem?_eq_some_iff.mp hi).1
 obtain⟨u,e,_⟩:=(mr.ob i p μ[i] hi (by simp[hl])).some
 rw[h] at e;cases e
theorem wA:∀{ts:List T} {ns:List Int} {vs:List V},intsOf ts=some ns->DenL D φ α H ts vs->vs=ns.map V.int
 |[],ns,vs,h,l=>by
  simp[intsOf] at h;subst h
  exact l
 |t::ts,ns,vs,h,l=>by
  obtain⟨v,r,rfl,d,l⟩:=l
  cases t with
  |int i=>
   simp only[intsOf] at h
   cases q:intsOf ts with
   |none=>rw[q] at h;cases h
   |some ms=>
    rw[q] at h;cases h
    rw[wA q l]
    have d:v=.int i:=d
    rw[d];rfl
  |_=>simp[intsOf] at h
theorem ym:OpR X (binaryOp .Add) (λx y H Q=>∃l b xs zs,x=.ref l/\y=.ref b/\Rd H l (.lst xs)/\Rd H b (.lst zs)/\xs.length+zs.length<=sizeLine/\∀p,H p=none->Q (.ref p) (upd H p (.lst (xs++zs)))):=by
 intro pins s σ H x y v u Q I rx ry h
 obtain⟨l,b,xs,zs,rfl,rfl,hH,hB,hz,q⟩:=h
 cases rx
 cases ry
 obtain⟨z,its,n,r,e⟩:=hH.ok I.hok
 obtain⟨z2,its2,n2,r2,e2⟩:=hB.ok I.hok
 refine PySem.P.add_list e e2 ?_ (by rw[List.size_toArray,List.size_toArray,←r.length,←r2.length];exact hz)
 rw[show its.toArray++its2.toArray=(its++its2).toArray by simp]
 exact⟨.ref _,_,I.lnew (t':=s.toks) (r.append r2) (by rw[List.length_append];exact hz),rfl,q _ I.fresh⟩
theorem V8:OpR X (binaryOp .Add) (λx y H Q=>∃a b ys,x=.ref a/\y=.ref b/\SqT X.K H a []/\SqT X.K H b ys/\Q (.ref b) H):=by
 intro pins s σ H x y v u Q I rx ry h
 obtain⟨a,b,ys,rfl,rfl,ha,hb,q⟩:=h
 cases rx
 cases ry
 obtain⟨its,r1,p1,_⟩:=I.tuple ha
 obtain⟨its2,r2,p2,_⟩:=I.tuple hb
 cases r1
 obtain⟨⟨cls,dd,data,sl⟩,ho,hc,n,hd⟩:=id p1
 obtain⟨⟨cls2,dd2,data2,sl2⟩,ho2,hc2,n2,hd2⟩:=id p2
 simp only at hc hd hc2 hd2
 subst hc hd hc2 hd2
 exact concat_meets ⟨_,ho,rfl⟩ ⟨_,ho2,rfl⟩ noFill_tuple_add seq_tuple_add PySem.F.slot_tuple_add PySem.F.entry_tuple_add (PySem.F.args_tuple_add_2 _ _)
  (tuple_addW0 a b #[] its2.toArray n n2 dd dd2 sl sl2 rfl) ⟨ho,ho2,⟨.ref b,H,I,rfl,q⟩⟩
theorem Vb:OpR X (binaryOp .FloorDiv) (rI (λ_ j=>0<j/\j<1606938044258990275541962092341162602522202993782792835301376) λi j=>.int (i / j)):=opI λi j _ _ _ _ _ hc q=>by
 have h1:(0:Int)<j:=hc.1
 have h2:j<1606938044258990275541962092341162602522202993782792835301376:=hc.2
 refine floordiv_int (by omega) (by rw[Int.fdiv_eq_ediv_of_nonneg i (by omega)];exact q) (.inl (PyProof.noPylong_of_log2 ?_))
 refine Nat.lt_of_lt_of_le ((Nat.log2_lt (by omega)).2 (show j.natAbs<2 ^ 200 by omega)) (by decide)
theorem qG{f:Int->Int->Mem->RE T}{x y:T}{Q:VK}(p:Post D W φ α H σ (RV D φ Q) (xK f x y μ)):∃i j,x=.int i/\y=.int j/\Post D W φ α H σ (RV D φ Q) (f i j μ):=by
 unfold xK at p
 split at p
 ·exact⟨_,_,rfl,rfl,p⟩
 ·exact p.elim
theorem XS{op:Operator}{x y:T}{v1 v2:V}{u1 u2:Value}{Q:VK}(I:Inv X pins σ H s)(mr:MRel D φ α H μ)(d1:Den D φ α H x v1)(d2:Den D φ α H y v2)(r1:RelV v1 u1)(r2:RelV v2 u2)
  (p:Post D W φ α H σ (RV D φ Q) (UM op x y μ)):wpAny (model X.prog X.w) X.A (binaryOp op u1 u2) (EP X pins σ Q) X.xe s:=by
 have cat:∀{a b:Addr} {vs ws:List V} {xs ys:List T},Rd H a (.lst vs)->Rd H b (.lst ws)->DenL D φ α H xs vs->DenL D φ α H ys ws->v1=.ref a->v2=.ref b->xs.length+ys.length<=room->Post D W φ α H σ (RV D φ Q) (RE.ok (.lst (xs++ys)) μ)->wpAny (model X.prog X.w) X.A (binaryOp .Add u1 u2) (EP X pins σ Q) X.xe s:=λ{a b vs ws xs ys} q1 q2 l1 l2 e1 e2 h p=>by
  subst e1 e2
  refine ym pins s σ H _ _ _ _ Q I r1 r2 ⟨a,b,vs,ws,rfl,rfl,q1,q2,by rw[←l1.length,←l2.length];exact zp h,λz hz=>?_⟩
  have sm:=zd (o:=.lst (vs++ws)) hz
  exact p.fresh mr sm ⟨z,_,rfl,zj mr hz,zh mr hz,.inl z7,(l1.step (Stp.new sm)).append (l2.step (Stp.new sm))⟩
 cases op with
 |Add=>
  replace p:Post D W φ α H σ (RV D φ Q) (Uo x y μ):=p
  unfold Uo at p
  split at p
  ·cases d1;cases d2
   exact YT pins s σ H _ _ _ _ Q I r1 r2 ⟨_,_,rfl,rfl,p.here mr rfl⟩
  ·cases d1;cases d2
   obtain⟨h,p⟩:=p.grd
   exact uG pins s σ H _ _ _ _ Q I r1 r2 ⟨_,_,rfl,rfl,zp h,p.here mr rfl⟩
  ·obtain⟨h,p⟩:=p.grd
   obtain⟨a,vs,rfl,n1,n2,q1,l1⟩:=d1
   obtain⟨b,ws,rfl,m1,m2,q2,l2⟩:=d2
   refine ym pins s σ H _ _ _ _ Q I r1 r2 ⟨a,b,vs,ws,rfl,rfl,q1,q2,by rw[←l1.length,←l2.length];exact zp h,λz hz=>?_⟩
   have sm:=zd (o:=.lst (vs++ws)) hz
   exact p.fresh mr sm ⟨z,_,rfl,zj mr hz,zh mr hz,.inl z7,(l1.step (Stp.new sm)).append (l2.step (Stp.new sm))⟩
  ·rename_i xs ys
   obtain⟨h,p⟩:=p.grd
   ·obtain⟨a,vs,rfl,n1,n2,q1,l1⟩:=d1
    obtain⟨b,ws,rfl,m1,m2,q2,l2⟩:=d2
    cases vs with
    |nil=>
     cases xs with
     |cons x xs=>obtain⟨_,_,e,_⟩:=l1;cases e
     |nil=>exact V8 pins s σ H _ _ _ _ Q I r1 r2 ⟨a,b,ws,rfl,rfl,.inl q1,.inl q2,p.here mr ⟨b,ws,rfl,m1,m2,q2,l2⟩⟩
    |cons v vs=>
     refine Kg pins s σ H _ _ _ _ Q I r1 r2 ⟨a,b,v::vs,ws,rfl,rfl,.inl q1,.inl q2,by simp,by rw[←l1.length,←l2.length];exact zp h,λhw=>?_,λhw z hz=>?_⟩
     ·subst hw
      cases ys with
      |cons y ys=>obtain⟨_,_,e,_⟩:=l2;cases e
      |nil=>
       rw[List.append_nil] at p
       exact p.here mr ⟨a,v::vs,rfl,n1,n2,q1,l1⟩
     ·have sm:=zd (o:=.tup (v::vs++ws)) hz
      exact p.fresh mr sm ⟨z,_,rfl,zj mr hz,zh mr hz,.inl z7,(l1.step (Stp.new sm)).append (l2.step (Stp.new sm))⟩
  ·obtain⟨xs,hi,p⟩:=p.ex1
   obtain⟨h,p⟩:=Post.grd p
   obtain⟨a,hi',rfl⟩:=d1
   obtain⟨vs,q1,l1⟩:=mr.ob _ a _ hi' hi
   obtain⟨b,ws,rfl,m1,m2,q2,l2⟩:=d2
   exact cat (.inl q1) q2 l1 l2 rfl rfl h p
  ·obtain⟨ys,hi,p⟩:=p.ex1
   obtain⟨h,p⟩:=Post.grd p
   obtain⟨a,hi',rfl⟩:=d2
   obtain⟨vs,q1,l1⟩:=mr.ob _ a _ hi' hi
   obtain⟨b,ws,rfl,m1,m2,q2,l2⟩:=d1
   exact cat q2 (.inl q1) l2 l1 rfl rfl h p
  ·obtain⟨pr,hi,p⟩:=p.ex1
   obtain⟨h,p⟩:=Post.grd p
   obtain⟨a,hi',rfl⟩:=d1
   obtain⟨vs,q1,l1⟩:=mr.ob _ a _ hi' hi.1
   obtain⟨b,hj',rfl⟩:=d2
   obtain⟨ws,q2,l2⟩:=mr.ob _ b _ hj' hi.2
   exact cat (.inl q1) (.inl q2) l1 l2 rfl rfl h p
  ·exact p.elim
 |Sub=>
  obtain⟨i,j,rfl,rfl,p⟩:=qG p
  cases d1;cases d2
  exact Y6 pins s σ H _ _ _ _ Q I r1 r2 ⟨_,_,rfl,rfl,p.here mr rfl⟩
 |Mult=>
  obtain⟨i,j,rfl,rfl,p⟩:=qG p
  cases d1;cases d2
  obtain⟨h,p⟩:=p.grd
  exact U0 pins s σ H _ _ _ _ Q I r1 r2 ⟨_,_,rfl,rfl,by simpa[CMul,big] using h,p.here mr rfl⟩
 |FloorDiv=>
  obtain⟨i,j,rfl,rfl,p⟩:=qG p
  cases d1;cases d2
  obtain⟨h,p⟩:=p.grd
  exact Vb pins s σ H _ _ _ _ Q I r1 r2 ⟨_,_,rfl,rfl,h,p.here mr rfl⟩
 |Mod=>
  obtain⟨i,j,rfl,rfl,p⟩:=qG p
  cases d1;cases d2
  obtain⟨h,p⟩:=p.grd
  exact Y9 pins s σ H _ _ _ _ Q I r1 r2 ⟨_,_,rfl,rfl,h,p.here mr rfl⟩
 |Pow=>
  obtain⟨i,j,rfl,rfl,p⟩:=qG p
  cases d1;cases d2
  obtain⟨h,p⟩:=p.grd
  exact Yj pins s σ H _ _ _ _ Q I r1 r2 ⟨_,_,rfl,rfl,⟨h.1,h.2.1,by simpa using h.2.2⟩,p.here mr rfl⟩
 |RShift=>
  obtain⟨i,j,rfl,rfl,p⟩:=qG p
  cases d1;cases d2
  obtain⟨h,p⟩:=p.grd
  exact XY pins s σ H _ _ _ _ Q I r1 r2 ⟨_,_,rfl,rfl,h,p.here mr rfl⟩
 |BitAnd=>
  obtain⟨i,j,rfl,rfl,p⟩:=qG p
  cases d1;cases d2
  exact Uw pins s σ H _ _ _ _ Q I r1 r2 ⟨_,_,rfl,rfl,p.here mr rfl⟩
 |_=>exact (show Post D W φ α H σ (RV D φ Q) .st from p).elim
end
section
section
variable {D:DP}{φ α:List Addr}{H:Hp}
theorem Rd.inj{a:Addr}{u w:HO}(hu:∀o z,u≠.frz o z)(hw:∀o z,w≠.frz o z)(r:Rd H a u)(q:Rd H a w):u=w:=by
 rcases r with r|⟨o,r⟩<;>rcases q with q|⟨o',q⟩<;>rw[r] at q
 ·exact Option.some.inj q
 ·exact absurd (Option.some.inj q) (hu _ _)
 ·exact absurd (Option.some.inj q).symm (hw _ _)
 ·injection Option.some.inj q
mutual
theorem jY:∀{t u:T} {v:V} {k:Bool},Den D φ α H t v->Den D φ α H u v->eqT t u=some k->k=true
 |.int i,u,_,k,h1,h2,e=>by
  have h1:_=V.int i:=h1
  subst h1
  cases u with
  |int j=>have h2:V.int i=V.int j:=h2;injection h2 with h2;subst h2;rw[←Option.some.inj e];simp
  |bl b=>have h2:V.int i=V.bl b:=h2;cases h2
  |str b=>have h2:V.int i=V.str b:=h2;cases h2
  |non=>have h2:V.int i=V.non:=h2;cases h2
  |tup b=>obtain⟨_,_,h2,_⟩:=h2;cases h2
  |lst b=>obtain⟨_,_,h2,_⟩:=h2;cases h2
  |_=>cases e
 |.bl i,u,_,k,h1,h2,e=>by
  have h1:_=V.bl i:=h1
  subst h1
  cases u with
  |bl j=>have h2:V.bl i=V.bl j:=h2;injection h2 with h2;subst h2;rw[←Option.some.inj e];simp
  |int b=>have h2:V.bl i=V.int b:=h2;cases h2
  |str b=>have h2:V.bl i=V.str b:=h2;cases h2
  |non=>have h2:V.bl i=V.non:=h2;cases h2
  |tup b=>obtain⟨_,_,h2,_⟩:=h2;cases h2
  |lst b=>obtain⟨_,_,h2,_⟩:=h2;cases h2
  |_=>cases e
 |.str i,u,_,k,h1,h2,e=>by
  have h1:_=V.str i:=h1
  subst h1
  cases u with
  |str j=>have h2:V.str i=V.str j:=h2;injection h2 with h2;subst h2;rw[←Option.some.inj e];simp
  |int b=>have h2:V.str i=V.int b:=h2;cases h2
  |bl b=>have h2:V.str i=V.bl b:=h2;cases h2
  |non=>have h2:V.str i=V.non:=h2;cases h2
  |tup b=>obtain⟨_,_,h2,_⟩:=h2;cases h2
  |lst b=>obtain⟨_,_,h2,_⟩:=h2;cases h2
  |_=>cases e
 |.non,u,_,k,h1,h2,e=>by
  have h1:_=V.non:=h1
  subst h1
  cases u with
  |non=>exact (Option.some.inj e).symm
  |int b=>have h2:V.non=V.int b:=h2;cases h2
  |bl b=>have h2:V.non=V.bl b:=h2;cases h2
  |str b=>have h2:V.non=V.str b:=h2;cases h2
  |tup b=>obtain⟨_,_,h2,_⟩:=h2;cases h2
  |lst b=>obtain⟨_,_,h2,_⟩:=h2;cases h2
  |_=>cases e
 |.tup ts,u,_,k,h1,h2,e=>by
  obtain⟨a,xs,rfl,_,_,r,l⟩:=h1
  cases u with
  |tup us=>
   obtain⟨b,ys,e2,_,_,r',l'⟩:=h2
   cases e2
   have:=Rd.inj (by intro _ _ z;cases z) (by intro _ _ z;cases z) r r'
   injection this with this
   subst this
   exact vz l l' e
  |lst us=>
   obtain⟨b,ys,e2,_,_,r',l'⟩:=h2
   cases e2
   have:=Rd.inj (by intro _ _ z;cases z) (by intro _ _ z;cases z) r r'
   cases this
  |int b=>have h2:V.ref a=V.int b:=h2;cases h2
  |bl b=>have h2:V.ref a=V.bl b:=h2;cases h2
  |str b=>have h2:V.ref a=V.str b:=h2;cases h2
  |non=>have h2:V.ref a=V.non:=h2;cases h2
  |_=>cases e
 |.lst ts,u,_,k,h1,h2,e=>by
  obtain⟨a,xs,rfl,_,_,r,l⟩:=h1
  cases u with
  |lst us=>
   obtain⟨b,ys,e2,_,_,r',l'⟩:=h2
   cases e2
   have:=Rd.inj (by intro _ _ z;cases z) (by intro _ _ z;cases z) r r'
   injection this with this
   subst this
   exact vz l l' e
  |tup us=>
   obtain⟨b,ys,e2,_,_,r',l'⟩:=h2
   cases e2
   have:=Rd.inj (by intro _ _ z;cases z) (by intro _ _ z;cases z) r r'
   cases this
  |int b=>have h2:V.ref a=V.int b:=h2;cases h2
  |bl b=>have h2:V.ref a=V.bl b:=h2;cases h2
  |str b=>have h2:V.ref a=V.str b:=h2;cases h2
  |non=>have h2:V.ref a=V.non:=h2;cases h2
  |_=>cases e
 |.obj _ _,_,_,_,_,_,e=>by cases e
 |.mut _,_,_,_,_,_,e=>by cases e
 |.exc _ _,_,_,_,_,_,e=>by cases e
 |.dic _,_,_,_,_,_,e=>by cases e
 |.clo _ _,_,_,_,_,_,e=>by cases e
theorem vz:∀{ts us:List T} {vs:List V} {k:Bool},DenL D φ α H ts vs->DenL D φ α H us vs->eqL ts us=some k->k=true
 |[],[],_,k,_,_,e=>by simpa[eqL] using e.symm
 |[],_::_,_,k,h1,h2,e=>by
  have h1:_=[]:=h1
  obtain⟨_,_,h2,_⟩:=h2
  rw[h1] at h2;cases h2
 |_::_,[],_,k,h1,h2,e=>by
  have h2:_=[]:=h2
  obtain⟨_,_,h1,_⟩:=h1
  rw[h2] at h1;cases h1
 |t::ts,u::us,_,k,h1,h2,e=>by
  obtain⟨v,r,rfl,a1,b1⟩:=h1
  obtain⟨v',r',q,a2,b2⟩:=h2
  injection q with q1 q2
  subst q1 q2
  cases h:eqT t u with
  |none=>simp[eqL,h] at e
  |some x=>
   cases h':eqL ts us with
   |none=>simp[eqL,h,h'] at e
   |some y=>
    have e1:=jY a1 a2 h
    have e2:=vz b1 b2 h'
    subst e1 e2
    simpa[eqL,h,h'] using e.symm
end
end
section
variable {X:Cx}{D:DP}{pins:List (Addr×Obj)}{s:Shared}{σ:St}{H:Hp}{φ α:List Addr}
theorem jM:∀{ts us:List T} {k:Bool},eqL ts us=some k->(∀j (h1:j<ts.length) (h2:j<us.length),∃b,eqT ts[j] us[j]=some b)/\
  k=((List.range (min ts.length us.length)).all (λj=>match ts[j]?,us[j]? with|some t,some u=>(eqT t u).getD false|_,_=>false)&&ts.length == us.length)
 |[],[],k,e=>by
  simp[eqL] at e;subst e
  exact⟨λj h1=>by simp at h1,by simp⟩
 |[],u::us,k,e=>by
  simp[eqL] at e;subst e
  exact⟨λj h1=>by simp at h1,by simp⟩
 |t::ts,[],k,e=>by
  simp[eqL] at e;subst e
  exact⟨λj h1 h2=>by simp at h2,by simp⟩
 |t::ts,u::us,k,e=>by
  cases h:eqT t u with
  |none=>simp[eqL,h] at e
  |some x=>
   cases h':eqL ts us with
   |none=>simp[eqL,h,h'] at e
   |some y=>
    obtain⟨g,ih⟩:=jM h'
    simp[eqL,h,h'] at e
    subst e
    refine⟨λj h1 h2=>?_,?_⟩
    ·cases j with
     |zero=>exact⟨x,h⟩
     |succ j=>exact g j (by simpa using h1) (by simpa using h2)
    ·rw[ih]
     have e1:min (t::ts).length (u::us).length=min ts.length us.length+1:=by simp[Nat.succ_min_succ]
     rw[e1,List.range_succ_eq_map,List.all_cons,List.all_map]
     simp only[List.getElem?_cons_zero,h,Option.getD_some,Function.comp_def,List.getElem?_cons_succ,List.length_cons]
     rw[Bool.and_assoc]
     congr 2
     simp
theorem in1_units(A:Around):A.in1.units=A.units+1:=by first|rfl|simp[Around.in1,Around.units]
theorem jC(I:Inv X pins σ H s){i:Int}{u:T}{v w:V}{a b:Value}{k:Bool}{A:Around}(h1:Den D φ α H (.int i) v)(h2:Den D φ α H u w)(r1:RelV v a)(r2:RelV w b)(e:eqT (.int i) u=some k)(hu:A.units+vC (.int i)+1<cLine):SeqAt.EqAt A s a b k:=by
 have h1:_=V.int i:=h1
 subst h1
 obtain⟨t1,rfl⟩:=r1
 cases u with
 |int j=>have h2:w=V.int j:=h2;subst h2;obtain⟨t2,rfl⟩:=r2;cases Option.some.inj e;exact SeqAt.EqAt.int_int _ _ _ _
 |bl j=>have h2:w=V.bl j:=h2;subst h2;cases r2;cases Option.some.inj e;exact SeqAt.EqAt.int_bool _ _ _
 |str j=>have h2:w=V.str j:=h2;subst h2;obtain⟨t2,rfl⟩:=r2;cases Option.some.inj e;exact SeqAt.EqAt.int_str _ _ _ _
 |non=>have h2:w=V.non:=h2;subst h2;cases r2;cases Option.some.inj e;exact SeqAt.EqAt.int_none _ _
 |tup ys=>obtain⟨c,xs,rfl,_,_,r,_⟩:=h2;cases r2;obtain⟨its,_,p,_⟩:=I.tuple (.inl r);cases Option.some.inj e;exact SeqAt.EqAt.int_tuple _ _ p (by omega)
 |lst ys=>obtain⟨c,xs,rfl,_,_,r,_⟩:=h2;cases r2;obtain⟨its,_,p,_⟩:=I.list (.inl r);cases Option.some.inj e;exact SeqAt.EqAt.int_list _ _ p.isList (by omega)
 |_=>cases e
theorem K2(I:Inv X pins σ H s){i:Bool}{u:T}{v w:V}{a b:Value}{k:Bool}{A:Around}(h1:Den D φ α H (.bl i) v)(h2:Den D φ α H u w)(r1:RelV v a)(r2:RelV w b)(e:eqT (.bl i) u=some k)(hu:A.units+vC (.bl i)+1<cLine):SeqAt.EqAt A s a b k:=by
 have h1:_=V.bl i:=h1
 subst h1
 cases r1
 cases u with
 |int j=>have h2:w=V.int j:=h2;subst h2;obtain⟨t2,rfl⟩:=r2;cases Option.some.inj e;exact SeqAt.EqAt.bool_int _ _ _
 |bl j=>have h2:w=V.bl j:=h2;subst h2;cases r2;cases Option.some.inj e;exact SeqAt.EqAt.bool_bool _ _
 |str j=>have h2:w=V.str j:=h2;subst h2;obtain⟨t2,rfl⟩:=r2;cases Option.some.inj e;exact SeqAt.EqAt.bool_str _ _ _
 |non=>have h2:w=V.non:=h2;subst h2;cases r2;cases Option.some.inj e;exact SeqAt.EqAt.bool_none _
 |tup ys=>obtain⟨c,xs,rfl,_,_,r,_⟩:=h2;cases r2;obtain⟨its,_,p,_⟩:=I.tuple (.inl r);cases Option.some.inj e;exact SeqAt.EqAt.bool_tuple _ p (by omega)
 |lst ys=>obtain⟨c,xs,rfl,_,_,r,_⟩:=h2;cases r2;obtain⟨its,_,p,_⟩:=I.list (.inl r);cases Option.some.inj e;exact SeqAt.EqAt.bool_list _ p.isList (by omega)
 |_=>cases e
theorem V3(I:Inv X pins σ H s){i:Str}{u:T}{v w:V}{a b:Value}{k:Bool}{A:Around}(h1:Den D φ α H (.str i) v)(h2:Den D φ α H u w)(r1:RelV v a)(r2:RelV w b)(e:eqT (.str i) u=some k)(hu:A.units+vC (.str i)+1<cLine):SeqAt.EqAt A s a b k:=by
 have h1:_=V.str i:=h1
 subst h1
 obtain⟨t1,rfl⟩:=r1
 cases u with
 |int j=>have h2:w=V.int j:=h2;subst h2;obtain⟨t2,rfl⟩:=r2;cases Option.some.inj e;exact SeqAt.EqAt.str_int _ _ _ _
 |bl j=>have h2:w=V.bl j:=h2;subst h2;cases r2;cases Option.some.inj e;exact SeqAt.EqAt.str_bool _ _ _
 |str j=>have h2:w=V.str j:=h2;subst h2;obtain⟨t2,rfl⟩:=r2;cases Option.some.inj e;exact SeqAt.EqAt.str_str _ _ _ _
 |non=>have h2:w=V.non:=h2;subst h2;cases r2;cases Option.some.inj e;exact SeqAt.EqAt.str_none _ _
 |tup ys=>obtain⟨c,xs,rfl,_,_,r,_⟩:=h2;cases r2;obtain⟨its,_,p,_⟩:=I.tuple (.inl r);cases Option.some.inj e;exact SeqAt.EqAt.str_tuple _ _ p (by omega)
 |lst ys=>obtain⟨c,xs,rfl,_,_,r,_⟩:=h2;cases r2;obtain⟨its,_,p,_⟩:=I.list (.inl r);cases Option.some.inj e;exact SeqAt.EqAt.str_list _ _ p.isList (by omega)
 |_=>cases e
theorem Vc(I:Inv X pins σ H s){u:T}{v w:V}{a b:Value}{k:Bool}{A:Around}(h1:Den D φ α H .non v)(h2:Den D φ α H u w)(r1:RelV v a)(r2:RelV w b)(e:eqT .non u=some k)(hu:A.units+vC .non+1<cLine):SeqAt.EqAt A s a b k:=by
 have h1:_=V.non:=h1
 subst h1
 cases r1
 cases u with
 |int j=>have h2:w=V.int j:=h2;subst h2;obtain⟨t2,rfl⟩:=r2;cases Option.some.inj e;exact SeqAt.EqAt.none_int _ _
 |bl j=>have h2:w=V.bl j:=h2;subst h2;cases r2;cases Option.some.inj e;exact SeqAt.EqAt.none_bool _
 |str j=>have h2:w=V.str j:=h2;subst h2;obtain⟨t2,rfl⟩:=r2;cases Option.some.inj e;exact SeqAt.EqAt.none_str _ _
 |non=>have h2:w=V.non:=h2;subst h2;cases r2;cases Option.some.inj e;exact SeqAt.EqAt.same _
 |tup ys=>obtain⟨c,xs,rfl,_,_,r,_⟩:=h2;cases r2;obtain⟨its,_,p,_⟩:=I.tuple (.inl r);cases Option.some.inj e;exact SeqAt.EqAt.none_tuple p (by omega)
 |lst ys=>obtain⟨c,xs,rfl,_,_,r,_⟩:=h2;cases r2;obtain⟨its,_,p,_⟩:=I.list (.inl r);cases Option.some.inj e;exact SeqAt.EqAt.none_list p.isList (by omega)
 |_=>cases e
theorem uO(I:Inv X pins σ H s){ts:List T}{u:T}{v0 w:V}{a b:Value}{k:Bool}{A:Around}(hn:∀us,u≠.tup us)(h1:Den D φ α H (.tup ts) v0)(h2:Den D φ α H u w)(r1:RelV v0 a)(r2:RelV w b)(e:eqT (.tup ts) u=some k)(hu:A.units+vC (.tup ts)+1<cLine):SeqAt.EqAt A s a b k:=by
 cases u with
 |tup us=>exact absurd rfl (hn us)
 |lst us=>
  obtain⟨c,xs,rfl,_,_,r,l⟩:=h1
  obtain⟨d,ys,rfl,_,_,r',l'⟩:=h2
  cases r1;cases r2
  obtain⟨_,_,p,_⟩:=I.tuple (.inl r)
  obtain⟨_,_,p',_⟩:=I.list (.inl r')
  cases Option.some.inj e
  exact SeqAt.EqAt.tuple_list p p'.isList (by omega)
 |int j=>have h2:w=V.int j:=h2;subst h2;obtain⟨t2,rfl⟩:=r2;obtain⟨c,xs,rfl,_,_,r,_⟩:=h1;cases r1;obtain⟨its,_,p,_⟩:=I.tuple (.inl r);cases Option.some.inj e;exact SeqAt.EqAt.tuple_int _ _ p (by omega)
 |bl j=>have h2:w=V.bl j:=h2;subst h2;cases r2;obtain⟨c,xs,rfl,_,_,r,_⟩:=h1;cases r1;obtain⟨its,_,p,_⟩:=I.tuple (.inl r);cases Option.some.inj e;exact SeqAt.EqAt.tuple_bool _ p (by omega)
 |str j=>have h2:w=V.str j:=h2;subst h2;obtain⟨t2,rfl⟩:=r2;obtain⟨c,xs,rfl,_,_,r,_⟩:=h1;cases r1;obtain⟨its,_,p,_⟩:=I.tuple (.inl r);cases Option.some.inj e;exact SeqAt.EqAt.tuple_str _ _ p (by omega)
 |non=>have h2:w=V.non:=h2;subst h2;cases r2;obtain⟨c,xs,rfl,_,_,r,_⟩:=h1;cases r1;obtain⟨its,_,p,_⟩:=I.tuple (.inl r);cases Option.some.inj e;exact SeqAt.EqAt.tuple_none p (by omega)
 |_=>cases e
theorem Z6(I:Inv X pins σ H s){ts:List T}{u:T}{v0 w:V}{a b:Value}{k:Bool}{A:Around}(hn:∀us,u≠.lst us)(h1:Den D φ α H (.lst ts) v0)(h2:Den D φ α H u w)(r1:RelV v0 a)(r2:RelV w b)(e:eqT (.lst ts) u=some k)(hu:A.units+vC (.lst ts)+1<cLine):SeqAt.EqAt A s a b k:=by
 cases u with
 |lst us=>exact absurd rfl (hn us)
 |tup us=>
  obtain⟨c,xs,rfl,_,_,r,l⟩:=h1
  obtain⟨d,ys,rfl,_,_,r',l'⟩:=h2
  cases r1;cases r2
  obtain⟨_,_,p,_⟩:=I.list (.inl r)
  obtain⟨_,_,p',_⟩:=I.tuple (.inl r')
  cases Option.some.inj e
  exact SeqAt.EqAt.list_tuple p.isList p' (by omega)
 |int j=>have h2:w=V.int j:=h2;subst h2;obtain⟨t2,rfl⟩:=r2;obtain⟨c,xs,rfl,_,_,r,_⟩:=h1;cases r1;obtain⟨its,_,p,_⟩:=I.list (.inl r);cases Option.some.inj e;exact SeqAt.EqAt.list_int _ _ p.isList (by omega)
 |bl j=>have h2:w=V.bl j:=h2;subst h2;cases r2;obtain⟨c,xs,rfl,_,_,r,_⟩:=h1;cases r1;obtain⟨its,_,p,_⟩:=I.list (.inl r);cases Option.some.inj e;exact SeqAt.EqAt.list_bool _ p.isList (by omega)
 |str j=>have h2:w=V.str j:=h2;subst h2;obtain⟨t2,rfl⟩:=r2;obtain⟨c,xs,rfl,_,_,r,_⟩:=h1;cases r1;obtain⟨its,_,p,_⟩:=I.list (.inl r);cases Option.some.inj e;exact SeqAt.EqAt.list_str _ _ p.isList (by omega)
 |non=>have h2:w=V.non:=h2;subst h2;cases r2;obtain⟨c,xs,rfl,_,_,r,_⟩:=h1;cases r1;obtain⟨its,_,p,_⟩:=I.list (.inl r);cases Option.some.inj e;exact SeqAt.EqAt.list_none p.isList (by omega)
 |_=>cases e
noncomputable def EqN (D:DP)(φ α:List Addr)(H:Hp)(s:Shared)(n:Nat):Prop:=∀(t u:T) (v w:V) (a b:Value) (k:Bool) (A:Around),vC t<n->Den D φ α H t v->Den D φ α H u w->RelV v a->RelV w b->eqT t u=some k->A.units+vC t+1<cLine->SeqAt.EqAt A s a b k
theorem ql{n:Nat}(ih:EqN D φ α H s n):∀{ts us:List T} {xs ys:List V} {its its2:List Value} {A:Around},qo ts<n->DenL D φ α H ts xs->DenL D φ α H us ys->Vals xs its->Vals ys its2->A.units+qo ts+1<cLine->
  ∀(j:Nat) (h1:j<its.length) (h2:j<its2.length),(∀(g1:j<ts.length) (g2:j<us.length),∃b,eqT ts[j] us[j]=some b)->SeqAt.EqAt A s its[j] its2[j] (match ts[j]?,us[j]? with|some t,some u=>(eqT t u).getD false|_,_=>false)
 |[],_,xs,_,its,_,A,_,l,_,rv,_,_,j,h1,_,_=>by
  have l:xs=[]:=l
  subst l
  cases rv
  simp at h1
 |t::ts,us,xs,ys,its,its2,A,hd,l,l',rv,rv',hu,j,h1,h2,g=>by
  obtain⟨v,r,rfl,d1,l⟩:=l
  cases rv with
  | @cons _ u0 _ us0 r0 rv=>
  cases us with
  |nil=>
   have l':ys=[]:=l'
   subst l'
   cases rv'
   simp at h2
  |cons u us=>
   obtain⟨w,r',rfl,d2,l'⟩:=l'
   cases rv' with
   | @cons _ u0' _ us0' r0' rv'=>
   simp only[qo] at hu hd
   cases j with
   |zero=>
    obtain⟨b,hb⟩:=g (by simp) (by simp)
    have hb':eqT t u=some b:=by simpa using hb
    simp only[List.getElem?_cons_zero,hb',Option.getD_some,List.getElem_cons_zero]
    exact ih _ _ _ _ _ _ _ _ (by omega) d1 d2 r0 r0' hb' (by omega)
   |succ j=>
    simp only[List.getElem?_cons_succ,List.getElem_cons_succ]
    exact ql ih (by omega) l l' rv rv' (by omega) j (by simpa using h1) (by simpa using h2) λg1 g2=>by
     obtain⟨b,hb⟩:=g (by simpa using g1) (by simpa using g2)
     exact⟨b,by simpa using hb⟩
theorem kG(I:Inv X pins σ H s){n:Nat}(ih:EqN D φ α H s n){ts us:List T}{xs ys:List V}{c d:Addr}{k:Bool}{A:Around}(hd:qo ts<n)(l:DenL D φ α H ts xs)(l':DenL D φ α H us ys)(r:Rd H c (.tup xs))(r':Rd H d (.tup ys))(e:eqL ts us=some k)(hu:A.units+qo ts+2<cLine):SeqAt.RcAt A s (.ref c) (.ref d) k:=by
 obtain⟨its,rv,p,_⟩:=I.tuple (.inl r)
 obtain⟨its2,rv',p',_⟩:=I.tuple (.inl r')
 obtain⟨g,rfl⟩:=jM e
 have h1:ts.length=its.length:=l.length.trans rv.length
 have h2:us.length=its2.length:=l'.length.trans rv'.length
 have:=SeqAt.RcAt.tuples (A:=A) (e:=λj=>match ts[j]?,us[j]? with|some t,some u=>(eqT t u).getD false|_,_=>false) p p' (by omega) λj q1 q2=>by
  have:=ql (A:=A.in1) ih hd l l' rv rv' (by rw[in1_units];omega) j (by simpa using q1) (by simpa using q2) λg1 g2=>g j g1 g2
  simpa using this
 simpa[h1,h2] using this
theorem kR(I:Inv X pins σ H s){n:Nat}(ih:EqN D φ α H s n){ts us:List T}{xs ys:List V}{c d:Addr}{k:Bool}{A:Around}(hd:qo ts<n)(l:DenL D φ α H ts xs)(l':DenL D φ α H us ys)(r:Rd H c (.lst xs))(r':Rd H d (.lst ys))(e:eqL ts us=some k)(hu:A.units+qo ts+2<cLine):SeqAt.RcAt A s (.ref c) (.ref d) k:=by
 obtain⟨its,rv,p,_⟩:=I.list (.inl r)
 obtain⟨its2,rv',p',_⟩:=I.list (.inl r')
 obtain⟨g,rfl⟩:=jM e
 have h1:ts.length=its.length:=l.length.trans rv.length
 have h2:us.length=its2.length:=l'.length.trans rv'.length
 by_cases hl:ts.length=us.length
 ·have:=SeqAt.RcAt.lists (A:=A) (e:=λj=>match ts[j]?,us[j]? with|some t,some u=>(eqT t u).getD false|_,_=>false) p.isList p'.isList (by simp;omega) (by omega) λj q1 q2=>by
   have:=ql (A:=A.in1) ih hd l l' rv rv' (by rw[in1_units];omega) j (by simpa using q1) (by simpa using q2) λg1 g2=>g j g1 g2
   simpa using this
  have e2:min ts.length us.length=its.length:=by omega
  have e3:(ts.length == us.length)=true:=by simpa using hl
  rw[e2,e3,Bool.and_true]
  simpa using this
 ·have e3:(ts.length == us.length)=false:=by simpa using hl
  rw[e3,Bool.and_false]
  exact SeqAt.RcAt.lists_lengths p.isList p'.isList (by simp;omega) (by omega)
theorem yi(I:Inv X pins σ H s):∀n,EqN D φ α H s n
 |0=>λ_ _ _ _ _ _ _ _ hn=>absurd hn (by omega)
 |n+1=>λt u v w a b k A hn h1 h2 r1 r2 e hu=>by
  have ih:=yi I n
  cases t with
  |int i=>exact jC I h1 h2 r1 r2 e hu
  |bl i=>exact K2 I h1 h2 r1 r2 e hu
  |str i=>exact V3 I h1 h2 r1 r2 e hu
  |non=>exact Vc I h1 h2 r1 r2 e hu
  |tup ts=>
   cases u with
   |tup us=>
    have hs:=λ(q:w=v)=>jY h1 (q▸h2) e
    obtain⟨c,xs,rfl,_,_,r,l⟩:=h1
    obtain⟨d,ys,rfl,_,_,r',l'⟩:=h2
    cases r1;cases r2
    by_cases hcd:c=d
    ·subst hcd
     rw[hs rfl]
     exact SeqAt.EqAt.same _
    ·refine SeqAt.EqAt.of_refs hcd ?_
     exact kG I ih (by simp only[vC] at hn;omega) l l' r r' e (by simp only[vC] at hu;omega)
   |_=>exact uO I (by intro _ z;cases z) h1 h2 r1 r2 e hu
  |lst ts=>
   cases u with
   |lst us=>
    have hs:=λ(q:w=v)=>jY h1 (q▸h2) e
    obtain⟨c,xs,rfl,_,_,r,l⟩:=h1
    obtain⟨d,ys,rfl,_,_,r',l'⟩:=h2
    cases r1;cases r2
    by_cases hcd:c=d
    ·subst hcd
     rw[hs rfl]
     exact SeqAt.EqAt.same _
    ·refine SeqAt.EqAt.of_refs hcd ?_
     exact kR I ih (by simp only[vC] at hn;omega) l l' r r' e (by simp only[vC] at hu;omega)
   |_=>exact Z6 I (by intro _ z;cases z) h1 h2 r1 r2 e hu
  |_=>cases e
theorem Jr(I:Inv X pins σ H s){ts us:List T}{xs ys:List V}{c d:Addr}{k:Bool}{A:Around}(l:DenL D φ α H ts xs)(l':DenL D φ α H us ys)(r:Rd H c (.tup xs))(r':Rd H d (.tup ys))(e:eqL ts us=some k)(hu:A.units+qo ts+2<cLine):SeqAt.RcAt A s (.ref c) (.ref d) k:=kG I (yi I _) (Nat.lt_succ_self _) l l' r r' e hu
theorem Wn(I:Inv X pins σ H s){ts us:List T}{xs ys:List V}{c d:Addr}{k:Bool}{A:Around}(l:DenL D φ α H ts xs)(l':DenL D φ α H us ys)(r:Rd H c (.lst xs))(r':Rd H d (.lst ys))(e:eqL ts us=some k)(hu:A.units+qo ts+2<cLine):SeqAt.RcAt A s (.ref c) (.ref d) k:=kR I (yi I _) (Nat.lt_succ_self _) l l' r r' e hu
theorem k6(I:Inv X pins σ H s):∀{ts us:List T} {xs ys:List V} {its its2:List Value} {A:Around},DenL D φ α H ts xs->DenL D φ α H us ys->Vals xs its->Vals ys its2->A.units+qo ts+1<cLine->
  ∀(j:Nat) (h1:j<its.length) (h2:j<its2.length),(∀(g1:j<ts.length) (g2:j<us.length),∃b,eqT ts[j] us[j]=some b)->SeqAt.EqAt A s its[j] its2[j] (match ts[j]?,us[j]? with|some t,some u=>(eqT t u).getD false|_,_=>false):=λl l' rv rv' hu=>ql (yi I _) (Nat.lt_succ_self _) l l' rv rv' hu
theorem WD(I:Inv X pins σ H s){ts us:List T}{xs ys:List V}{c d:Addr}{k:Bool}{A:Around}(l:DenL D φ α H ts xs)(l':DenL D φ α H us ys)(r:Rd H c (.tup xs))(r':Rd H d (.tup ys))(e:eqL ts us=some k)(hu:A.units+qo ts+2<cLine):SeqAt.RcNeAt A s (.ref c) (.ref d) (!k):=by
 obtain⟨its,rv,p,_⟩:=I.tuple (.inl r)
 obtain⟨its2,rv',p',_⟩:=I.tuple (.inl r')
 obtain⟨g,rfl⟩:=jM e
 have h1:ts.length=its.length:=l.length.trans rv.length
 have h2:us.length=its2.length:=l'.length.trans rv'.length
 have:=SeqAt.RcNeAt.tuples (A:=A) (e:=λj=>match ts[j]?,us[j]? with|some t,some u=>(eqT t u).getD false|_,_=>false) p p' (by omega) λj q1 q2=>by
  have:=k6 (A:=A.in1) I l l' rv rv' (by rw[in1_units];omega) j (by simpa using q1) (by simpa using q2) λg1 g2=>g j g1 g2
  simpa using this
 simpa[h1,h2] using this
theorem Vq(I:Inv X pins σ H s){ts us:List T}{xs ys:List V}{c d:Addr}{k:Bool}{A:Around}(l:DenL D φ α H ts xs)(l':DenL D φ α H us ys)(r:Rd H c (.lst xs))(r':Rd H d (.lst ys))(e:eqL ts us=some k)(hu:A.units+qo ts+2<cLine):SeqAt.RcNeAt A s (.ref c) (.ref d) (!k):=by
 obtain⟨its,rv,p,_⟩:=I.list (.inl r)
 obtain⟨its2,rv',p',_⟩:=I.list (.inl r')
 obtain⟨g,rfl⟩:=jM e
 have h1:ts.length=its.length:=l.length.trans rv.length
 have h2:us.length=its2.length:=l'.length.trans rv'.length
 by_cases hl:ts.length=us.length
 ·have:=SeqAt.RcNeAt.lists (A:=A) (e:=λj=>match ts[j]?,us[j]? with|some t,some u=>(eqT t u).getD false|_,_=>false) p.isList p'.isList (by simp;omega) (by omega) λj q1 q2=>by
   have:=k6 (A:=A.in1) I l l' rv rv' (by rw[in1_units];omega) j (by simpa using q1) (by simpa using q2) λg1 g2=>g j g1 g2
   simpa using this
  have e2:min ts.length us.length=its.length:=by omega
  have e3:(ts.length == us.length)=true:=by simpa using hl
  rw[e2,e3,Bool.and_true]
  simpa using this
 ·have e3:(ts.length == us.length)=false:=by simpa using hl
  rw[e3,Bool.and_false]
  exact SeqAt.RcNeAt.lists_lengths p.isList p'.isList (by simp;omega) (by omega)
end
end
noncomputable def spM (D:DP)(f:Fn):Sp:=λvs H Q E=>∃φ α ts μ,DenL D φ α H ts vs/\MRel D φ α H μ/\Post D (wOf E) φ α H [] (λt _ α' H'=>∀v,Den D φ α' H' t v->Q v H') (f ts μ)
noncomputable def spN (D:DP)(n:Nat)(f:Fn):Sp:=λvs H Q E=>vs.length=n/\spM D f vs H Q E
noncomputable def yF(D:DP)(t:Nat)(u:Value):Prop:=
 (t=0/\u=.type "NoneType")\/(t=1/\u=.type "bool")\/(t=2/\u=.type "int")\/(t=3/\u=.type "str")\/(t=4/\u=.type "tuple")\/(t=5/\u=.type "list")\/(∃C,D.adr t=some C/\u=.ref C)\/(t=6/\u=.type "dict")\/(∃C,D.cad t=some C/\u=.ref C)
noncomputable def ju(mg:Str->Option Value)(c:Str)(u:Value):Prop:=mg c=some u\/(mg c=none/\bootBuiltins c=some u/\c≠"__name__")
abbrev Wz(X:Cx)(c:Str)(u:Value):Prop:=ju X.mg c u
noncomputable def ClsV(v:V)(u:Value):Prop:=(∃C,v=.ref C/\u=.ref C)\/∃n,v=.ty n/\u=.type n
theorem ClsV.rel{v:V}{u:Value}(h:ClsV v u):L2.RelV v u:=by
 rcases h with⟨C,rfl,rfl⟩|⟨n,rfl,rfl⟩<;>rfl
theorem ClsV.only{v:V}{u u':Value}(h:ClsV v u)(r:L2.RelV v u'):u'=u:=by
 rcases h with⟨C,rfl,rfl⟩|⟨n,rfl,rfl⟩<;>exact r
structure XCls(K:PySem.W.Frag)(C:Addr):Prop where
 ga:PySem.W.findIn K (.ref C) "__getattribute__"=some (some (.builtin "BaseException.__getattribute__"))
 hk:PySem.W.findIn K (.ref C) "__getattr__"=some none
 fi:PySem.W.findIn K (.ref C) "__class__"=some (some (.builtin "object.__class__"))
 sp:PySem.W.specialIn K (.builtin "object.__class__") "__get__"=some (some (.builtin "getset_descriptor.__get__"))
 tk:PySem.W.takesIn K (.builtin "object.__class__")=some true
 ob:PySem.W.mroIn K C (.type "object")=some true
 bx:PySem.W.mroIn K C (.type "BaseException")=some true
 cl:(PySem.W.clsIn K C).isSome=true
structure OCls(K:PySem.W.Frag)(C:Addr):Prop where
 cl:Cls K C
 fi:PySem.W.findIn K (.ref C) "__class__"=some (some (.builtin "object.__class__"))
 sp:PySem.W.specialIn K (.builtin "object.__class__") "__get__"=some (some (.builtin "getset_descriptor.__get__"))
 tk:PySem.W.takesIn K (.builtin "object.__class__")=some true
 ob:PySem.W.mroIn K C (.type "object")=some true
abbrev zz:List Value:=[.type "ValueError",.type "Exception",.type "BaseException",.type "object"]
noncomputable def FOk (D:DP)(P:Program)(w:World)(K:PySem.W.Frag)(mg:Str->Option Value)(base:Heap)(k:Nat)(fa:Addr)(f:Fn):Prop:=
 ∃fd ps kk,PySem.W.keepIn K (.ref fa)=true/\Binds K fd ps []/\kk<=k/\FnOk P w K mg base (CX1 P w) kk fa fd ps (spN D ps.length f)/\∀ts μ K Z,f ts μ K Z->ts.length=ps.length
structure RoomH(k:Nat)(A:Around):Prop where
 dp:A.depth+3 * k+5<recursionLimit
 un:A.units+16 * k+200<cLine
theorem RoomH.mono{j k:Nat}{A:Around}(r:RoomH k A)(h:j<=k):RoomH j A:=⟨by have:=r.dp;omega,by have:=r.un;omega⟩
theorem RoomH.units{k:Nat}{A:Around}(r:RoomH k A):A.units+64<cLine:=by have:=r.un;omega
noncomputable def jw(P:Program)(w:World)(K:PySem.W.Frag)(mg:Str->Option Value)(base:Heap)(k:Nat)(f:Addr)(fd:FuncData)(ps:List Str)(sp:Sp):Prop:=
 ∀(A:Around) (outer:List Env) (s:Shared) (H:Hp) (args:Args) (us:List Value) (vs:List V) (Q:VK),RoomH k A->Env0 P w K mg base A outer s H->BindsTo s fd args (ps.zip us)->Vals vs us->sp vs H Q (λ_ _ _=>False)->
  codeAny (model P w) A (.call (.ref f) args) (CR (λ_ _ _ _ _ _=>False) outer P w H s Q (λ_ _ _=>False)) s
noncomputable def wL (x C:Addr):Heap->Prop:=λh=>∃t,h.get? x=some {cls:=.ref C,data:=.fields #[.ref t,.none,.none,.none,.bool false,.none]}
noncomputable def wu(x C dx:Addr):Heap->Prop:=λh=>∃t,h.get? x=some {cls:=.ref C,dict:=some dx,data:=.fields #[.ref t,.none,.none,.none,.bool false,.none]}
structure XIn(K:PySem.W.Frag)(C HE fI:Addr)(fl:Str):Prop where
 cls:∃N nm q bs hd sn sub ab col dd k0 k1 k2 k3 k5,K.lookup C=some (excClassObj nm q C N bs (.ref HE::zz) hd sn sub ab col dd k0 k1 k2 k3 k5 "ValueError.__new__")/\PySem.W.nsOkIn K N=true/\PySem.W.nsIn K N "__init__"=some (some (.ref fI))
 he:PySem.W.excIn K HE zz "ValueError.__new__"=true
 fn:PySem.W.typeIn K (.ref fI)=some (.type "function")
 sa:PySem.W.findIn K (.ref C) "__setattr__"=some (some (.builtin "object.__setattr__"))
 no:PySem.W.findIn K (.ref C) fl=some none
 dct:PySem.W.hasDictIn K C=true
 kp:PySem.W.keepIn K (.ref C)=true
noncomputable def spI (C:Addr)(fl:Str):Sp:=λvs H Q E=>∃(x:Addr) (i:Int),vs=[.ref x,.int i]/\i.natAbs.log2<1920/\H x=some (.ext (wL x C))/\∀dx,H dx=none->dx≠x->Q .non (upd (upd H x (.ext (wu x C dx))) dx (.xd [(fl,.int i)]))
noncomputable def z0n(y:Str)(sc:Scope):Bool:=(sc.kind == .function)&&!sc.isCoroutine&&!sc.isGenerator&&sc.names.all (λy=>y.2 != .free)&&(sc.names.lookup y == some .local)&&y != ("__debug__":Str)&&y != ("__classdict__":Str)
noncomputable def UK(a c:Addr)(qn:Str):Heap->Prop:=λh=>∃(y:Str) (pa:Pos) (kk:Nat) (bp:Pos) (sc:Scope) (pm ctv:Value),z0n y sc=true/\h.get? a=some (PySem.W.kla_obj "<lambda>" qn ⟨[],[⟨y,none,pa⟩],none,[],[],none,[]⟩ (.Constant .none kk bp) sc [] pm c ctv)
noncomputable def z0d(t:T):Prop:=t=.clo 0 [.clo 100 []]\/t=.clo 1 []\/t=.clo 2 [.clo 101 []]
noncomputable def z13 (D:DP)(P:Program)(w:World)(K:PySem.W.Frag)(mg:Str->Option Value)(base:Heap)(k:Nat):Prop:=
 ∀(t:T) (φ α:List Addr) (H:Hp) (v:V),z0d t->Den D φ α H t v->∃a kk,v=.ref a/\kk<=k/\∀(A:Around) (outer:List Env) (s:Shared),Env0 P w K mg base A outer s H->PySem.W.FnAt a s.heap/\(Room kk A->∀(u:Value) (x:V) (Q:VK) (t:T) (φ α:List Addr) (μ:Mem),RelV x u->Den D φ α H t x->MRel D φ α H μ->(∀α' H',Stp α H α' H'->MRel D φ α' H' μ->Q .non H')->
  codeAny (model P w) A (.call (.ref a) ⟨[u],[]⟩) (CR (CX1 P w) outer P w H s Q (λ_ _ _=>False)) s)
noncomputable def z0w(a c:Addr)(l:LamD)(cl:List (Str×Addr)):Heap->Prop:=λh=>∃(pa:Pos) (pm ctv:Value),h.get? a=some (PySem.W.kla_obj "<lambda>" l.qn ⟨[],[⟨l.y,none,pa⟩],none,[],[],none,[]⟩ l.body l.sc cl pm c ctv)
noncomputable def z1q(fr:List Str)(cl:List (Str×Addr))(cs:List Addr):Prop:=fr.map (λx=>cl.lookup x)=cs.map some/\cs.Nodup/\∀x a,cl.lookup x=some a->x∈fr
noncomputable def z08(D:DP)(P:Program)(w:World)(K:PySem.W.Frag)(mg:Str->Option Value)(base:Heap)(k:Nat)(ls:List LamD):Prop:=
 ∀(j:Nat) (l:LamD) (ts:List T) (φ α:List Addr) (H:Hp) (v:V),ls[j]?=some l->Den D φ α H (z1o j l.jt ts) v->∃(a:Addr) (kk:Nat),v=.ref a/\kk<=k/\∀(A:Around) (outer:List Env) (s:Shared),Env0 P w K mg base A outer s H->PySem.W.FnAt a s.heap/\(Room kk A->
  ∀(u:Value) (x:V) (Q:VK) (t:T) (μ:Mem) (K0:T->Mem->Prop),RelV x u->Den D φ α H t x->MRel D φ α H μ->l.g (some t::ts.map some) μ K0 (λ_ _ _=>False)->(∀t' μ',K0 t' μ'->∀α' H' v',Stp α H α' H'->MRel D φ α' H' μ'->Den D φ α' H' t' v'->Q v' H')->
  codeAny (model P w) A (.call (.ref a) ⟨[u],[]⟩) (CR (CX1 P w) outer P w H s Q (λ_ _ _=>False)) s)
structure KapMk(D:DP)(ls:List LamD):Prop where
 tb:∀(j:Nat) (l:LamD),ls[j]?=some l->∃P' pos,D.tabs l.jt=some (P',pos,l.qn)
 fn:∀(j:Nat) (l:LamD) (a c:Addr) (cl:List (Str×Addr)) (cs:List Addr),ls[j]?=some l->z1q l.fr cl cs->D.clo (300+j) a (some (.ext (z0w a c l cl))) (.ref c::cs.map V.ref)
 ce:∀c (o:Obj) u x ob,o.data=.cell (some u)->RelV x u->D.clo 200 c (some (.frz o ob)) [x]
 co:∀j P' pos qn c,D.tabs j=some (P',pos,qn)->D.clo (100+j) c (some (.ext (Zt c qn))) []
noncomputable def GlOkM(D:DP)(P:Program)(w:World)(K:PySem.W.Frag)(mg:Str->Option Value)(base:Heap)(k:Nat)(x:Str):GM->Prop
 |.fn f=>∃fa,mg x=some (.ref fa)/\FOk D P w K mg base k fa f
 |.fnh nm f=>∃fa,mg nm=some (.ref fa)/\∃fd ps kk,PySem.W.keepIn K (.ref fa)=true/\Binds K fd ps []/\kk<=k/\jw P w K mg base kk fa fd ps (spN D ps.length f)/\∀ts μ K Z,f ts μ K Z->ts.length=ps.length
 |.met c nm f=>∃C fI fd ps kk,D.cad c=some C/\Cls K C/\Meth K C nm fI/\(∀i,D.fn i≠some nm)/\Binds K fd ps []/\kk<=k/\FnOk P w K mg base (CX1 P w) kk fI fd ps (spN D ps.length f)/\∀ts μ K Z,f ts μ K Z->ts.length=ps.length
 |.mk c _ f=>∃C fI fd ps kk,D.cad c=some C/\mg x=some (.ref C)/\Mk K C fI/\Binds K fd ps []/\kk+1<=k/\FnOk P w K mg base (CX1 P w) kk fI fd ps (spN D ps.length f)/\∀ts μ K Z,f ts μ K Z->ts.length=ps.length
 |.cst t=>∃u v,mg x=some u/\RelV v u/\∀φ α H,Den D φ α H t v
 |.xcl c=>∃C,D.adr c=some C/\mg x=some (.ref C)/\PySem.W.excIn K C zz "ValueError.__new__"=true
 |.xcf c _=>∃C,D.adr c=some C/\mg x=some (.ref C)
 |.xin c f nm fl=>∃C HE fI fd ps kk,D.adr c=some C/\mg nm=some (.ref C)/\D.fn f=some fl/\XIn K C HE fI fl/\Binds K fd ps []/\kk+1<=k/\FnOk P w K mg base (CX1 P w) kk fI fd ps (spI C fl)/\jw P w K mg base kk fI fd ps (spI C fl)
 |.mkd c nm n f=>∃C fI fd ps kk,D.cad c=some C/\mg nm=some (.ref C)/\Mk K C fI/\Binds K fd ps [.none]/\kk+1<=k/\FnOk P w K mg base (CX1 P w) kk fI fd ps (spN D ps.length f)/\(∀ts μ K Z,f ts μ K Z->ts.length=ps.length)/\ps.length=n+2
 |.metd c nm n d f=>∃C fI fd ps kk du dv,D.cad c=some C/\Cls K C/\Meth K C nm fI/\(∀i,D.fn i≠some nm)/\Binds K fd ps [du]/\RelV dv du/\(∀φ α H,Den D φ α H d dv)/\kk<=k/\FnOk P w K mg base (CX1 P w) kk fI fd ps (spN D ps.length f)/\(∀ts μ K Z,f ts μ K Z->ts.length=ps.length)/\ps.length=n+2
 |.kpr=>z13 D P w K mg base k/\∀j P' pos qn,j<2->D.tabs j=some (P',pos,qn)->∀a c,D.clo (2 * j) a (some (.ext (UK a c qn))) [.ref c]/\D.clo (100+j) c (some (.ext (Zt c qn))) []
 |.kap ls=>z08 D P w K mg base k ls/\KapMk D ls
 |.tbl kvs=>∃a vs,mg x=some (.ref a)/\(a == sysModules)=false/\KV (kvs.map λp=>((.inr p.1:Key),V.int p.2)) vs/\∀h:Heap,K.In h->h.DictOf (xX P w) a vs
 |.none=>mg x=none
 |.bad=>True
abbrev z0z(D:DP)(X:Cx)(k:Nat)(x:Str)(g:GM):Prop:=GlOkM D X.prog X.w X.K X.mg X.base k x g
structure Cn where
 N:List Str
 G:List Str
 calm:Bool
 gl:Str->GM
 cls:List (Str×Nat)
 fld:List (Str×Nat)
 U:List Str
 cel:List Str
 own:List Str
 lam:Option (Nat×List Pos):=none
 fz:List Str:=[]
noncomputable def Cn.sto(Γ:Cn):List Str:=Γ.N.filter λx=>!Γ.fz.contains x
noncomputable def Cn.look(Γ:Cn)(x:Str):GM:=if Γ.G.contains x then Γ.gl x else .bad
noncomputable def LamOk(D:DP)(mg:Str->Option Value)(base:Heap)(code:Value)(qual:Str)(k:Nat)(l:Option (Nat×List Pos)):Prop:=∀j poss,l=some (j,poss)->2<=k/\∃c P,code=.ref c/\PySem.W.CodeHd base c P/\base.BuiltinsAt mg P/\D.tabs j=some (P,poss,qual++"<lambda>")
theorem LamOk.no{D:DP}{mg:Str->Option Value}{base:Heap}{code:Value}{qual:Str}{k:Nat}{l:Option (Nat×List Pos)}(h:l=none):LamOk D mg base code qual k l:=λj pos e=>by rw[h] at e;cases e
structure Ck(D:DP)(W:XW)(Γ:Cn)(X:Cx)(k:Nat):Prop where
 hK:X.K=D.K
 hN:X.N=Γ.N
 nd:Γ.N.Nodup
 vis:∀x∈Γ.N,Vis X.env.scope x
 dbg:∀x∈Γ.N,(x == ("__debug__":Str))=false/\(x == ("__classdict__":Str))=false
 dbG:∀x∈Γ.G,(x == ("__debug__":Str))=false
 glb:∀x∈Γ.G,Gl X x
 glo:∀x∈Γ.G,z0z D X k x (Γ.gl x)
 glU:∀x∈Γ.U,z0z D X k x (Γ.gl x)/\(x == ("__debug__":Str))=false
 cel:∀x∈Γ.cel,X.env.kindOf x=some .cell\/X.env.kindOf x=some .free
 isi:∀t x c,(x,c)∈Γ.cls->∀u v,yF D t u->Wz X x v->PySem.W.kitOne X.K u v=some (qb t c)
 fld:∀c C x f,D.cad c=some C->(x,f)∈Γ.fld->D.fn f=some x/\Cls X.K C/\NoAttr X.K C x
 xcx:∀c C,D.adr c=some C->XCls X.K C
 ocx:∀c C,D.cad c=some C->OCls X.K C
 clv:∀x c,(x,c)∈Γ.cls->∃u v,Wz X x u/\ClsV v u
 clm:Γ.calm=true->X.calm=true
 rom:Γ.calm=true->Room k X.A
 rmh:RoomH k X.A
 xe:∀e s,XP X W e s->X.xe e s
 frm:∃e0 out L,Frm X e0 out L
 lam:LamOk D X.mg X.base X.env.code X.env.qual k Γ.lam
 kfz:Γ.lam.isSome=true->∀x∈Γ.fz,X.fn x=false/\∀c,X.env.cells.lookup x=some c->X.s₀.heap.objs.size<=c
theorem Ck.unt{D:DP}{W:XW}{Γ:Cn}{X:Cx}{k:Nat}(C:Ck D W Γ X k):X.A.units+64<cLine:=C.rmh.units
theorem qg:∀{N:List Str} {x:Str} {i:Nat},idx N x=some i->N[i]?=some x
 |[],_,_,h=>by simp[idx] at h
 |y::r,x,i,h=>by
  simp only[idx] at h
  split at h
  ·rename_i e;cases h;simp[e]
  ·cases q:idx r x with
   |none=>rw[q] at h;cases h
   |some j=>rw[q] at h;cases h;simpa using qg q
theorem zZ{N:List Str}{x:Str}{i:Nat}(h:idx N x=some i):x∈N:=List.mem_of_getElem? (qg h)
section
variable {X:Cx}{D:DP}{W:XW}{Γ:Cn}{k:Nat}{pins:List (Addr×Obj)}{s:Shared}{σ:St}{H:Hp}{φ α:List Addr}{τ:Sl}{μ:Mem}{f g h:De}{a b c:Expr}{pos:Pos}
theorem PE.mono{e:Expr}{t t':TE}(h:PE X e t)(m:∀σ H Q,t' σ H Q->t σ H Q):PE X e t':=λpins s σ H Q I q=>h pins s σ H Q I (m σ H Q q)
theorem Yf{i j pos}:PE X (.Constant (.int i) j pos) (rdE D W (eC (.int i))):=PE.mono Y0 λσ H Q ⟨φ,α,τ,μ,sr,mr,p⟩=>Post.here p mr rfl
theorem z0E{i j pos}:PE X (.Constant (.bool i) j pos) (rdE D W (eC (.bl i))):=PE.mono U_ λσ H Q ⟨φ,α,τ,μ,sr,mr,p⟩=>Post.here p mr rfl
theorem XE{j pos}:PE X (.Constant .none j pos) (rdE D W (eC .non)):=PE.mono YS λσ H Q ⟨φ,α,τ,μ,sr,mr,p⟩=>Post.here p mr rfl
theorem U3{i j pos}:PE X (.Constant (.str i) j pos) (rdE D W (eC (.str i))):=PE.mono xT λσ H Q ⟨φ,α,τ,μ,sr,mr,p⟩=>Post.here p mr rfl
theorem Uc(C:Ck D W Γ X k){x:Str}{i:Nat}(hi:idx Γ.N x=some i):PE X (.Name x pos) (rdE D W (eV i)):=by
 refine PE.mono (vy (i:=i) (by rw[C.hN];exact qg hi) (C.vis x (zZ hi)) (C.dbg x (zZ hi)).1 (C.dbg x (zZ hi)).2) ?_
 rintro σ H Q ⟨φ,α,τ,μ,sr,mr,p⟩
 dsimp only[eV] at p
 split at p
 ·rename_i t e
  obtain⟨v,q,d⟩:=sr.get e
  exact⟨v,q,p.here mr d⟩
 ·exact p.elim
theorem Ui(C:Ck D W Γ X k){x:Str}{t:T}(hx:x∈Γ.G)(ht:Γ.gl x=.cst t):PE X (.Name x pos) (rdE D W (eC t)):=by
 have g:=C.glo x hx
 rw[ht] at g
 obtain⟨u,v,hm,r,d⟩:=g
 exact PE.mono (ZF (C.glb x hx) hm r (C.dbG x hx)) λσ H Q ⟨φ,α,τ,μ,sr,mr,p⟩=>Post.here p mr (d _ _ _)
theorem UB{op:Operator}(ha:PE X a (rdE D W f))(hb:PE X b (rdE D W g)):PE X (.BinOp a op b pos) (rdE D W (za op f g)):=by
 rintro pins s σ H Q I ⟨φ,α,τ,μ,sr,mr,p⟩
 refine wpAny_BinOp (thn (sub ha I sr mr p) ?_)
 rintro u s1 ⟨v,H1,t,μ1,α1,I1,r1,st1,sr1,mr1,d1,p1⟩
 refine thn (sub hb I1 sr1 mr1 p1) ?_
 rintro u' s2 ⟨v',H2,t',μ2,α2,I2,r2,st2,sr2,mr2,d2,p2⟩
 exact XS I2 mr2 (d1.step st2) d2 r1 r2 p2
theorem Ut(ha:PE X a (rdE D W f)):PE X (.UnaryOp .USub a pos) (rdE D W (kj f)):=by
 rintro pins s σ H Q I ⟨φ,α,τ,μ,sr,mr,p⟩
 refine UnaryOp_ (thn (sub ha I sr mr p) ?_)
 rintro u s1 ⟨v,H1,t,μ1,α1,I1,r1,st1,sr1,mr1,d1,p1⟩
 try dsimp only at p1
 split at p1
 ·cases d1
  exact YU pins s1 σ H1 _ _ Q I1 r1 ⟨_,rfl,p1.here mr1 rfl⟩
 ·exact p1.elim
theorem XO(ha:PE X a (rdE D W f)):PE X (.UnaryOp .Not a pos) (rdE D W (Um f)):=by
 rintro pins s σ H Q I ⟨φ,α,τ,μ,sr,mr,p⟩
 refine UnaryOp_ (thn (sub ha I sr mr p) ?_)
 rintro u s1 ⟨v,H1,t,μ1,α1,I1,r1,st1,sr1,mr1,d1,p1⟩
 try dsimp only at p1
 split at p1
 ·rename_i b
  cases d1
  cases r1
  exact not_of (wpAny_truthy_bool ⟨.bl (!b),H1,I1,rfl,p1.here mr1 rfl⟩)
 ·exact p1.elim
theorem Y7{op:BoolOp}(ha:PE X a (rdE D W f)):PE X (.BoolOp op [a] pos) (rdE D W f):=Y_ ha
theorem Ud{r:List Expr}(ha:PE X a (rdE D W f))(hb:PE X (.BoolOp .And (b::r) pos) (rdE D W g)):PE X (.BoolOp .And (a::b::r) pos) (rdE D W (Jj f g)):=by
 rintro pins s σ H Q I ⟨φ,α,τ,μ,sr,mr,p⟩
 refine BoolOp_and (thn (sub ha I sr mr p) ?_)
 rintro u s1 ⟨v,H1,t,μ1,α1,I1,r1,st1,sr1,mr1,d1,p1⟩
 try dsimp only at p1
 split at p1
 ·cases d1
  cases r1
  rcases p1.br with⟨rfl,p1⟩|⟨rfl,p1⟩
  ·exact wpAny_truthy_bool (hb pins s1 σ H1 Q I1 ⟨φ,α1,τ,μ1,sr1,mr1,p1⟩)
  ·exact wpAny_truthy_bool ⟨.bl false,H1,I1,rfl,p1.here mr1 rfl⟩
 ·exact p1.elim
theorem UO{r:List Expr}(ha:PE X a (rdE D W f))(hb:PE X (.BoolOp .Or (b::r) pos) (rdE D W g)):PE X (.BoolOp .Or (a::b::r) pos) (rdE D W (eOr f g)):=by
 rintro pins s σ H Q I ⟨φ,α,τ,μ,sr,mr,p⟩
 refine BoolOp_or (thn (sub ha I sr mr p) ?_)
 rintro u s1 ⟨v,H1,t,μ1,α1,I1,r1,st1,sr1,mr1,d1,p1⟩
 try dsimp only at p1
 split at p1
 ·cases d1
  cases r1
  rcases p1.br with⟨rfl,p1⟩|⟨rfl,p1⟩
  ·exact wpAny_truthy_bool ⟨.bl true,H1,I1,rfl,p1.here mr1 rfl⟩
  ·exact wpAny_truthy_bool (hb pins s1 σ H1 Q I1 ⟨φ,α1,τ,μ1,sr1,mr1,p1⟩)
 ·exact p1.elim
theorem Ue{x y:T}{v w:V}{b:Bool}(d1:Den D φ α H x v)(d2:Den D φ α H y w)(h:scT x y=some b):Km v w=true/\decide (v=w)=b:=by
 unfold scT at h
 split at h<;>first
  |(cases h;cases d1;cases d2;exact⟨rfl,by simp⟩)
  |cases h
theorem XB:OpR X (compareOp .Is) (λx y H Q=>∃a b,x=.bl a/\y=.bl b/\Q (.bl (decide (a=b))) H):=by
 intro pins s σ H x y v u Q I rx ry h
 obtain⟨a,b,rfl,rfl,q⟩:=h
 cases rx;cases ry
 refine wpAny_is_plain (by rfl) ⟨.bl (decide (a=b)),H,I,?_,q⟩
 cases a<;>cases b<;>rfl
theorem VJ:OpR X (compareOp .IsNot) (λx y H Q=>∃a b,x=.bl a/\y=.bl b/\Q (.bl (!decide (a=b))) H):=by
 intro pins s σ H x y v u Q I rx ry h
 obtain⟨a,b,rfl,rfl,q⟩:=h
 cases rx;cases ry
 refine wpAny_isNot_plain (by rfl) ⟨.bl (!decide (a=b)),H,I,?_,q⟩
 cases a<;>cases b<;>rfl
theorem VN{b:Bool}{C:Prop}{x y:T}{v w:V}{kk:Bool->RE T}{Q:VK}(I:Inv X pins σ H s)(hu:X.A.units+64<cLine)(mr:MRel D φ α H μ)(d1:Den D φ α H x v)(d2:Den D φ α H y w)(p:Post D W φ α H σ (RV D φ Q) (eqW x y μ kk))
  (h1:∀b,Post D W φ α H σ (RV D φ Q) (kk b)->Km v w=true/\decide (v=w)=b->C)
  (h2:∀b,Post D W φ α H σ (RV D φ Q) (kk b)->((∀u1 u2,RelV v u1->RelV w u2->∀{R:Value->Shared->Prop},R (.bool b) s->wpAny (model X.prog X.w) X.A (compareOp .Eq u1 u2) R X.xe s)/\(∀u1 u2,RelV v u1->RelV w u2->∀{R:Value->Shared->Prop},R (.bool (!b)) s->wpAny (model X.prog X.w) X.A (compareOp .NotEq u1 u2) R X.xe s))->C):C:=by
 have lst:∀{xs ys:List T} {c d:Addr} {vs ws:List V},v=.ref c->w=.ref d->Rd H c (.lst vs)->Rd H d (.lst ws)->DenL D φ α H xs vs->DenL D φ α H ys ws->Post D W φ α H σ (RV D φ Q) (RE.grd (qo xs<=40) (.som (eqL xs ys) kk))->C:=λ{xs ys c d vs ws} e1 e2 r r' l l' p=>by
  obtain⟨hd,p⟩:=p.grd
  obtain⟨b,hb,p⟩:=p.som
  subst e1 e2
  exact h2 b p ⟨λu1 u2 r1 r2 R q=>by cases r1;cases r2;exact Wn I l l' r r' hb (by omega) _ _ _ _ q,λu1 u2 r1 r2 R q=>by cases r1;cases r2;exact Vq I l l' r r' hb (by omega) _ _ _ _ q⟩
 unfold eqW at p
 split at p
 ·obtain⟨hd,p⟩:=p.grd
  obtain⟨b,hb,p⟩:=p.som
  obtain⟨c,vs,rfl,_,_,r,l⟩:=d1
  obtain⟨d,ws,rfl,_,_,r',l'⟩:=d2
  exact h2 b p ⟨λu1 u2 r1 r2 R q=>by cases r1;cases r2;exact Jr I l l' r r' hb (by omega) _ _ _ _ q,λu1 u2 r1 r2 R q=>by cases r1;cases r2;exact WD I l l' r r' hb (by omega) _ _ _ _ q⟩
 ·obtain⟨c,vs,e1,_,_,r,l⟩:=d1
  obtain⟨d,ws,e2,_,_,r',l'⟩:=d2
  exact lst e1 e2 r r' l l' p
 ·obtain⟨xs,hi,p⟩:=p.ex1
  obtain⟨c,hc,e1⟩:=d1
  obtain⟨vs,q,l⟩:=mr.ob _ c _ hc hi
  obtain⟨d,ws,e2,_,_,r',l'⟩:=d2
  exact lst e1 e2 (.inl q) r' l l' p
 ·obtain⟨ys,hi,p⟩:=p.ex1
  obtain⟨c,hc,e2⟩:=d2
  obtain⟨vs,q,l⟩:=mr.ob _ c _ hc hi
  obtain⟨d,ws,e1,_,_,r',l'⟩:=d1
  exact lst e1 e2 r' (.inl q) l' l p
 ·obtain⟨z,hi,p⟩:=p.ex1
  obtain⟨c,hc,e1⟩:=d1
  obtain⟨vs,q,l⟩:=mr.ob _ c _ hc hi.1
  obtain⟨d,hd,e2⟩:=d2
  obtain⟨ws,q',l'⟩:=mr.ob _ d _ hd hi.2
  exact lst e1 e2 (.inl q) (.inl q') l l' p
 ·split at p
  ·rename_i hb
   exact h1 _ p (Ue d1 d2 hb)
  ·exact p.elim
theorem uM{op:CmpOp}{x y:T}{v w:V}{u1 u2:Value}{Q:VK}(I:Inv X pins σ H s)(hu:X.A.units+64<cLine)(mr:MRel D φ α H μ)(d1:Den D φ α H x v)(d2:Den D φ α H y w)(r1:RelV v u1)(r2:RelV w u2)
  (p:Post D W φ α H σ (RV D φ Q) (y3 op x y μ)):wpAny (model X.prog X.w) X.A (compareOp op u1 u2) (EP X pins σ Q) X.xe s:=by
 unfold y3 at p
 split at p
 ·refine VN (b:=true) I hu mr d1 d2 p (λb q h=>?_) (λb q h=>?_)
  ·obtain⟨s1,s2⟩:=h
   exact z0g pins s σ H v w u1 u2 Q I r1 r2 ⟨s1,by rw[s2];exact Post.here q mr rfl⟩
  ·exact h.1 _ _ r1 r2 ⟨.bl b,H,I,rfl,Post.here q mr rfl⟩
 ·refine VN (b:=false) I hu mr d1 d2 p (λb q h=>?_) (λb q h=>?_)
  ·obtain⟨s1,s2⟩:=h
   exact z0m pins s σ H v w u1 u2 Q I r1 r2 ⟨s1,by rw[s2];exact Post.here q mr rfl⟩
  ·exact h.2 _ _ r1 r2 ⟨.bl (!b),H,I,rfl,Post.here q mr rfl⟩
 ·unfold ltW at p
  split at p
  ·cases d1;cases d2
   exact US pins s σ H _ _ u1 u2 Q I r1 r2 ⟨_,_,rfl,rfl,Post.here p mr rfl⟩
  ·obtain⟨ns,h1,p⟩:=p.som
   obtain⟨ms,h2,p⟩:=p.som
   obtain⟨a,vs,rfl,_,_,q1,l1⟩:=d1
   obtain⟨c,ws,rfl,_,_,q2,l2⟩:=d2
   rw[wA h1 l1] at q1
   rw[wA h2 l2] at q2
   exact U4 (by omega) pins s σ H _ _ u1 u2 Q I r1 r2 ⟨a,c,ns,ms,rfl,rfl,.inl q1,.inl q2,Post.here p mr rfl⟩
  ·have d1:v=.str _:=d1
   have d2:w=.str _:=d2
   subst d1 d2
   obtain⟨t1,rfl⟩:=r1
   obtain⟨t2,rfl⟩:=r2
   exact PySem.P.lt_str ⟨.bl _,H,I,rfl,Post.here p mr rfl⟩
  ·exact p.elim
 ·split at p
  ·cases d1;cases d2
   exact UQ pins s σ H _ _ u1 u2 Q I r1 r2 ⟨_,_,rfl,rfl,p.here mr rfl⟩
  ·exact p.elim
 ·split at p
  ·cases d1;cases d2
   exact UT pins s σ H _ _ u1 u2 Q I r1 r2 ⟨_,_,rfl,rfl,p.here mr rfl⟩
  ·exact p.elim
 ·split at p
  ·cases d1;cases d2
   exact z0J pins s σ H _ _ u1 u2 Q I r1 r2 ⟨_,_,rfl,rfl,p.here mr rfl⟩
  ·exact p.elim
 ·split at p
  ·cases d2
   refine Us pins s σ H _ _ u1 u2 Q I r1 r2 ⟨rfl,?_⟩
   have q:=p.here mr rfl
   cases x<;>first
    |(have d1:v=_:=d1;subst d1;simpa using q)
    |(obtain⟨_,_,rfl,_⟩:=d1;simpa using q)
    |(obtain⟨_,_,_,_,rfl,_⟩:=d1;simpa using q)
    |(obtain⟨_,_,rfl⟩:=d1;simpa using q)
    |(obtain⟨_,_,_,rfl,_⟩:=d1;simpa using q)
  ·split at p
   ·have d1:v=.bl _:=d1
    have d2:w=.bl _:=d2
    subst d1 d2
    exact XB pins s σ H _ _ u1 u2 Q I r1 r2 ⟨_,_,rfl,rfl,p.here mr rfl⟩
   ·exact p.elim
  ·exact p.elim
 ·split at p
  ·cases d2
   refine Kd pins s σ H _ _ u1 u2 Q I r1 r2 ⟨rfl,?_⟩
   have q:=p.here mr rfl
   cases x<;>first
    |(have d1:v=_:=d1;subst d1;simpa using q)
    |(obtain⟨_,_,rfl,_⟩:=d1;simpa using q)
    |(obtain⟨_,_,_,_,rfl,_⟩:=d1;simpa using q)
    |(obtain⟨_,_,rfl⟩:=d1;simpa using q)
    |(obtain⟨_,_,_,rfl,_⟩:=d1;simpa using q)
  ·split at p
   ·have d1:v=.bl _:=d1
    have d2:w=.bl _:=d2
    subst d1 d2
    exact VJ pins s σ H _ _ u1 u2 Q I r1 r2 ⟨_,_,rfl,rfl,p.here mr rfl⟩
   ·exact p.elim
  ·exact p.elim
 ·split at p
  ·have d1:v=.str _:=d1
   have d2:w=.str _:=d2
   subst d1 d2
   exact Qx pins s σ H _ _ u1 u2 Q I r1 r2 ⟨_,_,rfl,rfl,p.here mr rfl⟩
  ·exact p.elim
 ·split at p
  ·have d1:v=.str _:=d1
   have d2:w=.str _:=d2
   subst d1 d2
   exact y7 pins s σ H _ _ u1 u2 Q I r1 r2 ⟨_,_,rfl,rfl,p.here mr rfl⟩
  ·exact p.elim
noncomputable def qi:Expr->Bool
 |.Name _ _=>true
 |.Constant _ _ _=>true
 |.BinOp _ _ _ _=>true
 |.UnaryOp _ _ _=>true
 |.Call _ _ _ _=>true
 |.Subscript _ _ _=>true
 |.Attribute _ _ _=>true
 |_=>false
noncomputable def qh:Expr->Bool
 |.Set _ _ _=>false
 |_=>true
noncomputable def vk:CmpOp->Bool
 |.In=>false|.NotIn=>false
 |_=>true
noncomputable def ud(op:CmpOp)(b:Expr):Bool:=vk op || qh b
noncomputable def wU:CmpOp->Bool
 |.Lt=>true|.LtE=>true|.Gt=>true|.GtE=>true|.Eq=>true|.NotEq=>true
 |_=>false
theorem ZY{op:CmpOp}{b:Expr}(h:ud op b=true):behindInMarks op b=false:=by
 cases hp:vk op with
 |true=>exact Jh b (by rintro rfl;simp[vk] at hp) (by rintro rfl;simp[vk] at hp)
 |false=>
  have hb:qh b=true:=by unfold ud at h;rw[hp] at h;exact h
  cases b<;>first|rfl|(simp[qh] at hb)
theorem Y3(C:Ck D W Γ X k){op:CmpOp}(ho:ud op b=true)(ha:PE X a (rdE D W f))(hb:PE X b (rdE D W g)):PE X (.Compare a [op] [b] pos) (rdE D W (zI op f g)):=by
 rintro pins s σ H Q I ⟨φ,α,τ,μ,sr,mr,p⟩
 refine wpAny_Compare1 (thn (sub ha I sr mr p) ?_) (ZY ho)
 rintro u s1 ⟨v,H1,t,μ1,α1,I1,r1,st1,sr1,mr1,d1,p1⟩
 refine thn (sub hb I1 sr1 mr1 p1) ?_
 rintro u' s2 ⟨v',H2,t',μ2,α2,I2,r2,st2,sr2,mr2,d2,p2⟩
 exact uM I2 C.unt mr2 (d1.step st2) d2 r1 r2 p2
theorem ja{op:CmpOp}{β:Type}{R:β->Mem->List Addr->Hp->Prop}{kk:T->Mem->RE β}{x y:T}{v w:V}{u1 u2:Value}(I:Inv X pins σ H s)(hu:X.A.units+64<cLine)(mr:MRel D φ α H μ)(d1:Den D φ α H x v)(d2:Den D φ α H y w)(r1:RelV v u1)(r2:RelV w u2)
  (p:Post D W φ α H σ R ((y3 op x y μ).bind kk)):wpAny (model X.prog X.w) X.A (compareOp op u1 u2) (EP X pins σ λz H1=>∃t μ1 α1,Stp α H α1 H1/\MRel D φ α1 H1 μ1/\Den D φ α1 H1 t z/\Post D W φ α1 H1 σ R (kk t μ1)) X.xe s:=
 uM I hu mr d1 d2 r1 r2 (p.bind.mono λt μ' α' H' st m q v d=>⟨t,μ',α',st,m,d,q⟩)
theorem qz:∀{ops:List CmpOp} {es:List Expr},ops.all wU=true->lastMarks ops es=false
 |[],es,_=>by cases es<;>rfl
 |[op],[],_=>rfl
 |[op],[e],h=>Jh e (by rintro rfl;simp[wU] at h) (by rintro rfl;simp[wU] at h)
 |[op],_::_::_,_=>rfl
 |op::op'::ops,[],_=>rfl
 |op::op'::ops,e::es,h=>by
  have:lastMarks (op'::ops) es=false:=qz (by simp only[List.all_cons,Bool.and_eq_true] at h ⊢;exact h.2)
  cases es with
  |nil=>cases ops<;>rfl
  |cons e' es=>exact this
noncomputable def QV (X:Cx)(D:DP)(W:XW):List Expr->List (CmpOp×De)->Prop
 |[],[]=>True
 |e::es,p::ps=>PE X e (rdE D W p.2)/\QV X D W es ps
 |_,_=>False
theorem ue(hu:X.A.units+64<cLine){Q:VK}:∀{ps:List (CmpOp×De)} {es:List Expr} {s:Shared} {H:Hp} {α:List Addr} {μ:Mem} {x:T} {v:V} {u:Value},QV X D W es ps->Inv X pins σ H s->SRel D φ α H τ σ->MRel D φ α H μ->Den D φ α H x v->RelV v u->Post D W φ α H σ (RV D φ Q) (VI ps x τ μ)->
  wpAny (model X.prog X.w) X.A (compareChain pos u (ps.map (·.1)) (evalEach es X.env)) (EP X pins σ Q) X.xe s
 |[],_,_,_,_,_,_,_,_,_,_,_,_,_,_,p=>p.elim
 |[(op,g)],[],_,_,_,_,_,_,_,h,_,_,_,_,_,_=>h.elim
 |[(op,g)],[e],s,H,α,μ,x,v,u,h,I,sr,mr,d,r,p=>by
  refine chain_last (thn (sub h.1 I sr mr p) ?_)
  rintro u' s2 ⟨v',H2,t',μ2,α2,I2,r2,st2,sr2,mr2,d2,p2⟩
  exact uM I2 hu mr2 (d.step st2) d2 r r2 p2
 |[(op,g)],_::_::_,_,_,_,_,_,_,_,h,_,_,_,_,_,_=>h.2.elim
 |(op,g)::p'::ps,[],_,_,_,_,_,_,_,h,_,_,_,_,_,_=>h.elim
 |(op,g)::p'::ps,[e],_,_,_,_,_,_,_,h,_,_,_,_,_,_=>h.2.elim
 |(op,g)::(op',g')::ps,e::e'::es,s,H,α,μ,x,v,u,h,I,sr,mr,d,r,p=>by
  refine chain_link (thn (sub h.1 I sr mr p) ?_)
  rintro u' s2 ⟨v',H2,t',μ2,α2,I2,r2,st2,sr2,mr2,d2,p2⟩
  refine thn (ja I2 hu mr2 (d.step st2) d2 r r2 p2) ?_
  rintro dd s3 ⟨z,H3,I3,r3,t3,μ3,α3,st3,mr3,d3,p3⟩
  try dsimp only at p3
  split at p3
  ·cases d3
   cases r3
   rcases p3.br with⟨rfl,p3⟩|⟨rfl,p3⟩
   ·exact wpAny_truthy_bool (ite_tt (ue hu (ps:=(op',g')::ps) (es:=e'::es) h.2 I3 (sr2.step st3) mr3 (d2.step st3) r2 p3))
   ·exact wpAny_truthy_bool (ite_ff ⟨.bl false,H3,I3,rfl,p3.here mr3 rfl⟩)
  ·exact p3.elim
theorem WM(C:Ck D W Γ X k){e1 e2:Expr}{es:List Expr}{p1 p2:CmpOp×De}{ps:List (CmpOp×De)}(ho:(p1::p2::ps).all (λp=>wU p.1)=true)(ha:PE X a (rdE D W f))(h:QV X D W (e1::e2::es) (p1::p2::ps)):PE X (.Compare a (p1.1::p2.1::ps.map (·.1)) (e1::e2::es) pos) (rdE D W (eCh f (p1::p2::ps))):=by
 rintro pins s σ H Q I ⟨φ,α,τ,μ,sr,mr,p⟩
 refine Compare_chain (thn (sub ha I sr mr p) ?_) (qz (by simpa[List.all_map,Function.comp_def] using ho))
 rintro u s1 ⟨v,H1,t,μ1,α1,I1,r1,st1,sr1,mr1,d1,p1⟩
 exact ue C.unt h I1 sr1 mr1 d1 r1 p1
theorem ZK(hu:X.A.units+64<cLine){β:Type}{R:β->Mem->List Addr->Hp->Prop}{kk:Bool->Mem->RE β}:∀{ps:List (CmpOp×De)} {es:List Expr} {s:Shared} {H:Hp} {α:List Addr} {μ:Mem} {x:T} {v:V} {u:Value} {Q:Bool->Hp->Prop},QV X D W es ps->Inv X pins σ H s->SRel D φ α H τ σ->MRel D φ α H μ->Den D φ α H x v->RelV v u->Post D W φ α H σ (λb _ _ H'=>Q b H') ((VI ps x τ μ).bind ye)->
  wpAny (model X.prog X.w) X.A (testChain pos u (ps.map (·.1)) (evalEach es X.env)) (TP X pins σ Q) X.xe s
 |[],_,_,_,_,_,_,_,_,_,_,_,_,_,_,_,p=>Post.elim p
 |[(op,g)],[],_,_,_,_,_,_,_,_,h,_,_,_,_,_,_=>h.elim
 |[(op,g)],[e],s,H,α,μ,x,v,u,Q,h,I,sr,mr,d,r,p=>by
  have p:Post D W φ α H σ (λb _ _ H'=>Q b H') ((g τ μ).bind λy μ1=>(y3 op x y μ1).bind ye):=p
  refine test_last (thn (sub h.1 I sr mr p) ?_)
  rintro u' s2 ⟨v',H2,t',μ2,α2,I2,r2,st2,sr2,mr2,d2,p2⟩
  refine thn (ja I2 hu mr2 (d.step st2) d2 r r2 p2) ?_
  rintro dd s3 ⟨z,H3,I3,r3,t3,μ3,α3,st3,mr3,d3,p3⟩
  unfold ye at p3
  split at p3
  ·cases d3
   cases r3
   exact wpAny_truthy_bool ⟨H3,I3,p3.ok (Stp.refl _ _) mr3⟩
  ·exact p3.elim
 |[(op,g)],_::_::_,_,_,_,_,_,_,_,_,h,_,_,_,_,_,_=>h.2.elim
 |(op,g)::p'::ps,[],_,_,_,_,_,_,_,_,h,_,_,_,_,_,_=>h.elim
 |(op,g)::p'::ps,[e],_,_,_,_,_,_,_,_,h,_,_,_,_,_,_=>h.2.elim
 |(op,g)::(op',g')::ps,e::e'::es,s,H,α,μ,x,v,u,Q,h,I,sr,mr,d,r,p=>by
  have p:Post D W φ α H σ (λb _ _ H'=>Q b H') ((g τ μ).bind λy μ1=>(y3 op x y μ1).bind λk μ2=>(match k with|.bl b=>RE.br b (VI ((op',g')::ps) y τ μ2) (.ok (.bl false) μ2)|_=>RE.st:RE T).bind ye):=p
  refine test_link (thn (sub h.1 I sr mr p) ?_)
  rintro u' s2 ⟨v',H2,t',μ2,α2,I2,r2,st2,sr2,mr2,d2,p2⟩
  refine thn (ja I2 hu mr2 (d.step st2) d2 r r2 p2) ?_
  rintro dd s3 ⟨z,H3,I3,r3,t3,μ3,α3,st3,mr3,d3,p3⟩
  try dsimp only at p3
  split at p3
  ·rename_i bb
   cases d3
   cases r3
   cases bb with
   |true=>exact wpAny_truthy_bool (ite_tt (ZK hu (kk:=kk) (R:=R) (ps:=(op',g')::ps) (es:=e'::es) h.2 I3 (sr2.step st3) mr3 (d2.step st3) r2 p3))
   |false=>
    have p3:Post D W φ α3 H3 σ (λb _ _ H'=>Q b H') (RE.ok false μ3):=p3
    exact wpAny_truthy_bool (ite_ff ⟨H3,I3,p3.ok (Stp.refl _ _) mr3⟩)
  ·have p3:Post D W φ α3 H3 σ (λb _ _ H'=>Q b H') RE.st:=p3
   exact p3.elim
end
section
variable {X:Cx}{D:DP}{W:XW}{Γ:Cn}{k:Nat}{pins:List (Addr×Obj)}{s:Shared}{σ:St}{H:Hp}{φ α:List Addr}{τ:Sl}{μ:Mem}{f g h:De}{ft gt:Dt}{a b c:Expr}{pos:Pos}
theorem Qc(ha:PE X a (rdE D W f))(he:∀whole,isTrue a X.env whole=(do let v ←whole;standAt a.pos;holding [v] (truthy v))):PT X a (rdT D W (tE f)):=by
 rintro pins s σ H Q I ⟨φ,α,τ,μ,sr,mr,p⟩
 rw[he]
 refine wpAny_bind (thn (sub ha I sr mr p) ?_)
 rintro u s1 ⟨v,H1,t,μ1,α1,I1,r1,st1,sr1,mr1,d1,p1⟩
 unfold ye at p1
 split at p1
 ·cases d1
  cases r1
  exact wpAny_bind (wpAny_standAt (wpAny_holding (wpAny_truthy_bool ⟨H1,I1,p1.ok (Stp.refl _ _) mr1⟩)))
 ·exact p1.elim
theorem Zx(C:Ck D W Γ X k){op:CmpOp}(ho:ud op b=true)(ha:PE X a (rdE D W f))(hb:PE X b (rdE D W g)):PT X (.Compare a [op] [b] pos) (rdT D W (tE (zI op f g))):=by
 rintro pins s σ H Q I ⟨φ,α,τ,μ,sr,mr,p⟩
 have p:Post D W φ α H σ (λb _ _ H'=>Q b H') ((f τ μ).bind λx μ1=>(g τ μ1).bind λy μ2=>(y3 op x y μ2).bind ye):=p
 refine wpAny_isTrue_Compare1 (thn (sub ha I sr mr p) ?_) (ZY ho)
 rintro u s1 ⟨v,H1,t,μ1,α1,I1,r1,st1,sr1,mr1,d1,p1⟩
 refine thn (sub hb I1 sr1 mr1 p1) ?_
 rintro u' s2 ⟨v',H2,t',μ2,α2,I2,r2,st2,sr2,mr2,d2,p2⟩
 refine thn (ja I2 C.unt mr2 (d1.step st2) d2 r1 r2 p2) ?_
 rintro d s3 ⟨z,H3,I3,r3,t3,μ3,α3,st3,mr3,d3,p3⟩
 unfold ye at p3
 split at p3
 ·cases d3
  cases r3
  exact wpAny_truthy_bool ⟨H3,I3,p3.ok (Stp.refl _ _) mr3⟩
 ·exact p3.elim
theorem yL(C:Ck D W Γ X k){e1 e2:Expr}{es:List Expr}{p1 p2:CmpOp×De}{ps:List (CmpOp×De)}(ho:(p1::p2::ps).all (λp=>wU p.1)=true)(ha:PE X a (rdE D W f))(h:QV X D W (e1::e2::es) (p1::p2::ps)):PT X (.Compare a (p1.1::p2.1::ps.map (·.1)) (e1::e2::es) pos) (rdT D W (tE (eCh f (p1::p2::ps)))):=by
 rintro pins s σ H Q I ⟨φ,α,τ,μ,sr,mr,p⟩
 have p:Post D W φ α H σ (λb _ _ H'=>Q b H') ((f τ μ).bind λx μ1=>(VI (p1::p2::ps) x τ μ1).bind ye):=p
 refine isTrue_chain (thn (sub ha I sr mr p) ?_) (qz (by simpa[List.all_map,Function.comp_def] using ho))
 rintro u s1 ⟨v,H1,t,μ1,α1,I1,r1,st1,sr1,mr1,d1,p1⟩
 exact ZK (kk:=λ_ _=>RE.st (β:=Bool)) (R:=λ_ _ _ _=>True) C.unt h I1 sr1 mr1 d1 r1 p1
theorem Yc{r:List Expr}(ha:PT X a (rdT D W ft))(hb:PW X (.BoolOp .And (b::r) pos) (rdT D W gt)):PW X (.BoolOp .And (a::b::r) pos) (rdT D W (xU ft gt)):=by
 intro whole pins s σ H Q I hq
 refine Yb ha hb whole pins s σ H Q I ?_
 obtain⟨φ,α,τ,μ,sr,mr,p⟩:=hq
 refine⟨φ,α,τ,μ,sr,mr,p.bind.mono λc μ' α' H' st m q=>?_⟩
 rcases q.br with⟨rfl,q⟩|⟨rfl,q⟩
 ·exact⟨φ,α',τ,μ',sr.step st,m,q⟩
 ·exact q.ok (Stp.refl _ _) m
theorem z0e{r:List Expr}(ha:PT X a (rdT D W ft))(hb:PW X (.BoolOp .Or (b::r) pos) (rdT D W gt)):PW X (.BoolOp .Or (a::b::r) pos) (rdT D W (tOr ft gt)):=by
 intro whole pins s σ H Q I hq
 refine z0a ha hb whole pins s σ H Q I ?_
 obtain⟨φ,α,τ,μ,sr,mr,p⟩:=hq
 refine⟨φ,α,τ,μ,sr,mr,p.bind.mono λc μ' α' H' st m q=>?_⟩
 rcases q.br with⟨rfl,q⟩|⟨rfl,q⟩
 ·exact q.ok (Stp.refl _ _) m
 ·exact⟨φ,α',τ,μ',sr.step st,m,q⟩
theorem Y4(ha:PT X a (rdT D W ft)):PT X (.UnaryOp .Not a pos) (rdT D W (vx ft)):=by
 intro pins s σ H Q I hq
 refine U1 ha pins s σ H Q I ?_
 obtain⟨φ,α,τ,μ,sr,mr,p⟩:=hq
 exact⟨φ,α,τ,μ,sr,mr,p.bind.mono λc μ' α' H' st m q=>q.ok (Stp.refl _ _) m⟩
noncomputable def zJ:Expr->Bool
 |.Name _ _=>true
 |.Attribute _ _ _=>true
 |.Subscript _ _ _=>true
 |.Call (.Name x _) _ _ _=>x != ("super":Str)
 |.Call (.Attribute _ _ _) _ _ _=>true
 |_=>false
theorem Post.ex3{β δ1 δ2 δ3:Type}{R:β->Mem->List Addr->Hp->Prop}{P:δ1->δ2->Prop}{P2:δ1->δ2->δ3->Prop}{r:δ1->δ2->δ3->RE β}(p:Post D W φ α H σ R (λK Z=>∃x y z,P x y/\P2 x y z/\r x y z K Z)):∃x y z,P x y/\P2 x y z/\Post D W φ α H σ R (r x y z):=by
 obtain⟨K,Z,⟨x,y,z,h1,h2,q⟩,h⟩:=p
 exact⟨x,y,z,h1,h2,K,Z,q,h⟩
theorem Post.ex2{β δ1 δ2:Type}{R:β->Mem->List Addr->Hp->Prop}{P:δ1->Prop}{P2:δ1->δ2->Prop}{r:δ1->δ2->RE β}(p:Post D W φ α H σ R (λK Z=>∃x y,P x/\P2 x y/\r x y K Z)):∃x y,P x/\P2 x y/\Post D W φ α H σ R (r x y):=by
 obtain⟨K,Z,⟨x,y,h1,h2,q⟩,h⟩:=p
 exact⟨x,y,h1,h2,K,Z,q,h⟩
theorem qM{b:Expr}(h:qi b=true):X0 b:=by
 intro o i
 cases b<;>first|(simp[qi] at h;done)|rfl
theorem kf{D:DP}{ts:List T}{xs:List V}{i:Int}{t:T}(l:DenL D φ α H ts xs)(h:wJ ts i=some t):∃v,atI xs i=some v/\Den D φ α H t v:=by
 unfold wJ at h
 have e:ixN xs.length i=Ku ts.length i:=by rw[l.length];rfl
 unfold atI
 rw[e]
 cases q:Ku ts.length i with
 |none=>rw[q] at h;cases h
 |some j=>
  rw[q] at h
  exact l.get h
theorem z09(hb':qi b=true)(hK:X.K=D.K)(ha:PE X a (rdE D W f))(hb:PE X b (rdE D W g)):PE X (.Subscript a b pos) (rdE D W (eIx f g)):=by
 rintro pins s σ H Q I ⟨φ,α,τ,μ,sr,mr,p⟩
 refine Subscript_ (thn (sub ha I sr mr p) ?_)
 rintro u s1 ⟨v,H1,t,μ1,α1,I1,r1,st1,sr1,mr1,d1,p1⟩
 refine thn (sub hb I1 sr1 mr1 p1) ?_
 rintro u' s2 ⟨v',H2,t',μ2,α2,I2,r2,st2,sr2,mr2,d2,p2⟩
 have d1:=d1.step st2
 unfold Xw at p2
 split at p2
 ·cases d2
  split at p2
  ·obtain⟨w,hw,p2⟩:=p2.som
   obtain⟨ad,xs,rfl,_,_,r,l⟩:=d1
   obtain⟨z,hz,dz⟩:=kf l hw
   exact Q7 a b pins s2 σ H2 _ _ _ _ Q I2 r1 r2 ⟨ad,xs,_,z,rfl,rfl,.inl r,hz,p2.here mr2 dz⟩ (qM hb' _ _)
  ·obtain⟨w,hw,p2⟩:=p2.som
   obtain⟨ad,xs,rfl,_,_,r,l⟩:=d1
   obtain⟨z,hz,dz⟩:=kf l hw
   exact Yx a b pins s2 σ H2 _ _ _ _ Q I2 r1 r2 ⟨ad,xs,_,z,rfl,rfl,.inl r,hz,p2.here mr2 dz⟩ (qM hb' _ _)
  ·obtain⟨ts,w,hj,hw,p2⟩:=p2.ex2
   obtain⟨ad,hi',rfl⟩:=d1
   obtain⟨xs,e2,l⟩:=mr2.ob _ ad _ hi' hj
   obtain⟨z,hz,dz⟩:=kf l hw
   exact Q7 a b pins s2 σ H2 _ _ _ _ Q I2 r1 r2 ⟨ad,xs,_,z,rfl,rfl,.inl (.inl e2),hz,Post.here p2 mr2 dz⟩ (qM hb' _ _)
  ·obtain⟨hl,p2⟩:=p2.grd
   obtain⟨c,hc,p2⟩:=p2.som
   have d1:v=.str _:=d1
   subst d1
   exact Yo a b pins s2 σ H2 _ _ _ _ Q I2 r1 r2 ⟨_,_,c,rfl,rfl,zp hl,hc,p2.here mr2 rfl⟩ (qM hb' _ _)
  ·exact p2.elim
 ·exact p2.elim
noncomputable def noStar:Expr->Bool
 |.Starred _ _=>false
 |_=>true
theorem z5{e:Expr}{es:List Expr}{env:Env}(h:noStar e=true):starEach (e::es) env=(false,eval e env)::starEach es env:=by
 cases e<;>first|(simp[noStar] at h;done)|rfl
theorem q9{es:List Expr}{env:Env}{pos:Pos}(h:es.all noStar=true):(backTo pos (starEach es env)).any (·.1)=false:=by
 induction es with
 |nil=>rfl
 |cons e es ih=>
  simp only[List.all_cons,Bool.and_eq_true] at h
  rw[z5 h.1]
  have:=ih h.2
  first
   |(simp[backTo] at this ⊢;exact this)
   |(simpa[backTo] using this)
theorem YL:PA X [] (rdA D W 0 (evs [])):=by
 rintro pos pins s σ H Q I ⟨φ,α,τ,μ,sr,mr,p⟩
 exact zH pos pins s σ H Q I (Post.ok p (Stp.refl _ _) mr [] rfl rfl)
theorem KS{e:Expr}{es:List Expr}{fs:List De}{n:Nat}(hs:noStar e=true)(ha:PE X e (rdE D W f))(hr:PA X es (rdA D W n (evs fs))):PA X (e::es) (rdA D W (n+1) (evs (f::fs))):=by
 intro pos pins s σ H Q I hq
 refine zm ha hr (z5 hs) pos pins s σ H Q I ?_
 obtain⟨φ,α,τ,μ,sr,mr,p⟩:=hq
 have p:Post D W φ α H σ _ ((f τ μ).bind λt μ1=>(evs fs τ μ1).bind λts μ2=>.ok (t::ts) μ2):=p
 refine⟨φ,α,τ,μ,sr,mr,p.bind.mono λt μ1 α1 H1 st m q v d=>?_⟩
 refine⟨φ,α1,τ,μ1,sr.step st,m,q.bind.mono λts μ2 α2 H2 st2 m2 q2 vs dl hn=>?_⟩
 exact q2.ok (Stp.refl _ _) m2 _ ⟨v,vs,rfl,d.step st2,dl⟩ (by simp[hn])
noncomputable def EsOk (X:Cx)(D:DP)(W:XW):List Expr->List De->Prop
 |[],[]=>True
 |e::es,f::fs=>noStar e=true/\PE X e (rdE D W f)/\EsOk X D W es fs
 |_,_=>False
theorem wM:∀{es:List Expr} {fs:List De},EsOk X D W es fs->PA X es (rdA D W es.length (evs fs))
 |[],[],_=>YL
 |e::es,f::fs,h=>KS h.1 h.2.1 (wM h.2.2)
 |[],_::_,h=>h.elim
 |_::_,[],h=>h.elim
theorem EsOk.stars:∀{es:List Expr} {fs:List De},EsOk X D W es fs->es.all noStar=true
 |[],[],_=>rfl
 |e::es,f::fs,h=>by simp[h.1,EsOk.stars h.2.2]
 |[],_::_,h=>h.elim
 |_::_,[],h=>h.elim
theorem YN{es:List Expr}{fs:List De}(hl:es.length<=room)(h:EsOk X D W es fs):PE X (.List es pos) (rdE D W (qy fs)):=by
 refine PE.mono (WT (wM h)) ?_
 rintro σ H Q ⟨φ,α,τ,μ,sr,mr,p⟩
 refine⟨φ,α,τ,μ,sr,mr,p.bind.mono λts μ1 α1 H1 st m q vs dl hn=>⟨by rw[hn];exact zp hl,λz hz=>?_⟩⟩
 exact q.fresh m (zd hz) ⟨z,vs,rfl,zj m hz,zh m hz,.inl z7,dl.step (Stp.new (zd hz))⟩
theorem Y2{es:List Expr}{fs:List De}{kk:Nat}(hl:es.length<=room)(h:EsOk X D W es fs):PE X (.Tuple es kk pos) (rdE D W (Vf fs)):=by
 refine PE.mono (VP (wM h)) ?_
 rintro σ H Q ⟨φ,α,τ,μ,sr,mr,p⟩
 refine⟨φ,α,τ,μ,sr,mr,p.bind.mono λts μ1 α1 H1 st m q vs dl hn=>⟨by rw[hn];exact zp hl,λz hz=>?_⟩⟩
 exact q.fresh m (zd hz) ⟨z,vs,rfl,zj m hz,zh m hz,.inl z7,dl.step (Stp.new (zd hz))⟩
end
section
open PySem.W
theorem kK{prog:Program}{w:World}{A:Around}{E:Value->Shared->Prop}{s:Shared}{K:Frag}{x D:Addr}{ox:Obj}{od:Option Obj}{Q:Option Value->Shared->Prop}(X:K.In s.heap)(I:InstAt s.heap x ox D od)
 (hga:findIn K (.ref D) "__getattribute__"=some (some (.builtin "BaseException.__getattribute__"))) (hk:findIn K (.ref D) "__getattr__"=some none)
 (hf:findObj K D od "__class__"=some (.bind (.builtin "getset_descriptor.__get__") (.builtin "object.__class__"))) (hm:mroIn K D (.type "object")=some true) (hb:mroIn K D (.type "BaseException")=some true)
 (h:Q (some (.ref D)) {s with toks:=s.toks+1}):wpAny (model prog w) A (getAttr? (.ref x) "__class__") Q E s:=by
 obtain⟨hh,g,d,t,os⟩:=s
 have L0:=I.type (M:=model prog w)
 have L1:=looks_findIn (M:=model prog w) X hga
 have L2:=looks_findIn (M:=model prog w) X hk
 have L3:=looks_find (M:=model prog w) X I hf
 have L4:=looks_mroIn (M:=model prog w) X hb
 have f3:=PySem.F.attr_ValueError.ga.bind (.ref x)
 unfold getAttr? getAttrBy? getAttrBy
 refine wpAny_bind (wpAny_mkText (wpAny_bind (wpAny_attempt (wpAny_holding (wpAny_bind (L0.at (wpAny_bind (L1.at ?_))))))))
 show wpAny _ _ (getAttrByItsOwn (.ref x) _ (.ref D) (.builtin "BaseException.__getattribute__") false false) _ _ _
 unfold getAttrByItsOwn hookBefore
 refine wpAny_bind ?_
 show wpAny _ _ (typeLookup (.ref D) "__getattr__") _ _ _
 refine L2.at ?_
 refine wpAny_bind (wpAny_attempt (wpAny_holding ?_))
 unfold callGetattribute boundAndCalled
 show wpAny _ _ (bindSpecial (.builtin "BaseException.__getattribute__") (.ref x) >>= _) _ _ _
 rw[f3]
 refine wpAny_bind (wpAny_pure ?_)
 show wpAny _ _ (call (.builtin "BaseException.__getattribute__") [.ref x,.str "__class__" _]) _ _ _
 refine wpAny_call (codeAny_call_builtin PySem.F.attr_ValueError.ga.plain PySem.F.entry_bexc_ga ?_)
 have hkd:builtinKind "BaseException.__getattribute__"=some .slot:=by decide +kernel
 have hsp:splitId "BaseException.__getattribute__"=some ("BaseException","__getattribute__"):=by decide +kernel
 have ha:=PySem.F.args_bexc_ga (.ref x) (.str "__class__" t)
 have LI:Looks (model prog w) hh (isInstance (.ref x) (.type "BaseException")) true:=L0.andThen L4
 simp only[checkBuiltinCall,hkd,hsp]
 refine wpAny_bind (LI.at ?_)
 simp only[Bool.not_true,Bool.false_eq_true,if_false]
 refine wpAny_of_eq (a:=()) ha ?_
 unfold Builtin.«object.__getattribute__»
 refine wpAny_bind (m:=slotArgs _ _ _) (wpAny_pure ?_)
 dsimp only
 refine wpAny_bind ?_
 show wpAny _ _ (Builtin.ObjectAttr.attrName (.str "__class__" t)) _ _ _
 first
  |exact wpAny_pure (wpAny_bind (L0.at (wpAny_bind (L3.at ?_))))
  |(refine wpAny_pure (wpAny_bind (L0.at (wpAny_bind (L3.at ?_)))))
  |(unfold Builtin.ObjectAttr.attrName;refine wpAny_pure (wpAny_bind (L0.at (wpAny_bind (L3.at ?_)))))
 dsimp only
 unfold Builtin.ObjectAttr.bindTo
 show wpAny _ _ (holding [Value.builtin "object.__class__"] (call (.builtin "getset_descriptor.__get__") [.builtin "object.__class__",.ref x,.ref D]) >>= ret) _ _ _
 refine wpAny_bind (wpAny_holding (wpAny_call (class_get (s:=⟨hh,g,d,t+1,os⟩) X I hm ?_)))
 refine wpAny_pure ?_
 exact handed_on rfl (wpAny_pure h)
theorem XCls.fo{K:Frag}{C:Addr}(h:XCls K C)(od:Option Obj):findObj K C od "__class__"=some (.bind (.builtin "getset_descriptor.__get__") (.builtin "object.__class__")):=by
 have hc:=h.cl
 obtain⟨cd,e⟩:=Option.isSome_iff_exists.mp hc
 unfold findObj
 rw[e,h.fi]
 simp only[Option.bind_some]
 rw[h.sp]
 simp only[Option.bind_some]
 rw[h.tk]
 rfl
noncomputable def XcP (x C:Addr)(d:Option Addr)(h:Heap):Prop:=XcAt x C d h/\∀dx,d=some dx->∃o,h.get? dx=some o
theorem Wv{K:Frag}{x C:Addr}{d:Option Addr}(hC:XCls K C):KitX K (.ref x) (.ref C) (XcP x C d) where
 ty:=λM h _ p=>by
  obtain⟨⟨oe,vs,h1,h2,h3,h4⟩,_⟩:=p
  exact h2▸(Looks.ld h1).andThen .now
 it:=λM h X _=>by
  have hcD:=hC.cl
  unfold clsIn at hcD
  split at hcD
  ·rename_i c' d' cd' sl' ho
   intro A' Q' E' s' k q
   unfold isType loadHead
   exact wpAny_bind (wpAny_loadPart (k _ _ (X _ _ ho)) (wpAny_pure q))
  ·cases hcD
 ne:=λh tp dd its n sl X htp=>by
  refine Bool.eq_false_iff.mpr λq=>?_
  have e:C=tp:=Value.ref.inj (beq_iff_eq.mp q)
  subst e
  have hcD:=hC.cl
  unfold clsIn at hcD
  split at hcD
  ·rename_i c' d' cd' sl' ho
   have z:=(X _ _ ho).symm.trans htp
   cases z
  ·cases hcD
 ca:=λX p k=>by
  obtain⟨⟨oe,vs,h1,h2,h3,h4⟩,h5⟩:=p
  cases d with
  |none=>
   refine kK (ox:=oe) (od:=none) X ⟨h1,h2,?_,?_⟩ hC.ga hC.hk (hC.fo _) hC.ob hC.bx k
   ·unfold notCls;rw[h3]
   ·rw[h4];trivial
  |some dx=>
   obtain⟨o,ho⟩:=h5 dx rfl
   refine kK (ox:=oe) (od:=some o) X ⟨h1,h2,?_,?_⟩ hC.ga hC.hk (hC.fo _) hC.ob hC.bx k
   ·unfold notCls;rw[h3]
   ·rw[h4];exact ho
end
section
variable {X:Cx}{D:DP}{W:XW}{Γ:Cn}{k:Nat}{pins:List (Addr×Obj)}{s:Shared}{σ:St}{H:Hp}{φ α:List Addr}{τ:Sl}{μ:Mem}{f g h:De}{a b c:Expr}{pos:Pos}{es:List Expr}{fs:List De}
theorem z_{e:Expr}{f:Str}{env:Env}(h:zJ e=true):attributeBase e f env (eval e env)=eval e env:=by
 cases e with
 |Call g args kws p=>
  cases g with
  |Name x p0=>
   have hx:(x != ("super":Str))=true:=h
   cases args<;>cases kws<;>first|rfl|(unfold attributeBase;simp[hx])
  |Attribute _ _ _=>rfl
  |_=>exact absurd (show false=true from h) Bool.false_ne_true
 |_=>first|exact absurd (show false=true from h) Bool.false_ne_true|rfl
theorem XDict.ext{D:DP}{fs:List (Nat×T)}{d:Option Addr}(x:XDict D φ α H fs d)(I:Inv X pins σ H s):∀dx,d=some dx->∃o,s.heap.get? dx=some o:=λdx e=>by
 subst e
 obtain⟨gs,_,_,e,_⟩:=x
 exact xb (I.hok dx _ e)
noncomputable def rdO (D:DP)(W:XW)(f:Dp):TO:=λσ H Q=>RdP D H σ λφ α τ μ=>Post D W φ α H σ (λo _ _ H'=>Q o H') (f τ μ)
theorem KD:PO X none (rdO D W pN):=by
 rintro pins s σ H Q I ⟨φ,α,τ,μ,sr,mr,p⟩
 exact KC pins s σ H Q I (Post.ok p (Stp.refl _ _) mr)
theorem JW(h:PE X a (rdE D W f)):PO X (some a) (rdO D W (pS f)):=by
 rintro pins s σ H Q I ⟨φ,α,τ,μ,sr,mr,p⟩
 refine Kt h pins s σ H Q I ⟨φ,α,τ,μ,sr,mr,p.bind.mono λt μ' α' H' st m q v d=>?_⟩
 split at q
 ·cases d
  exact⟨_,rfl,q.ok (Stp.refl _ _) m⟩
 ·exact q.elim
theorem va{ts:List T}{xs:List V}(l:DenL D φ α H ts xs)(lo hi:Option Int):DenL D φ α H (j2 ts lo hi) (kn xs lo hi):=by
 have e:ts.length=xs.length:=l.length
 have e1:∀n d o,VA n d o=HT.sIx n d o:=λn d o=>by cases o<;>rfl
 unfold j2 kn
 rw[e1,e1,e]
 exact (l.drop _).take _
theorem vw{prog:Program}{w:World}{A:Around}{E:Value->Shared->Prop}{s:Shared}{t sl:Addr}{items:Array Value}{vl vu:Value}{lo hi:Option Int}{Q:Value->Shared->Prop}(ht:IsTup s.heap t items)(hs:s.heap.IsSliceOf sl vl vu .none)(pl:IsPart vl lo)(pu:IsPart vu hi)
  (hw:HT.sIx items.size 0 lo=0/\HT.sIx items.size items.size hi=items.size) (h:Q (.ref t) s):wpAny (model prog w) A (getItem (.ref t) (.ref sl)) Q E s:=by
 obtain⟨os,hos,hcs,hds⟩:=id hs
 have hTs:s.TypeIs (.ref sl) "slice":=⟨os,hos,hcs⟩
 unfold getItem
 try with_reducible refine wpAny_holding ?_
 first|refine wpAny_bind (wpAny_pure ?_)|skip
 refine wpAny_bind (wpAny_sequenceKey ht.typeIs (by decide) ?_)
 refine wpAny_bind (wpAny_callSpecial?_slot (name:=Str.ofString "__getitem__") ht.typeIs slot_tuple_getitem (wpAny_call_entry slot_tuple_getitem ht.typeIs entry_tuple_getitem ?_ (args_tuple_getitem _ _)))
 show wpAny _ _ (Builtin.Tuple.tupleItemsOf (.ref t) >>= _) _ _ s
 refine wpAny_bind (tupleItemsOf_ ht ?_)
 refine wpAny_bind (wpAny_typeOf hTs ?_)
 rw[if_pos (by decide)]
 refine wpAny_bind (HT.sliceApplied_gen hs pl pu ?_)
 show wpAny _ _ (if (((HT.sIx items.size 0 lo:Nat):Int) == 0&&(1:Int) == 1&&(HT.sIx items.size items.size hi-HT.sIx items.size 0 lo) == items.size)=true then _ else _) _ _ s
 rw[if_pos (by rw[hw.1,hw.2];simp)]
 refine wpAny_bind ?_
 unfold Builtin.Tuple.tupleIsExact
 refine wpAny_bind (wpAny_typeOf ht.typeIs (wpAny_pure ?_))
 rw[if_pos (by decide)]
 first
  |exact wpAny_bind (wpAny_rule (wpAny_pure ⟨_,rfl,wpAny_pure h⟩))
  |exact wpAny_bind (wpAny_rule (wpAny_bind (wpAny_pure (wpAny_pure ⟨_,rfl,wpAny_pure h⟩))))
theorem Jz:SlR X (λx lo hi H Q=>∃a xs,x=.ref a/\SqT X.K H a xs/\(HT.sIx xs.length 0 lo=0/\HT.sIx xs.length xs.length hi=xs.length)/\Q (.ref a) H):=by
 intro pins s σ H x v vl vu lo hi sl Q I rx hs pl pu h
 obtain⟨a,xs,rfl,hx,hw,q⟩:=h
 cases rx
 obtain⟨its,r,ht,hz⟩:=I.tuple hx
 have hlen:its.toArray.size=xs.length:=by rw[List.size_toArray];exact r.length.symm
 exact⟨"tuple",_,PyProof.Rows.slot_tuple_getitem.lookup,ht.typeIs,vw ht hs pl pu (by rw[hlen];exact hw) ⟨.ref a,H,I,rfl,q⟩⟩
theorem YZ:SlR X (λx lo hi H Q=>∃z,x=.str z/\z.length<=sizeLine/\Q (.str (Txt.slice z lo hi)) H):=by
 intro pins s σ H x v vl vu lo hi sl Q I rx hs pl pu h
 obtain⟨z,rfl,hz,q⟩:=h
 obtain⟨t0,rfl⟩:=rx
 refine⟨"str",_,F.slot_str_getitem.lookup,typeIs_str _ _ _,?_⟩
 obtain⟨o,h1,h2,h3⟩:=hs
 have fin:∀(l u:Option (Int×Tok)),vl=partValue l->vu=partValue u->lo=l.map (·.1)->hi=u.map (·.1)->wpAny (model X.prog X.w) X.A (getItem (.str z t0) (.ref sl)) (EP X pins σ Q) X.xe s:=by
  rintro l u rfl rfl rfl rfl
  exact wpAny_getItem_str_slice (l:=l) (u:=u) (st:=none) ⟨o,h1,h2,h3⟩ rfl (post_val_or_str ⟨Nat.le_trans (Txt.slice_le z _ _) hz,λt' k=>⟨.str _,H,I.tok _,⟨t',rfl⟩,q⟩⟩)
 cases pl with
 |none=>
  cases pu with
  |none=>exact fin none none rfl rfl rfl rfl
  |int j u=>exact fin none (some (j,u)) rfl rfl rfl rfl
 |int i t=>
  cases pu with
  |none=>exact fin (some (i,t)) none rfl rfl rfl rfl
  |int j u=>exact fin (some (i,t)) (some (j,u)) rfl rfl rfl rfl
theorem Wy{lo hi:Option Expr}{fo go:Dp}{p2:Pos}(ha:PE X a (rdE D W f))(hl:PO X lo (rdO D W fo))(hu:PO X hi (rdO D W go)):PE X (.Subscript a (.Slice lo hi none p2) pos) (rdE D W (eSl f fo go)):=by
 refine PE.mono (WI (Kp.or (XR.or (Jz.or YZ))) ha hl hu) ?_
 rintro σ H Q ⟨φ,α,τ,μ,sr,mr,p⟩
 refine⟨φ,α,τ,μ,sr,mr,p.bind.mono λt μ1 α1 H1 st m q v d=>?_⟩
 refine⟨φ,α1,τ,μ1,sr.step st,m,q.bind.mono λl μ2 α2 H2 st2 m2 q2=>?_⟩
 refine⟨φ,α2,τ,μ2,(sr.step st).step st2,m2,q2.bind.mono λu μ3 α3 H3 st3 m3 q3=>?_⟩
 unfold z0i at q3
 split at q3
 ·obtain⟨ad,xs,rfl,_,_,r,dl⟩:=(d.step st2).step st3
  refine .inl ⟨ad,xs,rfl,.inl r,λz hz=>?_⟩
  exact q3.fresh m3 (zd hz) ⟨z,_,rfl,zj m3 hz,zh m3 hz,.inl z7,va (dl.step (Stp.new (zd hz))) _ _⟩
 ·obtain⟨ad,xs,rfl,n1,n2,r,dl⟩:=(d.step st2).step st3
  by_cases hw:HT.sIx xs.length 0 l=0/\HT.sIx xs.length xs.length u=xs.length
  ·refine .inr (.inr (.inl ⟨ad,xs,rfl,.inl r,hw,?_⟩))
   have e:kn xs l u=xs:=by unfold kn;rw[hw.1,hw.2];simp
   have dd:=va dl l u
   rw[e] at dd
   exact q3.here m3 ⟨ad,xs,rfl,n1,n2,r,dd⟩
  ·refine .inr (.inl ⟨ad,xs,rfl,.inl r,hw,λz hz=>?_⟩)
   exact q3.fresh m3 (zd hz) ⟨z,_,rfl,zj m3 hz,zh m3 hz,.inl z7,va (dl.step (Stp.new (zd hz))) _ _⟩
 ·obtain⟨hz,q3⟩:=q3.grd
  have d:v=.str _:=d
  subst d
  exact .inr (.inr (.inr ⟨_,rfl,zp hz,q3.here m3 rfl⟩))
 ·obtain⟨ts,hj,q3⟩:=q3.ex1
  obtain⟨ad,hi',rfl⟩:=(d.step st2).step st3
  obtain⟨xs,e2,dl⟩:=m3.ob _ ad _ hi' hj
  refine .inl ⟨ad,xs,rfl,.inl (.inl e2),λz hz=>?_⟩
  exact Post.fresh q3 m3 (zd hz) ⟨z,_,rfl,zj m3 hz,zh m3 hz,.inl z7,va (dl.step (Stp.new (zd hz))) _ _⟩
 ·exact q3.elim
theorem Ql{g:Fn}{fa:Addr}{fd:FuncData}{ps:List Str}{kk:Nat}{us:List Value}{vs:List V}{ts:List T}{Q:VK}(C:Ck D W Γ X k)(F:FnOk X.prog X.w X.K X.mg X.base (CX1 X.prog X.w) kk fa fd ps (spN D ps.length g))
  (hr:Room kk X.A) (hb:Binds X.K fd ps []) (har:∀ts μ K Z,g ts μ K Z->ts.length=ps.length) (I:Inv X pins σ H s) (r:Vals vs us) (mr:MRel D φ α H μ) (d:DenL D φ α H ts vs) (p:Post D W φ α H σ (RV D φ Q) (g ts μ)) :
  wpAny (model X.prog X.w) X.A (call (.ref fa) us) (EP X pins σ Q) X.xe s:=by
 obtain⟨K,Z,q,hq,hz⟩:=p
 have hl:ts.length=ps.length:=har ts μ K Z q
 have sp:spN D ps.length g vs H Q (λc d H'=>W c d σ H'):=⟨by rw[←d.length];exact hl,φ,α,ts,μ,d,mr,K,Z,q,hq,hz⟩
 have hl2:us.length=ps.length:=by rw[←r.length,←d.length];exact hl
 refine wpAny_call (codeAny_mono (F.run X.A X.stack s H ⟨us,[]⟩ us vs Q (λc d H'=>W c d σ H') hr I.env0 (by simpa using hb s us I.kIn (by simpa using hl2)) r sp) λr s' hq=>?_)
 cases r with
 |error e=>exact C.xe e s' (Q3 (E:=λc d H'=>W c d σ H') I hq λcls d H' w=>w)
 |ok fl=>
  cases fl with
  |ret u=>exact I.after hq
  |next=>exact False.elim hq
  |brk=>exact False.elim hq
  |cont=>exact False.elim hq
theorem Ke(C:Ck D W Γ X k){x:Str}{g:Fn}{p0:Pos}(hx:x∈Γ.G)(hg:Γ.gl x=.fn g)(hc:Γ.calm=true)(ha:EsOk X D W es fs):PE X (.Call (.Name x p0) es [] pos) (rdE D W (z9 g fs)):=by
 have q:=C.glo x hx
 rw[hg] at q
 obtain⟨fa,hm,fd,ps,kk,hk,hb,hkk,Fn,har⟩:=q
 have hr:=(C.rom hc).mono hkk
 have hs:=ha.stars
 have pa:=wM ha
 rintro pins s σ H Q I ⟨φ,α,τ,μ,sr,mr,p⟩
 refine wpAny_Call_Name_kw (qa I (C.glb x hx) hm ?_ (C.dbG x hx))
 cases es with
 |nil=>
  cases fs with
  |nil=>exact PySem.W.callWith_K0 I.kIn hk (Ql (ts:=[]) C Fn hr hb har I .nil mr rfl p)
  |cons f fs=>exact ha.elim
 |cons e es=>
  simp only[List.all_cons,Bool.and_eq_true] at hs
  refine PySem.W.callWith_K (h₀:=X.base) I.ok.mod.kin hk (thn (z0b pa I sr mr p) ?_) (z5 hs.1) (q9 hs.2)
  rintro us s1 ⟨vs,H1,ts,μ1,α1,I1,r1,st1,sr1,mr1,d1,_,p1⟩
  exact⟨I1.kIn,Ql C Fn hr hb har I1 r1 mr1 d1 p1⟩
theorem run_mk{c:Nat}{g:Fn}{C0 fI:Addr}{fd:FuncData}{ps:List Str}{kk:Nat}{us:List Value}{vs:List V}{ts:List T}{Q:VK}(C:Ck D W Γ X k)(ad:D.cad c=some C0)(M:Mk X.K C0 fI)(F:FnOk X.prog X.w X.K X.mg X.base (CX1 X.prog X.w) kk fI fd ps (spN D ps.length g))
  (hr:Room (kk+1) X.A) (hb:Binds X.K fd ps []) (har:∀ts μ K Z,g ts μ K Z->ts.length=ps.length) (I:Inv X pins σ H s) (r:Vals vs us) (mr:MRel D φ α H μ) (d:DenL D φ α H ts vs) (p:Post D W φ α H σ (RV D φ Q) (yA c g ts μ)) :
  wpAny (model X.prog X.w) X.A (call (.ref C0) us) (EP X pins σ Q) X.xe s:=by
 obtain⟨K,Z,⟨hp,hg⟩,hk,hz⟩:=p
 have hl:(T.mut 0::ts).length=ps.length:=har _ _ _ _ hg
 have hq:∀x dx,H x=none->H dx=none->dx≠x->spN D ps.length g (.ref x::(vs++[])) (upd (upd H dx (.own x)) x (.ins C0 dx [])) (λv H2=>v=.non/\Q (.ref x) H2) (λc d H'=>W c d σ H'):=by
  intro x dx hx hdx hne
  have sm:vc H (upd (upd H dx (.own x)) x (.ins C0 dx [])):=λb o e=>by rw[z8 (zD e hx),z8 (zD e hdx)];exact e
  have st0:Stp [] H [x] (upd (upd H dx (.own x)) x (.ins C0 dx [])):=⟨⟨[x],rfl,λb hb'=>by rw[List.mem_singleton.mp hb'];exact hx⟩,λb o _ e=>sm b o e,λb e=>by
   cases q:H b with
   |none=>rfl
   |some o=>rw[sm b o q] at e;cases e⟩
  have nx:x∉φ++α:=λz=>(List.mem_append.mp z).elim (zj mr hx) (zh mr hx)
  have ph:∀b∈φ++α,∃o,H b=some o/\noF o=true:=λb hb'=>(List.mem_append.mp hb').elim (mr.phi b) λz=>by
   obtain⟨i,hi⟩:=List.mem_iff_getElem?.mp z
   have hl':i<μ.length:=by rw[←mr.len];exact (List.getElem?_eq_some_iff.mp hi).1
   exact (mr.ob i b μ[i] hi (by simp[hl'])).some
  refine⟨by simp only[List.length_cons,List.append_nil] at hl ⊢;rw[←d.length];exact hl,φ++α,[x],.mut 0::ts,[.obj c []],⟨.ref x,vs++[],rfl,⟨x,rfl,rfl⟩,by rw[List.append_nil];exact (DenL.hide hp d Kw).step st0⟩,⟨rfl,by simp,λb hb'=>by rw[List.mem_singleton.mp hb'];exact nx,λb hb'=>let ⟨o,e,n⟩:=ph b hb';⟨o,sm b o e,n⟩,λi a o e1 e2=>?_⟩,?_⟩
  ·cases i with
   |zero=>simp at e1 e2;subst e1 e2;exact⟨C0,dx,[],ad,z7,rfl⟩
   |succ i=>simp at e1
  have back:∀{α2:List Addr} {H3:Hp},Stp [x] (upd (upd H dx (.own x)) x (.ins C0 dx [])) α2 H3->vc H H3:=λst b o e=>st.keep b o (λz=>by rw[List.mem_singleton.mp z,hx] at e;cases e) (sm b o e)
  refine⟨_,_,hg,?_,?_⟩
  ·rintro t μ2 ⟨rfl,fs,h0,hpf,q⟩ α2 H3 st m v dv
   refine⟨dv,?_⟩
   obtain⟨β,rfl,_⟩:=st.ext
   obtain⟨C1,dx1,gs,ad1,e1,lf⟩:=m.ob 0 x _ rfl h0
   have sm3:=back st
   exact hk _ _ q α H3 (Stp.new sm3) (mr.new sm3) _ ⟨x,C1,dx1,gs,rfl,zj mr hx,zh mr hx,ad1,e1,DenF.hide hpf lf uo⟩
  ·rintro e fs μ2 ⟨hpf,q⟩ α2 H3 C1 d1 st m had xd
   have sm3:=back st
   exact hz _ _ _ q α H3 C1 d1 (Stp.new sm3) (mr.new sm3) had (XDict.hide hpf xd uo)
 have hq1:=hq (s.heap.objs.size+1) s.heap.objs.size (I.hok.fresh (Nat.le_succ _)) (I.hok.fresh (Nat.le_refl _)) (Nat.ne_of_lt (Nat.lt_succ_self _))
 have I2:=Inv.made (C:=C0) I
 have r2:Vals (V.ref (s.heap.objs.size+1)::(vs++[])) (Value.ref (s.heap.objs.size+1)::us):=.cons rfl (by rw[List.append_nil];exact r)
 have hlu:(Value.ref (s.heap.objs.size+1)::us++[]).length=ps.length:=by
  rw[List.append_nil,List.length_cons,←r.length,←d.length]
  exact hl
 refine wpAny_call (Vi (f:=fI) I.kIn M.makes M.init (beq_iff_eq.mp M.fn) (codeAny_mono (F.run _ X.stack _ _ ⟨Value.ref (s.heap.objs.size+1)::us,[]⟩ (Value.ref (s.heap.objs.size+1)::us) _ _ (λc d H'=>W c d σ H') (hr.make C0 us [])
  (I2.env0.make C0 us []) (by simpa using hb _ (Value.ref (s.heap.objs.size+1)::us) I2.kIn hlu) r2 hq1) λr s' hq'=>?_))
 cases r with
 |error e=>exact C.xe e s' (Q3 (E:=λc d H'=>W c d σ H') I2 hq' λcls d H' w=>w)
 |ok fl=>
  cases fl with
  |ret u=>
   obtain⟨v,H',I3,rv,ev,q3⟩:=I2.after hq'
   subst ev
   exact⟨rv,⟨V.ref (s.heap.objs.size+1),H',I3,rfl,q3⟩⟩
  |next=>exact False.elim hq'
  |brk=>exact False.elim hq'
  |cont=>exact False.elim hq'
theorem Kb(C:Ck D W Γ X k){x:Str}{c:Nat}{g:Fn}{p0:Pos}(hx:x∈Γ.G)(hg:Γ.gl x=.mk c true g)(hc:Γ.calm=true)(ha:EsOk X D W es fs):PE X (.Call (.Name x p0) es [] pos) (rdE D W (eMk c g fs)):=by
 have q:=C.glo x hx
 rw[hg] at q
 obtain⟨C0,fI,fd,ps,kk,ad,hm,M,hb,hkk,Fn,har⟩:=q
 have hr:=(C.rom hc).mono hkk
 have hs:=ha.stars
 have pa:=wM ha
 rintro pins s σ H Q I ⟨φ,α,τ,μ,sr,mr,p⟩
 refine wpAny_Call_Name_kw (qa I (C.glb x hx) hm ?_ (C.dbG x hx))
 cases es with
 |nil=>
  cases fs with
  |nil=>exact PySem.W.callWith_K0 I.kIn M.kp (run_mk (ts:=[]) C ad M Fn hr hb har I .nil mr rfl p)
  |cons f fs=>exact ha.elim
 |cons e es=>
  simp only[List.all_cons,Bool.and_eq_true] at hs
  refine PySem.W.callWith_K (h₀:=X.base) I.ok.mod.kin M.kp (thn (z0b pa I sr mr p) ?_) (z5 hs.1) (q9 hs.2)
  rintro us s1 ⟨vs,H1,ts,μ1,α1,I1,r1,st1,sr1,mr1,d1,_,p1⟩
  exact⟨I1.kIn,run_mk C ad M Fn hr hb har I1 r1 mr1 d1 p1⟩
theorem YO(C:Ck D W Γ X k){x:Str}{n:Nat}(hp:zJ a=true)(hn:(x,n)∈Γ.fld)(ha:PE X a (rdE D W f)):PE X (.Attribute a x pos) (rdE D W (Vp f n)):=by
 refine PE.mono (YJ ha (z_ hp)) ?_
 rintro σ H Q ⟨φ,α,τ,μ,sr,mr,p⟩
 refine⟨φ,α,τ,μ,sr,mr,p.bind.mono λt μ1 α1 H1 st m q v d=>?_⟩
 unfold Z7 at q
 split at q
 ·split at q
  ·rename_i c fs _ w hw
   obtain⟨ad,C0,dx,gs,rfl,_,_,e1,e2,l⟩:=d
   obtain⟨y,z,hy,hz,dz⟩:=l.look hw
   obtain⟨c0,c1,c2⟩:=C.fld c C0 x n e1 hn
   rw[hy] at c0;cases c0
   exact⟨ad,C0,dx,gs,z,rfl,e2,c1,c2,hz,q.here m dz⟩
  ·exact q.elim
 ·obtain⟨c,fs,w,hi,hw,q⟩:=q.ex3
  obtain⟨ad,hi',rfl⟩:=d
  obtain⟨C0,dx,gs,e1,e2,l⟩:=m.ob _ ad _ hi' hi
  obtain⟨y,z,hy,hz,dz⟩:=l.look hw
  obtain⟨c0,c1,c2⟩:=C.fld c C0 x n e1 hn
  rw[hy] at c0;cases c0
  exact⟨ad,C0,dx,gs,z,rfl,e2,c1,c2,hz,Post.here q m dz⟩
 ·exact q.elim
end
section
variable {X:Cx}{D:DP}{W:XW}{Γ:Cn}{k:Nat}{pins:List (Addr×Obj)}{s:Shared}{σ:St}{H:Hp}{φ α:List Addr}{τ:Sl}{μ:Mem}{f g h:De}{a b c:Expr}{pos:Pos}{es:List Expr}
theorem ZS{B:Prop}(C:Ck D W Γ X k){c:Nat}{C0 dx ad:Addr}{gs:List (Str×V)}(I:Inv X pins σ H s)(e1:D.cad c=some C0)(ea:H ad=some (.ins C0 dx gs))
  (hh:∀tv P,yF D c tv->PySem.W.KitX X.K (.ref ad) tv P->P s.heap->(Value.ref ad)≠.builtin "__main__.__loader__#opaque"->B):B:=by
 have o:=C.ocx c C0 e1
 obtain⟨mA,O,_⟩:=yk I.hok ea
 obtain⟨od,J,_⟩:=O.look
 exact hh _ _ (.inr (.inr (.inr (.inr (.inr (.inr (.inr (.inr ⟨C0,e1,rfl⟩)))))))) (PySem.W.kitx_own (o.cl.get _) o.cl.hd o.fi o.sp o.tk o.ob) J (λz=>nomatch z)
theorem YF{B:Prop}(C:Ck D W Γ X k){t:T}{v:V}{u:Value}{n:Nat}(I:Inv X pins σ H s)(d:Den D φ α H t v)(r:RelV v u)(ht:tyN t μ=some n)
  (hh:∀tv P,yF D n tv->PySem.W.KitX X.K u tv P->P s.heap->u≠.builtin "__main__.__loader__#opaque"->B):B:=by
 cases t with
 |non=>cases d;cases r;cases ht;exact hh _ _ (.inl ⟨rfl,rfl⟩) PySem.W.kitx_none True.intro (λz=>nomatch z)
 |bl b=>cases d;cases r;cases ht;exact hh _ _ (.inr (.inl ⟨rfl,rfl⟩)) PySem.W.kitx_bool True.intro (λz=>nomatch z)
 |int i=>cases d;obtain⟨t,rfl⟩:=r;cases ht;exact hh _ _ (.inr (.inr (.inl ⟨rfl,rfl⟩))) PySem.W.kitx_int True.intro (λz=>nomatch z)
 |str i=>cases d;obtain⟨t,rfl⟩:=r;cases ht;exact hh _ _ (.inr (.inr (.inr (.inl ⟨rfl,rfl⟩)))) PySem.W.kitx_str True.intro (λz=>nomatch z)
 |tup ts=>
  obtain⟨ad,xs,rfl,_,_,q,_⟩:=d;cases r;cases ht
  obtain⟨its,_,⟨o,h1,h2,_⟩,_⟩:=I.tuple (.inl q)
  exact hh _ _ (.inr (.inr (.inr (.inr (.inl ⟨rfl,rfl⟩))))) PySem.W.kitx_tuple ⟨o,h1,h2⟩ (λz=>nomatch z)
 |lst ts=>
  obtain⟨ad,xs,rfl,_,_,q,_⟩:=d;cases r;cases ht
  obtain⟨its,_,p,_⟩:=I.list (.inl q)
  obtain⟨o,h1,h2,_⟩:=p.isList
  exact hh _ _ (.inr (.inr (.inr (.inr (.inr (.inl ⟨rfl,rfl⟩)))))) PySem.W.kitx_list ⟨o,h1,h2⟩ (λz=>nomatch z)
 |exc c fs=>
  obtain⟨ad,C0,dd,rfl,_,_,e1,e2,xd⟩:=d;cases r;cases ht
  have hx:=C.xcx n C0 e1
  obtain⟨p,_⟩:=(show ObjOk X.prog X.w H s.heap ad (.ext (XcAt ad C0 dd)) from I.hok ad _ e2)
  have xd:XDict D φ α H fs dd:=by cases dd<;>exact xd
  exact hh _ _ (.inr (.inr (.inr (.inr (.inr (.inr (.inl ⟨C0,e1,rfl⟩))))))) (Wv hx) ⟨p,xd.ext I⟩ (λz=>nomatch z)
 |dic kvs=>
  obtain⟨ad,gs,rfl,_,_,e,_⟩:=d;cases r;cases ht
  obtain⟨_,_,vs,_,dd⟩:=(show ObjOk X.prog X.w H s.heap ad (.dK gs) from I.hok ad _ e)
  exact hh _ _ (.inr (.inr (.inr (.inr (.inr (.inr (.inr (.inl ⟨rfl,rfl⟩)))))))) PySem.W.kitx_dict dd.typeIs (λz=>nomatch z)
 |obj c fs=>
  obtain⟨ad,C0,dx,gs,rfl,_,_,e1,e2,l⟩:=d;cases r;cases ht
  exact ZS C I e1 e2 hh
 | «mut» i=>cases ht
 |clo j cs=>cases ht
theorem JO{B:Prop}(C:Ck D W Γ X k){i:Nat}{v:V}{u:Value}{o:MO}(I:Inv X pins σ H s)(mr:MRel D φ α H μ)(d:Den D φ α H (.mut i) v)(r:RelV v u)(ht:μ[i]?=some o)(hnt:Xc o=false)
  (hh:∀tv P,yF D (tyO o) tv->PySem.W.KitX X.K u tv P->P s.heap->u≠.builtin "__main__.__loader__#opaque"->B):B:=by
 obtain⟨ad,hi,rfl⟩:=d
 cases r
 have dd:=mr.ob i ad o hi ht
 cases o with
 |lst ts=>
  obtain⟨xs,q,_⟩:=dd
  obtain⟨its,_,p,_⟩:=I.list (.inl (.inl q))
  obtain⟨o,h1,h2,_⟩:=p.isList
  exact hh _ _ (.inr (.inr (.inr (.inr (.inr (.inl ⟨rfl,rfl⟩)))))) PySem.W.kitx_list ⟨o,h1,h2⟩ (λz=>nomatch z)
 |obj c fs=>
  obtain⟨C0,dx,gs,e1,e2,l⟩:=dd
  exact ZS C I e1 e2 hh
 |dic kvs=>
  obtain⟨gs,e,_⟩:=dd
  obtain⟨_,_,vs,_,dd⟩:=(show ObjOk X.prog X.w H s.heap ad (.dK gs) from I.hok ad _ e)
  exact hh _ _ (.inr (.inr (.inr (.inr (.inr (.inr (.inr (.inl ⟨rfl,rfl⟩)))))))) PySem.W.kitx_dict dd.typeIs (λz=>nomatch z)
 |tab j=>cases hnt
 |dct ks=>
  obtain⟨xs,_,_,_,_,q,_⟩:=dd
  obtain⟨⟨o,es,ep,h1,h2,_⟩,_⟩:=(show ObjOk X.prog X.w H s.heap ad (.ext (X1 ad xs)) from I.hok ad _ q)
  exact hh _ _ (.inr (.inr (.inr (.inr (.inr (.inr (.inr (.inl ⟨rfl,rfl⟩)))))))) PySem.W.kitx_dict ⟨o,h1,h2.1⟩ (λz=>nomatch z)
theorem Qn{B:Prop}(C:Ck D W Γ X k){t:T}{v:V}{u:Value}{cs:List Nat}{Q:VK}(I:Inv X pins σ H s)(mr:MRel D φ α H μ)(d:Den D φ α H t v)(r:RelV v u)(q:Post D W φ α H σ (RV D φ Q) (WL cs t μ))
  (hh:∀n tv P,Post D W φ α H σ (RV D φ Q) (.ok (.bl (isAny n cs)) μ)->yF D n tv->PySem.W.KitX X.K u tv P->P s.heap->u≠.builtin "__main__.__loader__#opaque"->B):B:=by
 unfold WL at q
 split at q
 ·obtain⟨o,ho,q⟩:=q.som
  rcases q.br with⟨_,q⟩|⟨hb,q⟩
  ·exact q.elim
  ·exact JO C I mr d r ho hb λtv P=>hh _ tv P q
 ·split at q
  ·rename_i tn htn
   exact YF C I d r htn λtv P=>hh _ tv P q
  ·exact q.elim
noncomputable def qJ(Γ:Cn):List Expr->Option (List Nat)
 |[]=>some []
 |e::r=>match e with
  |.Name x _=>if (idx Γ.N x).isNone&&Γ.G.contains x then (match Γ.cls.lookup x with
   |some c=>(qJ Γ r).map (c::·)
   |none=>none) else none
  |_=>none
noncomputable def jm(Γ:Cn)(e:Expr):Option (List Nat):=match e with
 |.Name _ _=>qJ Γ [e]
 |.Tuple es _ _=>if decide (es.length<=room) then qJ Γ es else none
 |_=>none
theorem lookup_mem{β:Type}{x:Str}{v:β}:∀{l:List (Str×β)},l.lookup x=some v->(x,v)∈l
 |[],h=>by cases h
 |(y,w)::r,h=>by
  rw[List.lookup_cons] at h
  cases q:x == y with
  |true=>rw[q] at h;cases h;rw[beq_iff_eq.mp q];exact List.mem_cons_self
  |false=>rw[q] at h;exact List.mem_cons_of_mem _ (lookup_mem h)
theorem Ye(C:Ck D W Γ X k){x:Str}{c:Nat}(hc:x∈Γ.G)(hl:(x,c)∈Γ.cls):∃u v,Wz X x u/\ClsV v u/\∀p0,PE X (.Name x p0) (tC v):=by
 obtain⟨u,v,cv,r⟩:=C.clv x c hl
 refine⟨u,v,cv,r,λp0=>?_⟩
 rcases cv with h|⟨h,hb,hn⟩
 ·exact ZF (C.glb x hc) h r.rel (C.dbG x hc)
 ·exact K_ (C.glb x hc) h hb r.rel hn (C.dbG x hc)
theorem xM(C:Ck D W Γ X k):∀{es:List Expr} {cs:List Nat},qJ Γ es=some cs->∃us vs,(∀us',Vals vs us'->us'=us)/\vs.length=es.length/\es.all noStar=true/\PA X es (λ_ H Q=>Q vs H)/\∀t tv,yF D t tv->PySem.W.kitAny X.K tv us=some (isAny t cs)
 |[],cs,h=>by
  simp[qJ] at h;subst h
  exact⟨[],[],λus' r=>by cases r;rfl,rfl,rfl,λpos pins s σ H Q I q=>zH pos pins s σ H Q I q,λt tv _=>rfl⟩
 |e::es,cs,h=>by
  unfold qJ at h
  split at h
  ·rename_i x p0
   split at h
   ·rename_i hc
    simp only[Bool.and_eq_true,List.contains_iff_mem] at hc
    split at h
    ·rename_i c hl
     cases hr:qJ Γ es with
     |none=>rw[hr] at h;cases h
     |some cs'=>
      rw[hr] at h
      cases h
      have hm:=lookup_mem hl
      obtain⟨us,vs,rv,hl,hs,hp,hk⟩:=xM C hr
      obtain⟨u,v,cv,r,pe⟩:=Ye C hc.2 hm
      refine⟨u::us,v::vs,λus' q=>by cases q with|cons q1 q2=>rw[r.only q1,rv _ q2],by simp[hl],by simp[noStar,hs],λpos pins s σ H Q I q=>zm (pe p0) hp (z5 rfl) pos pins s σ H Q I q,λt tv ht=>?_⟩
      have k1:=C.isi t x c hm tv u ht cv
      have k2:=hk t tv ht
      unfold PySem.W.kitAny
      rw[k1]
      rw[jq]
      cases hb:qb t c with
      |true=>rfl
      |false=>exact k2
    ·cases h
   ·cases h
  ·cases h
theorem Ym (C:Ck D W Γ X k) {cs:List Nat} {p0:Pos} (hx:("isinstance":Str)∈Γ.G) (hg:Γ.gl "isinstance"=.none) (hs:noStar a=true) (hcs:jm Γ c=some cs) (ha:PE X a (rdE D W f)):PE X (.Call (.Name "isinstance" p0) [a,c] [] pos) (rdE D W (jF cs f)):=by
 have hm:=C.glo _ hx
 rw[hg] at hm
 rintro pins s σ H Q I ⟨φ,α,τ,μ,sr,mr,p⟩
 refine wpAny_Call_Name_kw (qQ I (C.glb _ hx) hm boot_isinstance ?_ (by decide) (C.dbG _ hx))
 unfold jm at hcs
 split at hcs
 ·rename_i cn pc
  obtain⟨us0,vs0,hu,hl,hst,hp,hk⟩:=xM C hcs
  refine PyProof.Rows.callWith_builtin1 (thn (zm ha hp (z5 hs) pos pins s σ H (λvs H1=>∃v t μ1 α1,vs=v::vs0/\Stp α H α1 H1/\MRel D φ α1 H1 μ1/\Den D φ α1 H1 t v/\Post D W φ α1 H1 σ (RV D φ Q) (WL cs t μ1)) I ⟨φ,α,τ,μ,sr,mr,p.bind.mono λt μ' α' H' st m q v d=>⟨v,t,μ',α',rfl,st,m,d,q⟩⟩) ?_) (z5 hs) (q9 (by rfl))
  rintro us s1 ⟨vs,H1,I1,rv,v,t,μ1,α1,rfl,st,m,d,q⟩
  cases rv with
  | @cons _ u _ us' r1 r2=>
  obtain rfl:=hu us' r2
  have hlu:us'.length=1:=by rw[←r2.length];exact hl
  match us',hlu with
  |[uc],_=>
  refine Qn C I1 m d r1 q λtn tv P q ht kx hP hne=>?_
  have kk:=hk tn tv ht
  have k1:PySem.W.kitOne X.K tv uc=some (isAny tn cs):=by
   unfold PySem.W.kitAny at kk
   split at kk
   ·rename_i hb;rw[hb];exact kk
   ·rename_i hb;rw[hb];exact kk
   ·cases kk
  exact PySem.W.kia_one kx I1.kIn hP k1 hne λtk=>⟨.bl _,H1,I1.tok tk,rfl,q.here m rfl⟩
 ·rename_i ees kk pc
  split at hcs
  case isFalse=>cases hcs
  rename_i hlen
  obtain⟨us0,vs0,hu,hl,hst,hp,hk⟩:=xM C hcs
  refine PyProof.Rows.callWith_builtin1 (thn (zm ha (zm (VP hp) zH (z5 rfl)) (z5 hs) pos pins s σ H (λvs H2=>∃v tp H1 t μ1 α1,vs=[v,.ref tp]/\H1 tp=none/\H2=upd H1 tp (.tup vs0)/\Stp α H α1 H1/\MRel D φ α1 H1 μ1/\Den D φ α1 H1 t v/\Post D W φ α1 H1 σ (RV D φ Q) (WL cs t μ1)) I ⟨φ,α,τ,μ,sr,mr,p.bind.mono λt μ' α' H' st m q v d=>⟨by rw[hl];exact zp (by simpa using hlen),λtp htp=>⟨v,tp,H',t,μ',α',rfl,htp,rfl,st,m,d,q⟩⟩⟩) ?_) (z5 hs) (q9 (by rfl))
  rintro us s1 ⟨vs,H2,I1,rv,v,tp,H1,t,μ1,α1,rfl,htp,rfl,st,m,d,q⟩
  obtain⟨u,ut,rfl,r1,r2⟩:=vals2 rv
  have r2:ut=Value.ref tp:=r2
  subst r2
  have sm:vc H1 (upd H1 tp (.tup vs0)):=zd htp
  refine Qn C I1 (m.new sm) (d.step (Stp.new sm)) r1 (q.step (Stp.new sm)) λtn tv P q ht kx hP hne=>?_
  obtain⟨_,its,rvs,⟨o,ho,hcl,n,hd⟩⟩:=(show ObjOk X.prog X.w _ s1.heap tp (.tup vs0) from I1.hok tp _ z7)
  obtain rfl:=hu its rvs
  obtain⟨oc,odd,odt,osl⟩:=o
  simp only at hcl hd
  subst hcl hd
  exact PySem.W.kia_tup kx I1.kIn hP ho (hk tn tv ht) hne λtk=>⟨.bl _,_,I1.tok tk,rfl,q.here (m.new sm) rfl⟩
 ·cases hcs
end
section
variable {X:Cx}{D:DP}{W:XW}{Γ:Cn}{k:Nat}{pins:List (Addr×Obj)}{s:Shared}{σ:St}{H:Hp}{φ α:List Addr}{τ:Sl}{μ:Mem}{f g h:De}{a b c:Expr}{pos:Pos}{es:List Expr}
noncomputable def B1 (X:Cx)(D:DP)(W:XW)(fv:Value)(op:T->Mem->RE T):Prop:=
 ∀(pins:List (Addr×Obj)) (s:Shared) (σ:St) (H:Hp) (φ α:List Addr) (μ:Mem) (t:T) (v:V) (u:Value) (Q:VK),Inv X pins σ H s->MRel D φ α H μ->Den D φ α H t v->RelV v u->Post D W φ α H σ (RV D φ Q) (op t μ)->
  wpAny (model X.prog X.w) X.A (call fv [u]) (EP X pins σ Q) X.xe s
theorem Xr (C:Ck D W Γ X k) {x:Str} {id:String} {op:T->Mem->RE T} {p0:Pos} (hx:x∈Γ.G) (hg:Γ.gl x=.none) (hv:bootBuiltins x=some (.builtin id)) (hn:x≠"__name__") (hs:noStar a=true) (hb:B1 X D W (.builtin id) op) (ha:PE X a (rdE D W f)) :
  PE X (.Call (.Name x p0) [a] [] pos) (rdE D W (eB1 op f)):=by
 have hm:=C.glo _ hx
 rw[hg] at hm
 rintro pins s σ H Q I ⟨φ,α,τ,μ,sr,mr,p⟩
 refine wpAny_Call_Name_kw (qQ I (C.glb _ hx) hm hv ?_ hn (C.dbG _ hx))
 refine PyProof.Rows.callWith_builtin1 (thn (zm ha zH (z5 hs) pos pins s σ H (λvs H1=>∃v t μ1 α1,vs=[v]/\Stp α H α1 H1/\MRel D φ α1 H1 μ1/\Den D φ α1 H1 t v/\Post D W φ α1 H1 σ (RV D φ Q) (op t μ1)) I ⟨φ,α,τ,μ,sr,mr,p.bind.mono λt μ' α' H' st m q v d=>⟨v,t,μ',α',rfl,st,m,d,q⟩⟩) ?_) (z5 hs) (q9 (by rfl))
 rintro us s1 ⟨vs,H1,I1,rv,v,t,μ1,α1,rfl,st,m,d,q⟩
 obtain⟨u,rfl,r1⟩:=vals1 rv
 exact hb pins s1 σ H1 φ α1 μ1 t v u Q I1 m d r1 q
theorem X6 (C:Ck D W Γ X k) {x:Str} {id:String} {op:T->Mem->RE T} {p0:Pos} (hx:x∈Γ.G) (hg:Γ.gl x=.none) (hv:bootBuiltins x=some (.type id)) (hn:x≠"__name__") (hs:noStar a=true) (hb:B1 X D W (.type id) op) (ha:PE X a (rdE D W f)) :
  PE X (.Call (.Name x p0) [a] [] pos) (rdE D W (eB1 op f)):=by
 have hm:=C.glo _ hx
 rw[hg] at hm
 rintro pins s σ H Q I ⟨φ,α,τ,μ,sr,mr,p⟩
 refine wpAny_Call_Name_kw (qQ I (C.glb _ hx) hm hv ?_ hn (C.dbG _ hx))
 refine PyProof.Rows.callWith_type1 (thn (zm ha zH (z5 hs) pos pins s σ H (λvs H1=>∃v t μ1 α1,vs=[v]/\Stp α H α1 H1/\MRel D φ α1 H1 μ1/\Den D φ α1 H1 t v/\Post D W φ α1 H1 σ (RV D φ Q) (op t μ1)) I ⟨φ,α,τ,μ,sr,mr,p.bind.mono λt μ' α' H' st m q v d=>⟨v,t,μ',α',rfl,st,m,d,q⟩⟩) ?_) (z5 hs) (q9 (by rfl))
 rintro us s1 ⟨vs,H1,I1,rv,v,t,μ1,α1,rfl,st,m,d,q⟩
 obtain⟨u,rfl,r1⟩:=vals1 rv
 exact hb pins s1 σ H1 φ α1 μ1 t v u Q I1 m d r1 q
theorem UR:B1 X D W (.builtin "len") wO:=by
 intro pins s σ H φ α μ t v u Q I mr d r p
 unfold wO at p
 split at p
 ·obtain⟨ad,xs,rfl,_,_,q,l⟩:=d
  exact qC pins s σ H _ _ Q I (.cons r .nil) ⟨ad,xs,rfl,.inl (.inl q),by rw[←l.length];exact p.here mr rfl⟩
 ·obtain⟨ad,xs,rfl,_,_,q,l⟩:=d
  exact qC pins s σ H _ _ Q I (.cons r .nil) ⟨ad,xs,rfl,.inr (.inl q),by rw[←l.length];exact p.here mr rfl⟩
 ·cases d
  obtain⟨hl,p⟩:=p.grd
  exact xV pins s σ H _ _ Q I (.cons r .nil) ⟨_,rfl,zp hl,p.here mr rfl⟩
 ·obtain⟨ts,hj,p⟩:=p.ex1
  obtain⟨ad,hi,rfl⟩:=d
  obtain⟨xs,q,l⟩:=mr.ob _ ad _ hi hj
  exact qC pins s σ H _ _ Q I (.cons r .nil) ⟨ad,xs,rfl,.inl (.inl (.inl q)),by rw[←l.length];exact Post.here p mr rfl⟩
 ·exact p.elim
theorem ZJ{p:Addr}{o:HO}(hp:H p=none):Stp α H (α++[p]) (upd H p o):=⟨⟨[p],rfl,by simpa using hp⟩,λb u _ e=>zd hp b u e,λb e=>by
 by_cases z:b=p
 ·rw[z,z7] at e;cases e
 ·rw[z8 z] at e;exact e⟩
theorem MRel.lay{p:Addr}{ts:List T}{vs:List V}(m:MRel D φ α H μ)(hp:H p=none)(l:DenL D φ α H ts vs):MRel D φ (α++[p]) (upd H p (.lst vs)) (μ++[.lst ts]):=by
 have st:Stp α H (α++[p]) (upd H p (.lst vs)):=ZJ hp
 have hl:=m.len
 refine⟨by simp[hl],?_,λb hb=>?_,λb hb=>?_,λi a o e1 e2=>?_⟩
 ·rw[List.nodup_append]
  refine⟨m.nd,by simp,λa ha b hb=>?_⟩
  rw[List.mem_singleton.mp hb]
  intro z
  exact zh m hp (z▸ha)
 ·rcases List.mem_append.mp hb with h|h
  ·exact m.dis b h
  ·rw[List.mem_singleton.mp h];exact zj m hp
 ·obtain⟨u,e,n⟩:=m.phi b hb
  exact⟨u,zd hp b u e,n⟩
 ·by_cases hi:i<α.length
  ·rw[List.getElem?_append_left hi] at e1
   rw[List.getElem?_append_left (by omega)] at e2
   have d:=m.ob i a o e1 e2
   obtain⟨u,q,_⟩:=d.some
   exact d.step st ((zd hp _ _ q).trans q.symm)
  ·rw[List.getElem?_append_right (by omega)] at e1 e2
   have hi':i-α.length=0:=by
    by_cases z:i-α.length=0
    ·exact z
    ·rw[List.getElem?_eq_none (by simp;omega)] at e1;cases e1
   have hi2:i-μ.length=0:=by omega
   rw[hi'] at e1
   rw[hi2] at e2
   have e1:some p=some a:=e1
   have e2:some (MO.lst ts)=some o:=e2
   cases e1;cases e2
   exact⟨vs,z7,l.step st⟩
theorem Post.lay{Q:VK}{p:Addr}{ts:List T}{vs:List V}(q:Post D W φ α H σ (RV D φ Q) (.ok (.mut μ.length) (μ++[.lst ts])))(m:MRel D φ α H μ)(hp:H p=none)(l:DenL D φ α H ts vs):Q (.ref p) (upd H p (.lst vs)):=
 q.ok (ZJ hp) (m.lay hp l) _ ⟨p,by rw[←m.len,List.getElem?_append_right (Nat.le_refl _)];simp,rfl⟩
theorem UP:B1 X D W (.type "list") WQ:=by
 intro pins s σ H φ α μ t v u Q I mr d r p
 unfold WQ at p
 split at p
 ·obtain⟨ad,xs,rfl,_,_,q,l⟩:=d
  exact qN pins s σ H _ _ Q I (.cons r .nil) ⟨ad,xs,rfl,.inl (.inl q),λz hz=>p.lay mr hz l⟩
 ·obtain⟨ad,xs,rfl,_,_,q,l⟩:=d
  exact qN pins s σ H _ _ Q I (.cons r .nil) ⟨ad,xs,rfl,.inr (.inl q),λz hz=>p.lay mr hz l⟩
 ·obtain⟨ts,hj,p⟩:=p.ex1
  obtain⟨ad,hi,rfl⟩:=d
  obtain⟨xs,q,l⟩:=mr.ob _ ad _ hi hj
  exact qN pins s σ H _ _ Q I (.cons r .nil) ⟨ad,xs,rfl,.inl (.inl (.inl q)),λz hz=>Post.lay p mr hz l⟩
 ·exact p.elim
theorem U6{fs:List De}(hl:es.length<=room)(ha:EsOk X D W es fs):PE X (.List es pos) (rdE D W (Qu fs)):=by
 refine PE.mono (WT (wM ha)) ?_
 rintro σ H Q ⟨φ,α,τ,μ,sr,mr,p⟩
 refine⟨φ,α,τ,μ,sr,mr,p.bind.mono λts μ1 α1 H1 st m q vs dl hn=>⟨by rw[hn];exact zp hl,λz hz=>q.lay m hz dl⟩⟩
theorem yX:∀{ts:List T} {bs:List Bool} {vs:List V} {us:List Value},bools ts=some bs->DenL D φ α H ts vs->Vals vs us->us=bs.map Value.bool
 |[],bs,vs,us,h,l,r=>by
  simp[bools] at h;subst h
  have l:vs=[]:=l
  subst l;cases r;rfl
 |t::ts,bs,vs,us,h,l,r=>by
  obtain⟨v,w,rfl,d,l⟩:=l
  cases t with
  |bl b=>
   simp only[bools] at h
   cases q:bools ts with
   |none=>rw[q] at h;cases h
   |some cs=>
    rw[q] at h;cases h
    cases r with
    |cons r1 r2=>
     cases d;cases r1
     rw[yX q l r2];rfl
  |_=>simp[bools] at h
theorem UU(hh:X.calm=true):B1 X D W (.builtin "all") Jm:=by
 intro pins s σ H φ α μ t v u Q I mr d r p
 unfold Jm at p
 split at p
 case h_2=>exact p.elim
 rename_i xs
 obtain⟨bs,hb,p⟩:=p.som
 obtain⟨ad,vs,rfl,_,_,q,l⟩:=d
 cases r
 obtain⟨its,rv,pl,hz⟩:=I.list (.inl q)
 have eb:=yX hb l rv
 have hl:=pl.isList
 have hlt:ad<s.heap.objs.size:=by obtain⟨_,e,_⟩:=hl;exact Heap.lt_size e
 refine call_all_walk (wpAny_pyIter_list hl ?_)
 refine⟨s.heap.objs.size,[s.heap.objs.size,ad],[s.heap.objs.size],its.toArray.size,_,_,λi=>(bs[i]?).getD true,rfl,Walks.list (A:=X.A.in1) (I.ok.hd hh) _ ad (Nat.ne_of_lt hlt) its.toArray,
  ⟨⟨_,Heap.get?_push_size _ rfl,rfl,rfl⟩,hl.push _⟩,λi v s' Q' E' hP hQ=>?_,λh' tk hk=>?_⟩
 ·have hP':its[i]?=some v:=by simpa using hP
  rw[eb,List.getElem?_map] at hP'
  cases e:bs[i]? with
  |none=>rw[e] at hP';cases hP'
  |some b=>
   rw[e] at hP'
   simp at hP'
   subst hP'
   simp only[e,Option.getD_some] at hQ
   exact wpAny_truthy_bool hQ
 ·have e:((List.range its.toArray.size).all λi=>(bs[i]?).getD true)=bs.all id:=by
   have hn:its.toArray.size=bs.length:=by simp[eb]
   rw[hn]
   rw[Bool.eq_iff_iff]
   simp only[List.all_eq_true,List.mem_range,id_eq]
   constructor
   ·intro h b hb'
    obtain⟨i,hi,rfl⟩:=List.mem_iff_getElem.mp hb'
    have:=h i hi
    simpa[hi] using this
   ·intro h i hi
    have:=h bs[i] (List.getElem_mem hi)
    simpa[hi] using this
  rw[e]
  have kp:∀b x,s.heap.get? b=some x->h'.get? b=some x:=λb x e=>hk b x (λhm=>by rw[List.mem_singleton.mp hm] at e;exact Nat.lt_irrefl _ (Heap.lt_size e)) (Heap.get?_push_of_some _ e)
  exact⟨.bl (bs.all id),H,I.kept (t':=tk) kp,rfl,p.here mr rfl⟩
theorem Stp.turn{x:Addr}{o:HO}(hx:x∈α)(hh:∃o',H x=some o'):Stp α H α (upd H x o):=by
 refine⟨⟨[],by simp,by simp⟩,λb u n e=>?_,λb e=>?_⟩
 ·rw[z8 (λ(z:b=x)=>n (by rw[z];exact hx))];exact e
 ·by_cases z:b=x
  ·rw[z,z7] at e;cases e
  ·rw[z8 z] at e;exact e
theorem MRel.turn{i:Nat}{x:Addr}{o:HO}{mo:MO}(m:MRel D φ α H μ)(hx:α[i]?=some x)(hi:i<μ.length)(st:Stp α H α (upd H x o))(d:DenO D φ α (upd H x o) mo x):MRel D φ α (upd H x o) (μ.set i mo):=by
 refine⟨by simp[m.len],m.nd,m.dis,λb hb=>?_,λj y o' e1 e2=>?_⟩
 ·obtain⟨u,hu,n⟩:=m.phi b hb
  exact⟨u,st.keep b u (λz=>m.dis b z hb) hu,n⟩
 ·by_cases q:i=j
  ·subst q
   rw[hx] at e1;cases e1
   rw[List.getElem?_set_self hi] at e2;cases e2
   exact d
  ·rw[List.getElem?_set_ne q] at e2
   have ne:y≠x:=λz=>by
    subst z
    obtain⟨h1,e1'⟩:=List.getElem?_eq_some_iff.mp e1
    obtain⟨h2,e2'⟩:=List.getElem?_eq_some_iff.mp hx
    exact q ((List.getElem_inj m.nd).mp (e2'.trans e1'.symm))
   exact DenO.step st (z8 ne) (m.ob j y o' e1 e2)
theorem J4{i:Nat}{x:Addr}{xs:List V}{ts:List T}{v:V}{t:T}(m2:MRel D φ α H μ)(hx2:α[i]?=some x)(hμ:μ[i]?=some (.lst ts))(hH:H x=some (.lst xs))(l:DenL D φ α H ts xs)(d:Den D φ α H t v) :
  Stp α H α (upd H x (.lst (xs++[v])))/\MRel D φ α (upd H x (.lst (xs++[v]))) (μ.set i (.lst (ts++[t]))):=by
 have st3:Stp α H α (upd H x (.lst (xs++[v]))):=Stp.turn (List.mem_of_getElem? hx2) ⟨_,hH⟩
 have hi:i<μ.length:=(List.getElem?_eq_some_iff.mp hμ).1
 exact⟨st3,m2.turn hx2 hi st3 ⟨_,z7,(l.step st3).append ⟨v,[],rfl,d.step st3,rfl⟩⟩⟩
theorem XZ{o:Expr}{pa pc:Pos}{go:De}(hp:zJ o=true)(hs:noStar a=true)(hline:(pa.endLine == pc.line)=true)(ho:PE X o (rdE D W go))(ha:PE X a (rdE D W f)) :
  PE X (.Call (.Attribute o "append" pa) [a] [] pc) (rdE D W (J6 go f)):=by
 have hb:starEach [a] X.env=[(false,eval a X.env)]:=z5 hs
 refine PE.mono (ZT PySem.F.plainAttrs_list PySem.F.slot_list_append PySem.F.type_list_append kB ho (zm ha zH (z5 hs)) (z_ hp) (by rw[hb];rfl) hline (z5 hs) rfl) ?_
 rintro σ H Q ⟨φ,α,τ,μ,sr,mr,p⟩
 refine⟨φ,α,τ,μ,sr,mr,p.bind.mono λot μ1 α1 H1 st1 m1 q ov dv=>?_⟩
 split at q
 case h_2=>exact q.elim
 rename_i i
 obtain⟨K,Z,⟨⟨ts0,hμ0⟩,hf⟩,hk,hz⟩:=q
 obtain⟨x,hx,rfl⟩:=dv
 obtain⟨xs0,hH0,l0⟩:=m1.ob _ x _ hx hμ0
 refine⟨.inl ⟨rfl,_,.inl (.inl hH0)⟩,φ,α1,τ,μ1,sr.step st1,m1,_,Z,hf,?_,hz⟩
 rintro t μ2 ⟨ts,hμ,hl,q2⟩ α2 H2 st2 m2 v d
 obtain⟨β,e2,_⟩:=st2.ext
 have hx2:α2[i]?=some x:=by
  rw[e2,List.getElem?_append_left (List.getElem?_eq_some_iff.mp hx).1];exact hx
 obtain⟨xs,hH,l⟩:=m2.ob i x _ hx2 hμ
 obtain⟨st3,m3⟩:=J4 m2 hx2 hμ hH l d
 refine⟨x,xs,v,rfl,rfl,hH,?_,?_⟩
 ·rw[←l.length];exact Nat.lt_of_lt_of_le hl (zp (Nat.le_refl _))
 ·exact hk _ _ q2 α2 _ (st2.trans st3) m3 .non rfl
end
end NH
namespace NH
open PySem PySem.Spec PyProof.Rows L2
open PySem.Builtin PySem.Builtin.Str PySem.Builtin.Int
section
variable {X:Cx}{D:DP}{W:XW}{Γ:Cn}{k:Nat}{pins:List (Addr×Obj)}{s:Shared}{σ:St}{H:Hp}{φ α:List Addr}{τ:Sl}{μ:Mem}{f g h:De}{a b c:Expr}{pos:Pos}{es:List Expr}
theorem VD:MtR X "str.index" (λx vs H Q=>∃i j n r,x=.str i/\vs=[.str j]/\Builtin.Str.occurrences i j 0 i.length 1=n::r/\Q (.int (n:Nat)) H):=by
 intro pins s σ H x vs v us Q I rx rv h
 obtain⟨i,j,n,r,rfl,rfl,ho,q⟩:=h
 obtain⟨t0,rfl⟩:=rx
 obtain⟨u,rfl,t1,rfl⟩:=rv.one
 exact SC.index ho ⟨.int n,H,I.tok _,⟨_,rfl⟩,q⟩
theorem V0{o:Expr}{pa pc:Pos}{go:De}(hp:zJ o=true)(hs:noStar a=true)(hline:(pa.endLine == pc.line)=true)(ho:PE X o (rdE D W go))(ha:PE X a (rdE D W f)) :
  PE X (.Call (.Attribute o "index" pa) [a] [] pc) (rdE D W (Zv go f)):=by
 have hb:starEach [a] X.env=[(false,eval a X.env)]:=z5 hs
 refine PE.mono (ZT PySem.F.plainAttrs_str PySem.F.slot_str_index PySem.F.type_str_index VD ho (zm ha zH (z5 hs)) (z_ hp) (by rw[hb];rfl) hline (z5 hs) rfl) ?_
 rintro σ H Q ⟨φ,α,τ,μ,sr,mr,p⟩
 refine⟨φ,α,τ,μ,sr,mr,p.bind.mono λot μ1 α1 H1 st1 m1 q ov dv=>?_⟩
 split at q
 case h_2=>exact q.elim
 have dv:ov=.str _:=dv
 subst dv
 refine⟨rfl,φ,α1,τ,μ1,sr.step st1,m1,q.bind.mono λt μ2 α2 H2 st2 m2 q2 v d=>?_⟩
 split at q2
 case h_2=>exact q2.elim
 obtain⟨n,q2⟩:=Post.ex0 q2
 obtain⟨r,hocc,q2⟩:=Post.ex1 q2
 have d:v=.str _:=d
 subst d
 exact⟨_,_,_,_,rfl,rfl,hocc,Post.here q2 m2 rfl⟩
end
end NH
namespace NH
open PySem PySem.Spec PyProof.Rows L2
structure ItV(D:DP)(J:It)(Ok:List Addr->List Addr->Hp->Prop)(xs:List T):Prop where
 go:∀(i:Nat) φ α H,Ok φ α H->i<xs.length->J.go i H
 yld:∀(i:Nat) φ α H v H' t,Ok φ α H->xs[i]?=some t->J.yld i H v H'->vc H H'/\Den D φ α H' t v
 stop:∀φ α H,Ok φ α H->J.stop xs.length H
noncomputable def OkI (D:DP)(φ α:List Addr)(H:Hp)(xs:List T)(lv:Mem->Prop)(Ok:List Addr->List Addr->Hp->Prop):Prop:=∀φ' α' H' μ',Lk φ α H φ' α' H'->MRel D φ' α' H' μ'->lv μ'->Ok φ' α' H'
noncomputable def rdI (D:DP)(W:XW)(f:Di):TI:=λσ H R=>RdP D H σ λφ α τ μ=>
 Post D W φ α H σ (λp μ' α' H'=>∀J Ok,ItV D J Ok p.1->OkI D φ α' H' p.1 p.2 Ok->p.2 μ'->R J H') (f τ μ).re
theorem Lk.trans{φ φ1 φ2 α α1 α2:List Addr}{H H1 H2:Hp}(a:Lk φ α H φ1 α1 H1)(b:Lk φ1 α1 H1 φ2 α2 H2):Lk φ α H φ2 α2 H2:=
 ⟨λx o n1 n2 e=>let ⟨m1,m2,e1⟩:=a.ob x o n1 n2 e;b.ob x o m1 m2 e1,λi x e=>b.st i x (a.st i x e)⟩
theorem Q9{D:DP}{φ α:List Addr}{H:Hp}{γ:Type}{f:γ->T}{xs:List γ}{i:Nat}{t:T}(h:(xs.map f)[i]?=some t):∃a,xs[i]?=some a/\t=f a:=by
 rw[List.getElem?_map] at h
 cases q:xs[i]? with
 |none=>rw[q] at h;cases h
 |some a=>rw[q] at h;cases h;exact⟨a,rfl,rfl⟩
section
variable {X:Cx}{D:DP}{W:XW}{Γ:Cn}{k:Nat}{pins:List (Addr×Obj)}{s:Shared}{σ:St}{H:Hp}{φ α:List Addr}{τ:Sl}{μ:Mem}{f g h:De}{a b c tg:Expr}{pos:Pos}{es:List Expr}
theorem uk{K:PySem.W.Frag}{ad:Addr}{xs:List T}:ItV D (Itl K ad) (λφ α H=>∃vs,Rd H ad (.lst vs)/\DenL D φ α H xs vs) xs:=
 ⟨λi φ α H ⟨vs,ok,l⟩ hi=>⟨vs,vs[i]'(by rw[←l.length];exact hi),.inl ok,by simp⟩,λi φ α H v H' t ⟨vs,ok,l⟩ hi y=>by
  obtain⟨rfl,y⟩:=y
  obtain⟨x,hx,d⟩:=l.get hi
  have e:=y vs (.inl ok)
  rw[e] at hx;cases hx;exact⟨λ_ _ z=>z,d⟩,λφ α H ⟨vs,ok,l⟩=>⟨vs,.inl ok,by rw[l.length];exact Nat.le_refl _⟩⟩
theorem Kl{K:PySem.W.Frag}{ad:Addr}{xs:List T}:ItV D (Itt K ad) (λφ α H=>∃vs,Rd H ad (.tup vs)/\DenL D φ α H xs vs) xs:=
 ⟨λi φ α H ⟨vs,ok,l⟩ hi=>⟨vs,vs[i]'(by rw[←l.length];exact hi),.inl ok,by simp⟩,λi φ α H v H' t ⟨vs,ok,l⟩ hi y=>by
  obtain⟨rfl,y⟩:=y
  obtain⟨x,hx,d⟩:=l.get hi
  have e:=y vs (.inl ok)
  rw[e] at hx;cases hx;exact⟨λ_ _ z=>z,d⟩,λφ α H ⟨vs,ok,l⟩=>⟨vs,.inl ok,by rw[l.length];exact Nat.le_refl _⟩⟩
theorem W6{n i j:Nat}(h:(List.range n)[i]?=some j):j=i:=by
 have:=(List.getElem?_eq_some_iff.mp h).2
 simpa using this.symm
noncomputable def ItC(z:Str):It:=⟨λi _=>i<z.cps.toList.length,λi H x H'=>H'=H/\∃c,z.cps.toList[i]?=some c/\x=.str ⟨#[c]⟩,λi _=>z.cps.toList.length<=i⟩
theorem JK{z:Str}:ItV D (ItC z) (λ_ _ _=>True) (z.cps.toList.map λc=>T.str ⟨#[c]⟩):=
 ⟨λi φ α H _ hi=>by (show i<_);simpa using hi,λi φ α H v H' t _ hi y=>by
  obtain⟨j,hj,rfl⟩:=Q9 (D:=D) (φ:=φ) (α:=α) (H:=H) hi
  obtain⟨rfl,c,hc,rfl⟩:=y
  rw[hj] at hc;cases hc;exact⟨λ_ _ z=>z,rfl⟩,λφ α H _=>by show _<=_;simp⟩
theorem VY {P:Program} {w:World} {K:PySem.W.Frag} {tg:Expr} {kd:String} (hk:kd="str_ascii_iterator"\/kd="str_iterator") (it:Addr) (z:Str) (t0:Tok):Turn P w K tg (ItC z) [it] it (λi h=>h.IsStrIter it kd z t0 i) where
 mem:=by simp
 obj:=λi h st b hb=>by
  have e:b=it:=by simpa using hb
  subst e
  obtain⟨o,e,c,d⟩:=st
  exact⟨o,e,λv z=>by rw[d] at z;cases z⟩
 keep:=λi h h' st k=>let ⟨o,ho,r⟩:=st;⟨o,k it (by simp) o ho,r⟩
 item:=by
  intro X hP hw hK hc i pins s σ H E I hf st hg
  subst hP hw hK
  obtain⟨f0,f1,f2,f3,f4,f5⟩:=hf it (by simp)
  have hi:i<z.cps.size:=by simpa[ItC] using hg
  have hcx:z.cps[i]?=some z.cps[i]:=Array.getElem?_eq_getElem hi
  have hcl:z.cps.toList[i]?=some z.cps[i]:=by rw[Array.getElem?_toList];exact hcx
  rcases hk with rfl|rfl
  ·refine wpAny_pyNext_ascii_item st hcx λh' st' sb=>?_
   have I1:Inv X pins σ H {s with heap:=h',toks:=s.toks+1}:=I.turned (λb o hb e=>(sb.2 b hb).trans e) f0 f1 f3 f4 f5
   obtain⟨o,e,c,d⟩:=id st'
   exact⟨.str ⟨#[z.cps[i]]⟩ s.toks,rfl,kC (s:={s with heap:=h',toks:=s.toks+1}) e c d (by decide) ⟨.str ⟨#[z.cps[i]]⟩,H,I1,⟨_,rfl⟩,⟨rfl,z.cps[i],hcl,rfl⟩,st',λb hb=>(hf b hb).1⟩⟩
  ·refine wpAny_pyNext_wide_item st hcx λh' st' sb=>?_
   have I1:Inv X pins σ H {s with heap:=h',toks:=s.toks+1}:=I.turned (λb o hb e=>(sb.2 b hb).trans e) f0 f1 f3 f4 f5
   obtain⟨o,e,c,d⟩:=id st'
   exact⟨.str ⟨#[z.cps[i]]⟩ s.toks,rfl,kC (s:={s with heap:=h',toks:=s.toks+1}) e c d (by decide) ⟨.str ⟨#[z.cps[i]]⟩,H,I1,⟨_,rfl⟩,⟨rfl,z.cps[i],hcl,rfl⟩,st',λb hb=>(hf b hb).1⟩⟩
 done:=by
  intro X hP hw hK hc i pins s σ H E I hf st hg
  subst hP hw hK
  obtain⟨f0,f1,f2,f3,f4,f5⟩:=hf it (by simp)
  have hx:z.cps[i]?=none:=Array.getElem?_eq_none (by have:z.cps.toList.length<=i:=hg;simpa using this)
  rcases hk with rfl|rfl
  ·exact wpAny_pyNext_ascii_end (I.ok.hd hc) st hx λh' eb=>⟨rfl,I.turned (t':=s.toks) (λb o hb e=>eb b o hb e) f0 f1 f3 f4 f5⟩
  ·exact wpAny_pyNext_wide_end (I.ok.hd hc) st hx λh' eb=>⟨rfl,I.turned (t':=s.toks) (λb o hb e=>eb b o hb e) f0 f1 f3 f4 f5⟩
 self:=λ_ _ _ _ _ st h=>by
  rcases hk with rfl|rfl
  ·exact wpAny_pyIter_striter_ascii st h
  ·exact wpAny_pyIter_striter_wide st h
theorem J_(ha:PE X a (rdE D W f)):PI X tg a (rdI D W (iE f)):=by
 rintro pins s σ H R I ⟨φ,α,τ,μ,sr,mr,p⟩
 refine thn (sub ha I sr mr p) ?_
 rintro u s1 ⟨v,H1,t,μ1,α1,I1,r1,st1,sr1,mr1,d1,p1⟩
 cases t with
 |lst ts=>
  obtain⟨ad,vs,rfl,n1,n2,q,l⟩:=d1
  cases r1
  obtain⟨its,rv,pl,hz⟩:=I1.list (.inl q)
  refine wpAny_pyIter_list pl.isList ?_
  refine⟨s1.heap.objs.size,[s1.heap.objs.size],_,_,H1,rfl,I1.kept (t':=s1.toks) λb o e=>Heap.get?_push_of_some _ e,xa ad _,⟨_,Heap.get?_push_size _ rfl,rfl,rfl⟩,λb hb=>?_,?_⟩
  ·have e:b=s1.heap.objs.size:=by simpa using hb
   subst e
   exact I1.fpOk (Nat.le_refl _) (I1.hok.fresh (Nat.le_refl _))
  ·have p2:Post D W φ α1 H1 σ _ (RE.ok (ts,lvT) μ1):=p1
   exact p2.ok (Stp.refl _ _) mr1 _ _ uk (λφ' α' H' μ' lk _ _=>by
    obtain⟨a',ws,e,_,_,q',l'⟩:=Den.lk lk (show Den D φ α1 H1 (.lst ts) (.ref ad) from ⟨ad,vs,rfl,n1,n2,q,l⟩)
    cases e;exact⟨ws,q',l'⟩) trivial
 |tup ts=>
  obtain⟨ad,vs,rfl,n1,n2,q,l⟩:=d1
  cases r1
  obtain⟨its,rv,pl,hz⟩:=I1.tuple (.inl q)
  refine wpAny_pyIter_tuple (show s1.heap.IsTuple ad its.toArray from pl) ?_
  refine⟨s1.heap.objs.size,[s1.heap.objs.size],_,_,H1,rfl,I1.kept (t':=s1.toks) λb o e=>Heap.get?_push_of_some _ e,Z4 ad _,⟨_,Heap.get?_push_size _ rfl,rfl,rfl⟩,λb hb=>?_,?_⟩
  ·have e:b=s1.heap.objs.size:=by simpa using hb
   subst e
   exact I1.fpOk (Nat.le_refl _) (I1.hok.fresh (Nat.le_refl _))
  ·have p2:Post D W φ α1 H1 σ _ (RE.ok (ts,lvT) μ1):=p1
   exact p2.ok (Stp.refl _ _) mr1 _ _ Kl (λφ' α' H' μ' lk _ _=>by
    obtain⟨a',ws,e,_,_,q',l'⟩:=Den.lk lk (show Den D φ α1 H1 (.tup ts) (.ref ad) from ⟨ad,vs,rfl,n1,n2,q,l⟩)
    cases e;exact⟨ws,q',l'⟩) trivial
 | «mut» j=>
  obtain⟨ad,hj,rfl⟩:=d1
  cases r1
  have p2:Post D W φ α1 H1 σ _ (λK _=>∃xs,μ1[j]?=some (.lst xs)/\K (xs,lvM j xs) μ1):=p1
  obtain⟨xs,hx,p2⟩:=p2.ex1
  obtain⟨vs,q,l⟩:=mr1.ob j ad _ hj hx
  obtain⟨its,rv,pl,hz⟩:=I1.list (.inl (.inl q))
  refine wpAny_pyIter_list pl.isList ?_
  refine⟨s1.heap.objs.size,[s1.heap.objs.size],_,_,H1,rfl,I1.kept (t':=s1.toks) λb o e=>Heap.get?_push_of_some _ e,xa ad _,⟨_,Heap.get?_push_size _ rfl,rfl,rfl⟩,λb hb=>?_,?_⟩
  ·have e:b=s1.heap.objs.size:=by simpa using hb
   subst e
   exact I1.fpOk (Nat.le_refl _) (I1.hok.fresh (Nat.le_refl _))
  ·have p2:Post D W φ α1 H1 σ _ (RE.ok (xs,lvM j xs) μ1):=p2
   exact p2.ok (Stp.refl _ _) mr1 _ _ uk (λφ' α' H' μ' lk m hl=>by
    obtain⟨ws,q',l'⟩:=m.ob j ad _ (lk.st j ad hj) hl
    exact⟨ws,.inl q',l'⟩) hx
 |str z=>
  have d1:v=.str z:=d1
  subst d1
  obtain⟨t0,rfl⟩:=r1
  have fin:∀{kd:String},(kd="str_ascii_iterator"\/kd="str_iterator")->PIE X pins σ tg R (.ref s1.heap.objs.size) {s1 with heap:=s1.heap.push {cls:=.type kd,data:=.fields #[.str z t0,.int 0 0]}}:=λ{kd} hk=>by
   refine⟨s1.heap.objs.size,[s1.heap.objs.size],_,_,H1,rfl,I1.kept (t':=s1.toks) λb o e=>Heap.get?_push_of_some _ e,VY hk _ z t0,⟨_,Heap.get?_push_size _ rfl,rfl,rfl⟩,λb hb=>?_,?_⟩
   ·have e:b=s1.heap.objs.size:=by simpa using hb
    subst e
    exact I1.fpOk (Nat.le_refl _) (I1.hok.fresh (Nat.le_refl _))
   ·have p2:Post D W φ α1 H1 σ _ (RE.ok (vI z,lvT) μ1):=p1
    exact p2.ok (Stp.refl _ _) mr1 _ _ JK (λ_ _ _ _ _ _ _=>True.intro) trivial
  cases ha:z.cps.all (·<128) with
  |true=>exact wpAny_pyIter_ascii ha (fin (.inl rfl))
  |false=>exact wpAny_pyIter_wide ha (fin (.inr rfl))
 |_=>exact Post.elim p1
theorem Ws{x:V}{xs:List V}{us:List Value}(h:Vals (x::xs) us):∃u r,us=u::r/\RelV x u/\Vals xs r:=by
 cases h with
 |cons r q=>exact⟨_,_,rfl,r,q⟩
theorem vals3{x y z:V}{us:List Value}(h:Vals [x,y,z] us):∃u v w,us=[u,v,w]/\RelV x u/\RelV y v/\RelV z w:=by
 obtain⟨u,_,rfl,a,h⟩:=Ws h
 obtain⟨v,_,rfl,b,h⟩:=Ws h
 obtain⟨w,_,rfl,c,h⟩:=Ws h
 cases h
 exact⟨_,_,_,rfl,a,b,c⟩
noncomputable def ItS(lo c:Int)(n:Nat):It:=⟨λi _=>i<n,λi H x H'=>H'=H/\x=.int (lo+i * c),λi _=>n<=i⟩
theorem yW{P:Program}{w:World}{K:PySem.W.Frag}{tg:Expr}(it:Addr)(lo c:Int)(n:Nat):Turn P w K tg (ItS lo c n) [it] it (λi h=>IsRangeIter h it (lo+(i:Nat) * c) ((n:Int)-(i:Nat)) c) where
 mem:=by simp
 obj:=λi h st b hb=>by
  have e:b=it:=by simpa using hb
  subst e
  exact⟨_,st,λv z=>by cases (show Data.fields _=Data.cell v from z)⟩
 keep:=λi h h' st k=>k it (by simp) _ st
 item:=by
  intro X hP hw hK hc i pins s σ H E I hf st hg
  subst hP hw hK
  obtain⟨f0,f1,f2,f3,f4,f5⟩:=hf it (by simp)
  have W:=Walks.range (prog:=X.prog) (w:=X.w) (I.ok.hd hc) it lo c n
  refine W.item i s _ _ hg st λv h' tk hv st' kk=>?_
  obtain⟨t,rfl⟩:=hv
  have I1:Inv X pins σ H {s with heap:=h',toks:=tk}:=I.turned (λb o hb e=>kk b o (by simpa using hb) e) f0 f1 f3 f4 f5
  exact⟨_,rfl,kC (s:={s with heap:=h',toks:=tk}) (n:="range_iterator") st' rfl rfl (by decide) ⟨.int (lo+i * c),H,I1,⟨t,rfl⟩,⟨rfl,rfl⟩,st',λb hb=>(hf b hb).1⟩⟩
 done:=by
  intro X hP hw hK hc i pins s σ H E I hf st hg
  subst hP hw hK
  obtain⟨f0,f1,f2,f3,f4,f5⟩:=hf it (by simp)
  exact wpAny_pyNext_range_end (I.ok.hd hc) st (by have:n<=i:=hg;omega) λh' eb=>⟨rfl,I.turned (t':=s.toks) (λb o hb e=>eb b o hb e) f0 f1 f3 f4 f5⟩
 self:=λ_ _ _ _ _ st h=>wpAny_pyIter_rangeiter st h
theorem yU{P:Program}{w:World}{K:PySem.W.Frag}{tg:Expr}(it:Addr)(lo c:Int)(n:Nat):Turn P w K tg (ItS lo c n) [it] it (λi h=>IsLongIter h it (lo+(i:Nat) * c) ((n:Int)-(i:Nat)) c) where
 mem:=by simp
 obj:=λi h st b hb=>by
  have e:b=it:=by simpa using hb
  subst e
  exact⟨_,st,λv z=>by cases (show Data.fields _=Data.cell v from z)⟩
 keep:=λi h h' st k=>k it (by simp) _ st
 item:=by
  intro X hP hw hK hc i pins s σ H E I hf st hg
  subst hP hw hK
  obtain⟨f0,f1,f2,f3,f4,f5⟩:=hf it (by simp)
  have W:=Walks.longrange (prog:=X.prog) (w:=X.w) (I.ok.hd hc) it lo c n
  refine W.item i s _ _ hg st λv h' tk hv st' kk=>?_
  obtain⟨t,rfl⟩:=hv
  have I1:Inv X pins σ H {s with heap:=h',toks:=tk}:=I.turned (λb o hb e=>kk b o (by simpa using hb) e) f0 f1 f3 f4 f5
  exact⟨_,rfl,kC (s:={s with heap:=h',toks:=tk}) (n:="longrange_iterator") st' rfl rfl (by decide) ⟨.int (lo+i * c),H,I1,⟨t,rfl⟩,⟨rfl,rfl⟩,st',λb hb=>(hf b hb).1⟩⟩
 done:=by
  intro X hP hw hK hc i pins s σ H E I hf st hg
  subst hP hw hK
  obtain⟨f0,f1,f2,f3,f4,f5⟩:=hf it (by simp)
  exact wpAny_pyNext_long_end (I.ok.hd hc) st (by have:n<=i:=hg;omega) λh' eb=>⟨rfl,I.turned (t':=s.toks) (λb o hb e=>eb b o hb e) f0 f1 f3 f4 f5⟩
 self:=λ_ _ _ _ _ st h=>wpAny_pyIter_longiter st h
theorem KQ{a b c:Int}(hc:0<c):Builtin.Range.rangeSize a b c=if a<b then (b-a-1) / c+1 else 0:=by
 unfold Builtin.Range.rangeSize
 rw[if_pos hc]
theorem vG{pins:List (Addr×Obj)}{σ:St}{H:Hp}{s:Shared}{R:It->Hp->Prop}{E:Value->Shared->Prop}{lo hi c:Int}{t u v:Tok}{tk:Nat}(I:Inv X pins σ H s)(h3:0<c)
  (q:R (ItS lo c (if lo<hi then (hi-lo-1) / c+1 else 0:Int).toNat) H):wpAny (model X.prog X.w) X.A (pyIter (.ref s.heap.objs.size)) (PIE X pins σ tg R) E {s with heap:=s.heap.push {cls:=.type "range",data:=.fields #[.int lo t,.int hi u,.int c v]},toks:=tk}:=by
 have I1:Inv X pins σ H {s with heap:=s.heap.push {cls:=.type "range",data:=.fields #[.int lo t,.int hi u,.int c v]},toks:=tk}:=I.kept λb o e=>Heap.get?_push_of_some _ e
 have e1:lo+((0:Nat):Int) * c=lo:=by simp
 have e2:(((if lo<hi then (hi-lo-1) / c+1 else 0:Int).toNat:Nat):Int)-((0:Nat):Int)=Builtin.Range.rangeSize lo hi c:=by
  rw[KQ h3]
  have:0<=(if lo<hi then (hi-lo-1) / c+1 else 0):=by
   split
   ·have h1:0<=(hi-lo-1) / c:=Int.ediv_nonneg (by omega) (by omega)
    omega
   ·omega
  omega
 have fr:∀b∈[(s.heap.push {cls:=.type "range",data:=.fields #[.int lo t,.int hi u,.int c v]}).objs.size],b=(s.heap.push {cls:=.type "range",data:=.fields #[.int lo t,.int hi u,.int c v]}).objs.size:=λb hb=>by simpa using hb
 cases hsm:Builtin.Range.small lo hi c with
 |true=>
  refine wpAny_pyIter_range (IsRange.new ..) hsm ?_
  refine⟨(s.heap.push {cls:=.type "range",data:=.fields #[.int lo t,.int hi u,.int c v]}).objs.size,[(s.heap.push {cls:=.type "range",data:=.fields #[.int lo t,.int hi u,.int c v]}).objs.size],_,_,H,rfl,
   I1.kept (t':=tk) λb o e=>Heap.get?_push_of_some _ e,yW _ lo c (if lo<hi then (hi-lo-1) / c+1 else 0:Int).toNat,?_,λb hb=>?_,q⟩
  ·show IsRangeIter _ _ (lo+((0:Nat):Int) * c) ((((if lo<hi then (hi-lo-1) / c+1 else 0:Int).toNat:Nat):Int)-((0:Nat):Int)) c
   rw[e1,e2]
   exact Heap.get?_push_size _ rfl
  ·rw[fr b hb]
   exact I1.fpOk (Nat.le_refl _) (I1.hok.fresh (Nat.le_refl _))
 |false=>
  refine wpAny_pyIter_longrange (IsRange.new ..) hsm ?_
  refine⟨(s.heap.push {cls:=.type "range",data:=.fields #[.int lo t,.int hi u,.int c v]}).objs.size,[(s.heap.push {cls:=.type "range",data:=.fields #[.int lo t,.int hi u,.int c v]}).objs.size],_,_,H,rfl,
   I1.kept (t':=tk) λb o e=>Heap.get?_push_of_some _ e,yU _ lo c (if lo<hi then (hi-lo-1) / c+1 else 0:Int).toNat,?_,λb hb=>?_,q⟩
  ·show IsLongIter _ _ (lo+((0:Nat):Int) * c) ((((if lo<hi then (hi-lo-1) / c+1 else 0:Int).toNat:Nat):Int)-((0:Nat):Int)) c
   rw[e1,e2]
   exact Heap.get?_push_size _ rfl
  ·rw[fr b hb]
   exact I1.fpOk (Nat.le_refl _) (I1.hok.fresh (Nat.le_refl _))
theorem wI{lo c:Int}{n:Nat}:ItV D (ItS lo c n) (λ_ _ _=>True) ((List.range n).map λ(i:Nat)=>T.int (lo+i * c)):=
 ⟨λi φ α H _ hi=>by (show i<n);simpa using hi,λi φ α H v H' t _ hi y=>by
  obtain⟨j,hj,rfl⟩:=Q9 (D:=D) (φ:=φ) (α:=α) (H:=H) hi
  rw[W6 hj]
  obtain⟨rfl,rfl⟩:=y
  exact⟨λ_ _ z=>z,rfl⟩,λφ α H _=>by show n<=_;simp⟩
theorem Wa (C:Ck D W Γ X k) {p0:Pos} (hx:("range":Str)∈Γ.G) (hg:Γ.gl "range"=.none) (ha':noStar a=true) (hb':noStar b=true) (hc':noStar c=true) (ha:PE X a (rdE D W f)) (hb:PE X b (rdE D W g)) (hc:PE X c (rdE D W h)) :
  PI X tg (.Call (.Name "range" p0) [a,b,c] [] pos) (rdI D W (X7 f g h)):=by
 have hm:=C.glo _ hx
 rw[hg] at hm
 rintro pins s σ H R I ⟨φ,α,τ,μ,sr,mr,p⟩
 have s3:starEach [a,b,c] X.env=[(false,eval a X.env),(false,eval b X.env),(false,eval c X.env)]:=by
  rw[z5 ha',z5 hb',z5 hc'];rfl
 refine Call_ (qQ I (C.glb _ hx) hm boot_range (PyProof.Rows.callWith_type1 (thn (zm ha (zm hb (zm hc zH (z5 hc')) (z5 hb')) (z5 ha') pos pins s σ H (λvs H1=>∃i j l:Int,vs=[.int i,.int j,.int l]/\(0<l/\l<1073741824)/\R (ItS i l (if i<j then (j-i-1) / l+1 else 0:Int).toNat) H1) I ?_) ?_) (z5 ha') (q9 (by simp[hb',hc']))))
 ·refine⟨φ,α,τ,μ,sr,mr,p.bind.mono λx μ1 α1 H1 st1 m1 q1 v1 d1=>⟨φ,α1,τ,μ1,sr.step st1,m1,q1.bind.mono λy μ2 α2 H2 st2 m2 q2 v2 d2=>⟨φ,α2,τ,μ2,(sr.step st1).step st2,m2,q2.bind.mono λz μ3 α3 H3 st3 m3 q3 v3 d3=>?_⟩⟩⟩
  cases x with
  |int a=>
   cases y with
   |int b=>
    cases z with
    |int c=>
     have q3:Post D W φ α3 H3 σ _ (RE.grd (inL a/\inL b/\0<c/\c<1073741824) (RE.ok (y6 a b c,lvT) μ3)):=q3
     obtain⟨hh,q3⟩:=q3.grd
     have d1:v1=.int _:=d1
     have d2:v2=.int _:=d2
     have d3:v3=.int _:=d3
     subst d1 d2 d3
     exact⟨_,_,_,rfl,hh.2.2,q3.ok (Stp.refl _ _) m3 _ _ wI (λ_ _ _ _ _ _ _=>True.intro) trivial⟩
    |_=>exact Post.elim q3
   |_=>exact Post.elim q3
  |_=>exact Post.elim q3
 ·rintro us s1 ⟨vs,H1,I1,rv,i,j,l,rfl,h3,q⟩
  obtain⟨u1,u2,u3,rfl,r1,r2,r3⟩:=vals3 rv
  obtain⟨t1,rfl⟩:=r1
  obtain⟨t2,rfl⟩:=r2
  obtain⟨t3,rfl⟩:=r3
  exact call_range_3 (by omega) (vG I1 h3.1 q) (.inl (PyProof.noPylong_small (by omega)))
theorem Wj (C:Ck D W Γ X k) {p0:Pos} (hx:("range":Str)∈Γ.G) (hg:Γ.gl "range"=.none) (ha':noStar a=true) (hb':noStar b=true) (ha:PE X a (rdE D W f)) (hb:PE X b (rdE D W g)) :
  PI X tg (.Call (.Name "range" p0) [a,b] [] pos) (rdI D W (Jk f g)):=by
 have hm:=C.glo _ hx
 rw[hg] at hm
 rintro pins s σ H R I ⟨φ,α,τ,μ,sr,mr,p⟩
 refine Call_ (qQ I (C.glb _ hx) hm boot_range (PyProof.Rows.callWith_type1 (thn (zm ha (zm hb zH (z5 hb')) (z5 ha') pos pins s σ H (λvs H1=>∃i j:Int,vs=[.int i,.int j]/\R (ItS i 1 (if i<j then (j-i-1) / 1+1 else 0:Int).toNat) H1) I ?_) ?_) (by rw[z5 ha',z5 hb']) (by rw[z5 hb'];rfl)))
 ·refine⟨φ,α,τ,μ,sr,mr,p.bind.mono λx μ1 α1 H1 st1 m1 q1 v1 d1=>⟨φ,α1,τ,μ1,sr.step st1,m1,q1.bind.mono λy μ2 α2 H2 st2 m2 q2 v2 d2=>?_⟩⟩
  cases x with
  |int i=>
   cases y with
   |int j=>
    have q2:Post D W φ α2 H2 σ _ (RE.grd (inL i/\inL j) (RE.ok (y6 i j 1,lvT) μ2)):=q2
    obtain⟨hh,q2⟩:=q2.grd
    have d1:v1=.int _:=d1
    have d2:v2=.int _:=d2
    subst d1 d2
    exact⟨_,_,rfl,q2.ok (Stp.refl _ _) m2 _ _ wI (λ_ _ _ _ _ _ _=>True.intro) trivial⟩
   |_=>exact Post.elim q2
  |_=>exact Post.elim q2
 ·rintro us s1 ⟨vs,H1,I1,rv,i,j,rfl,q⟩
  cases rv with
  |cons r rr=>
   cases rr with
   |cons r' rr=>
    cases rr
    obtain⟨t,rfl⟩:=r
    obtain⟨t',rfl⟩:=r'
    exact call_range_2 (vG I1 (by omega) q)
theorem Jg (C:Ck D W Γ X k) {p0:Pos} (hx:("range":Str)∈Γ.G) (hg:Γ.gl "range"=.none) (hs:noStar a=true) (ha:PE X a (rdE D W f)) :
  PI X tg (.Call (.Name "range" p0) [a] [] pos) (rdI D W (uU f)):=by
 have hm:=C.glo _ hx
 rw[hg] at hm
 rintro pins s σ H R I ⟨φ,α,τ,μ,sr,mr,p⟩
 refine Call_ (qQ I (C.glb _ hx) hm boot_range (PyProof.Rows.callWith_type1 (thn (zm ha zH (z5 hs) pos pins s σ H (λvs H1=>∃j:Int,vs=[.int j]/\R (ItS 0 1 (if 0<j then (j-0-1) / 1+1 else 0:Int).toNat) H1) I ?_) ?_) (z5 hs) rfl))
 ·refine⟨φ,α,τ,μ,sr,mr,p.bind.mono λt μ' α' H' st m q v d=>?_⟩
  cases t with
  |int n=>
   have d:v=.int _:=d
   subst d
   have q:Post D W φ α' H' σ _ (RE.grd (inL n) (RE.ok (rangeT n,lvT) μ')):=q
   obtain⟨hn,q⟩:=q.grd
   have e2:(if 0<n then (n-0-1) / 1+1 else 0:Int).toNat=n.toNat:=by
    split
    ·rw[Int.ediv_one];congr 1;omega
    ·omega
   have e3:((List.range n.toNat).map λ(i:Nat)=>T.int (0+i * 1))=rangeT n:=by
    unfold rangeT
    refine List.map_congr_left λi _=>?_
    simp
   refine⟨n,rfl,?_⟩
   rw[e2]
   exact q.ok (Stp.refl _ _) m _ _ (e3▸wI) (λ_ _ _ _ _ _ _=>True.intro) trivial
  |_=>exact Post.elim q
 ·rintro us s1 ⟨vs,H1,I1,rv,j,rfl,q⟩
  cases rv with
  |cons r rr=>
   cases rr
   obtain⟨t,rfl⟩:=r
   exact call_range_1 (vG I1 (by omega) q)
noncomputable def idxs (N:List Str):List Expr->Option (List Nat)
 |[]=>some []
 |.Name x _::r=>match idx N x,idxs N r with
  |some i,some is=>some (i::is)
  |_,_=>none
 |_::_=>none
noncomputable def qe (N:List Str):Expr->Option Tg
 |.Name x _=>(idx N x).map Tg.one
 |.Tuple es _ _=>(idxs N es).map Tg.tup
 |_=>none
noncomputable def z6:Expr->List Str
 |.Name x _=>[x]
 |.Tuple es _ _=>es.filterMap λe=>match e with|.Name x _=>some x|_=>none
 |_=>[]
noncomputable def Sto (X:Cx)(S:List Str):Prop:=∀x∈S,Loc X.env.scope x/\(X.fn x=true\/X.env.scope.names.lookup x=some .local)
theorem ZI{S N:List Str}(hN:X.N=N)(nd:N.Nodup)(hS:Sto X S):∀{es:List Expr} {is:List Nat} {ts:List T} {τ τ':Sl},(∀e∈es,∀x p,e=.Name x p->x∈S)->idxs N es=some is->yh is ts τ=some τ'->
  ∃t,PGs X es t/\(assignEach es X.env).length=ts.length/\(assignEach es X.env).findIdx? (·.1)=none/\∀{σ:St} {vs:List V} {φ α H} {Q:St->Hp->Prop},SRel D φ α H τ σ->DenL D φ α H ts vs->(∀σ',SRel D φ α H τ' σ'->Q σ' H)->t vs σ H Q
 |[],is,ts,τ,τ',_,h0,h=>by
  simp[idxs] at h0;subst h0
  cases ts with
  |nil=>
   simp[yh] at h;subst h
   exact⟨z0j,Jt,rfl,rfl,λsr l q=>⟨l,q _ sr⟩⟩
  |cons _ _=>simp[yh] at h
 |e::es,is,ts,τ,τ',hn,h0,h=>by
  cases e with
  |Name x p0=>
   simp only[idxs] at h0
   split at h0
   ·rename_i i is' hi his
    cases h0
    cases ts with
    |nil=>simp[yh] at h
    |cons t ts=>
     have h:yh is' ts (wD τ i (some t))=some τ':=h
     have hx:=hn _ List.mem_cons_self x p0 rfl
     have pg:PG X (.Name x p0) (ZQ i):=ZU (hN▸nd) (by rw[hN];exact qg hi) (hS x hx).1 (hS x hx).2
     obtain⟨u,pgs,hl,hf,hu⟩:=ZI hN nd hS (λe he=>hn e (List.mem_cons_of_mem _ he)) his h
     refine⟨Xe (ZQ i) u,VQ pg pgs rfl,by simpa[assignEach] using hl,?_,λ{σ vs φ α H Q} sr l k=>?_⟩
     ·have e1:assignEach (.Name x p0::es) X.env=(false,assign (.Name x p0) X.env)::assignEach es X.env:=rfl
      rw[e1,List.findIdx?_cons]
      simp[hf]
     ·obtain⟨v,r,rfl,d,l⟩:=l
      exact⟨v,r,rfl,hu (sr.set d) l k⟩
   ·cases h0
  |_=>simp[idxs] at h0
theorem Zi{S N:List Str}(hN:X.N=N)(nd:N.Nodup)(hS:Sto X S)(hc:X.calm=true){e:Expr}{tgt:Tg}{t:T}{τ τ':Sl}(hn:∀x∈z6 e,x∈S)(h0:qe N e=some tgt)(h:asg tgt t τ=some τ'){v:V}{u:Value}(I:Inv X pins σ H s)(sr:SRel D φ α H τ σ)(d:Den D φ α H t v)(r:RelV v u) :
  wpAny (model X.prog X.w) X.A (assign e X.env u) (λ_ s'=>∃σ',Inv X pins σ' H s'/\SRel D φ α H τ' σ') X.xe s:=by
 cases e with
 |Name x p0=>
  simp only[qe] at h0
  cases q:idx N x with
  |none=>rw[q] at h0;cases h0
  |some i=>
   rw[q] at h0;cases h0
   cases (Option.some.inj h:wD τ i (some t)=τ')
   have hx:x∈S:=hn x (by simp[z6])
   refine thn (ZU (i:=i) (hN▸nd) (by rw[hN];exact qg q) (hS x hx).1 (hS x hx).2 pins s σ H v u (λσ' H'=>H'=H/\σ'=σ.set i (some v)) I r ⟨rfl,rfl⟩) ?_
   rintro _ s1 ⟨σ',H',I1,rfl,rfl⟩
   exact⟨_,I1,sr.set d⟩
 |Tuple es kk p0=>
  simp only[qe] at h0
  cases q:idxs N es with
  |none=>rw[q] at h0;cases h0
  |some is=>
   rw[q] at h0;cases h0
   cases t with
   |tup ts=>
    obtain⟨g,pgs,hl,hf,hu⟩:=ZI (D:=D) hN nd hS (λe he x p hx=>hn x (by subst hx;exact List.mem_filterMap.mpr ⟨_,he,rfl⟩)) q h
    obtain⟨ad,xs,rfl,_,_,q,l⟩:=d
    refine thn (XC (k:=kk) (pos:=p0) hc pgs hl hf pins s σ H (.ref ad) u (λσ' H'=>H'=H/\SRel D φ α H τ' σ') I r ⟨ad,xs,rfl,.inl q,l.length.symm,hu sr l λσ' sr'=>⟨rfl,sr'⟩⟩) ?_
    rintro _ s1 ⟨σ',H',I1,rfl,sr'⟩
    exact⟨σ',I1,sr'⟩
   |_=>cases h
 |_=>simp[qe] at h0
end
theorem JH(env:Env):∀(names:List (Str×NameKind)) (cs:List (Str×Addr)),(∀p∈names,p.2=.free->∃c,env.cells.lookup p.1=some c)->
  ∃cl,(forIn names cs (λ(x:Str×NameKind) r=>if (x.2 == .free)=true then do let a ←cellOf env x.1;pure (ForInStep.yield ((x.1,a)::r)) else pure (ForInStep.yield r)):Sem (List (Str×Addr)))=pure cl/\
   (∀x c,cl.lookup x=some c->cs.lookup x=some c\/(env.cells.lookup x=some c/\∃p∈names,p.1=x/\p.2=.free))/\(∀x c,cs.lookup x=some c->∃c',cl.lookup x=some c')/\∀p∈names,p.2=.free->∃c,cl.lookup p.1=some c:=by
 intro names
 induction names with
 |nil=>intro cs _;exact⟨cs,rfl,λx c h=>.inl h,λx c h=>⟨c,h⟩,λp hp=>absurd hp (by simp)⟩
 |cons p names ih=>
  intro cs h
  rw[List.forIn_cons]
  by_cases hp:p.2=.free
  ·obtain⟨c,hc⟩:=h p List.mem_cons_self hp
   have e:cellOf env p.1=pure c:=by unfold cellOf;rw[hc]
   rw[if_pos (by simp[hp]),e]
   obtain⟨cl,e1,e2,e3,e4⟩:=ih ((p.1,c)::cs) λq hq=>h q (List.mem_cons_of_mem _ hq)
   refine⟨cl,e1,λx c' hx=>?_,λx c' hx=>?_,λq hq hf=>?_⟩
   ·rcases e2 x c' hx with z|⟨z,q,hq,z1,z2⟩
    ·rw[List.lookup_cons] at z
     cases hb:x == p.1 with
     |true=>
      simp[hb] at z
      subst z
      have hb':x=p.1:=by simpa using hb
      exact .inr ⟨by rw[hb'];exact hc,p,List.mem_cons_self,hb'.symm,hp⟩
     |false=>simp[hb] at z;exact .inl z
    ·exact .inr ⟨z,q,List.mem_cons_of_mem _ hq,z1,z2⟩
   ·cases hb:x == p.1 with
    |true=>exact e3 x c (by simp[List.lookup_cons,hb])
    |false=>exact e3 x c' (by simp[List.lookup_cons,hb,hx])
   ·rcases List.mem_cons.mp hq with rfl|hq
    ·exact e3 _ c (by simp[List.lookup_cons])
    ·exact e4 q hq hf
  ·rw[if_neg (by simp[hp])]
   obtain⟨cl,e1,e2,e3,e4⟩:=ih cs λq hq=>h q (List.mem_cons_of_mem _ hq)
   refine⟨cl,e1,λx c' hx=>?_,e3,λq hq hf=>?_⟩
   ·rcases e2 x c' hx with z|⟨z,q,hq,z1,z2⟩
    ·exact .inl z
    ·exact .inr ⟨z,q,List.mem_cons_of_mem _ hq,z1,z2⟩
   ·rcases List.mem_cons.mp hq with rfl|hq
    ·exact absurd hf hp
    ·exact e4 q hq hf
noncomputable def Vr(sc:Scope):List Str:=(sc.names.filter λp=>p.2 == .globalImplicit).map (·.1)
noncomputable def frees(sc:Scope):List Str:=(sc.names.filter λp=>p.2 == .free).map (·.1)
theorem wg{sc:Scope}{x:Str}:x∈frees sc↔∃p∈sc.names,p.1=x/\p.2=.free:=by
 unfold frees
 simp only[List.mem_map,List.mem_filter,beq_iff_eq]
 constructor
 ·rintro⟨p,⟨h1,h2⟩,h3⟩;exact⟨p,h1,h3,h2⟩
 ·rintro⟨p,h1,h3,h2⟩;exact⟨p,⟨h1,h2⟩,h3⟩
theorem uV{sc:Scope}{env:Env}(h:∀x∈frees sc,∃c,env.cells.lookup x=some c) :
  ∃cl,closureFor sc env=pure cl/\(∀x c,cl.lookup x=some c->env.cells.lookup x=some c/\x∈frees sc)/\∀x∈frees sc,∃c,cl.lookup x=some c:=by
 obtain⟨cl,e1,e2,e3,e4⟩:=JH env sc.names [] λp hp hf=>h p.1 (wg.mpr ⟨p,hp,rfl,hf⟩)
 refine⟨cl,?_,λx c hx=>?_,λx hx=>?_⟩
 ·rw[←e1]
  unfold closureFor
  simp
 ·rcases e2 x c hx with z|⟨z,p,hp,z1,z2⟩
  ·simp at z
  ·exact⟨z,wg.mpr ⟨p,hp,z1,z2⟩⟩
 ·obtain⟨p,hp,rfl,hf⟩:=wg.mp hx
  exact e4 p hp hf
section
variable {M:Model}{A:Around}{E:Value->Shared->Prop}{s:Shared}{env:Env}
noncomputable def ya(M:Model)(A:Around)(E:Value->Shared->Prop)(use:Option (Value->Sem Unit))(Q:Value->Shared->Prop)(acc:Value)(ce:Env):Result->Shared->Prop
 |.ok _,t=>(match use with
  |none=>∃m,t.heap.Ns ce.locals m/\∀g,Heap.SameBut ce.locals t.heap g->Q acc {t with heap:=g}
  |some u=>wpAny M A (u acc) (λ_ t2=>∃m,t2.heap.Ns ce.locals m/\∀g,Heap.SameBut ce.locals t2.heap g->Q .none {t2 with heap:=g}) E t)
 |.error x,t=>∃m,t.heap.Ns ce.locals m/\∀g,Heap.SameBut ce.locals t.heap g->wpAny M A (passOn "comprehension.variables-let-go" x ce:Sem Value) (λ_ _=>False) E {t with heap:=g}
theorem JT{e:Expr}{sc:Scope}{pos:Pos}{mk fst:Sem Value}{g:Comprehension}{gs:List Comprehension}{cl:List (Str×Addr)}{use:Option (Value->Sem Unit)}{Q:Value->Shared->Prop}
  (h1:clausesOf e=g::gs) (h2:∀x,foldedSetIterable g.iter env x=pure x) (h3:closureFor sc env=pure cl) (h4:sc.kind=.function) (h5:∀x∈sc.names,x.2=.local->sc.names.lookup x.1=some .local)
  (h:wpAny M A fst (λx t1=>wpAny M A (pyIter x) (λit t2=>wpAny M A mk (λacc t3=>wpAny M A (newFunctionEnv sc env.globals cl [] env.qual none .none (some env)) (λce t4=>
    codeAny M A (.compStart e 0 it acc {ce with scope:=relabel sc env}) (ya M A E use Q acc {ce with scope:=relabel sc env}) t4) E t3) E t2) E t1) E s) :
  wpAny M A (comprehension e sc env pos mk false fst use) Q E s:=by
 unfold comprehension
 rw[h3,h1]
 have id2:∀(x:Value) (t:Shared),E x t->E x t:=λ_ _ z=>z
 refine wpAny_bind (wpAny_mono h (λx t1 q1=>?_) id2)
 refine wpAny_bind (wpAny_standAt (wpAny_bind (wpAny_of_eq (h2 x) (wpAny_bind (wpAny_holding (wpAny_mono q1 (λit t2 q2=>?_) id2))))))
 refine wpAny_standIf (wpAny_bind (wpAny_mono q2 (λacc t3 q3=>?_) id2))
 refine wpAny_bind (wpAny_pure (wpAny_bind (wpAny_mono q3 (λce t4 q4=>?_) id2)))
 dsimp only
 have lc:∀y∈(sc.names.filter λx=>(x.2 == .local || x.2 == .cell)&&x.1 != (".0":Str)),y.2=.local->Env.kindOf {ce with scope:=relabel sc env} y.1=some .local:=
  λy hy hl=>lookup_relabel_local (h5 y (List.mem_filter.mp hy).1 hl)
 have lr:∀y∈(sc.names.filter λx=>(x.2 == .local || x.2 == .cell)&&x.1 != (".0":Str)).reverse,y.2=.local->Env.kindOf {ce with scope:=relabel sc env} y.1=some .local:=
  λy hy=>lc y (List.mem_reverse.mp hy)
 refine wpAny_holding (wpAny_bind (wpAny_attempt (wpAny_holding (wpAny_run (codeAny_mono q4 λr t5 q5=>?_)))))
 cases r with
 |error x=>
  obtain⟨m,hn,q6⟩:=q5
  refine wpAny_bind (wpAny_holding (wpAny_comp_letGo (cenv:={ce with scope:=relabel sc env}) h4 _ t5 m lr hn λg m' _ sb=>?_))
  exact wpAny_mono (q6 g sb) (λ_ _ z=>z.elim) id2
 |ok f=>
  cases use with
  |none=>
   obtain⟨m,hn,q6⟩:=q5
   exact wpAny_bind (wpAny_holding (wpAny_comp_letGo (cenv:={ce with scope:=relabel sc env}) h4 _ t5 m lr hn λg m' _ sb=>wpAny_pure (q6 g sb)))
  |some u=>
   refine wpAny_bind (wpAny_rule (wpAny_bind (wpAny_holding (wpAny_mono q5 (λ_ t6 q6=>?_) id2))))
   obtain⟨m,hn,q6⟩:=q6
   refine wpAny_bind (wpAny_comp_letGo (cenv:={ce with scope:=relabel sc env}) h4 _ t6 m (λy hy=>?_) hn λg m' _ sb=>wpAny_pure (q6 g sb))
   rcases List.mem_append.mp hy with z|z
   ·exact lr y (List.mem_of_mem_drop z)
   ·exact lr y (List.mem_of_mem_take z)
end
section
variable {prog:Program}{w:World}{A:Around}{R:Result->Shared->Prop}{s:Shared}
theorem W_(elt target iter:Expr)(ifs:List Expr)(scope:Scope)(pos:Pos)(it acc:Value)(env:Env) :
  compTurn (.ListComp elt [⟨target,iter,ifs,0⟩] scope pos) 0 it acc env=(standAt iter.pos >>= λ_=>pyNext it >>= λr=>match r with
   |none=>pure (.done .next)
   |some v=>letOwnedTupleGo target it v >>= λ_=>assign target env v >>= λ_=>
    (forIn ifs true λc s=>if s=true then isTrue c env (eval c env) >>= λok=>pure (ForInStep.yield ok) else pure (ForInStep.yield s)) >>= λok=>
     if ok=true then (eval elt env >>= λx=>call (.builtin "list.append") [acc,x] >>= λ_=>pure ()) >>= λ_=>
      again (.compLoop (.ListComp elt [⟨target,iter,ifs,0⟩] scope pos) 0 it acc env)
     else again (.compLoop (.ListComp elt [⟨target,iter,ifs,0⟩] scope pos) 0 it acc env)):=by rfl
noncomputable def vJ(M:Model)(A:Around)(env:Env)(E:Value->Shared->Prop):List Expr->(Bool->Shared->Prop)->Shared->Prop
 |[],Q,s=>Q true s
 |c::cs,Q,s=>wpAny M A (isTrue c env (eval c env)) (λb s1=>if b=true then vJ M A env E cs Q s1 else Q false s1) E s
theorem kU{M:Model}{env:Env}{E:Value->Shared->Prop}{Q:Bool->Shared->Prop}:∀(cs:List Expr) {s:Shared},Q false s->
  wpAny M A (forIn cs false λc s=>if s=true then isTrue c env (eval c env) >>= λok=>pure (ForInStep.yield ok) else pure (ForInStep.yield s)) Q E s
 |[],s,h=>wpAny_pure h
 |c::cs,s,h=>by
  rw[List.forIn_cons]
  refine wpAny_bind ?_
  rw[if_neg (by decide)]
  exact wpAny_pure (kU cs h)
theorem ux{M:Model}{env:Env}{E:Value->Shared->Prop}{Q:Bool->Shared->Prop}:∀(cs:List Expr) {s:Shared},vJ M A env E cs Q s->
  wpAny M A (forIn cs true λc s=>if s=true then isTrue c env (eval c env) >>= λok=>pure (ForInStep.yield ok) else pure (ForInStep.yield s)) Q E s
 |[],s,h=>wpAny_pure h
 |c::cs,s,h=>by
  rw[List.forIn_cons]
  refine wpAny_bind ?_
  rw[if_pos rfl]
  refine wpAny_bind (thn h λb s1 h1=>wpAny_pure ?_)
  cases b with
  |true=>rw[if_pos rfl] at h1;exact ux cs h1
  |false=>rw[if_neg (by decide)] at h1;exact kU cs h1
theorem Wc{elt target iter:Expr}{ifs:List Expr}{scope:Scope}{pos:Pos}{it acc:Value}{env:Env}(I:Nat->Shared->Prop)
  (turn:∀n s,I n s->wpAny (model prog w) A (pyNext it) (λr s₁=>match r with
   |none=>R (.ok .next) s₁
   |some v=>wpAny (model prog w) A (letOwnedTupleGo target it v) (λ_ s₂=>wpAny (model prog w) A (assign target env v) (λ_ s₃=>vJ (model prog w) A env (notedBy (model prog w) A env λx s'=>R (.error x) s') ifs (λb s₄=>
     if b=true then wpAny (model prog w) A (eval elt env) (λx s₅=>wpAny (model prog w) A (call (.builtin "list.append") [acc,x]) (λ_ s₆=>∃m,m<n/\I m s₆) (λ_ _=>False) s₅) (notedBy (model prog w) A env λx s'=>R (.error x) s') s₄ else ∃m,m<n/\I m s₄) s₃) (λ_ _=>False) s₂) (λ_ _=>False) s₁) (λ_ _=>False) s)
  (n:Nat) (h:I n s):codeAny (model prog w) A (.compLoop (.ListComp elt [⟨target,iter,ifs,0⟩] scope pos) 0 it acc env) R s:=by
 refine codeAny_loop rfl I (λn s hI=>?_) n h
 show wpAny _ _ ((compTurn (.ListComp elt [⟨target,iter,ifs,0⟩] scope pos) 0 it acc env).onRaise (λx=>do noteFrame x env;theTreesLotGoes x)) _ _ s
 refine wpAny_noted ?_
 rw[W_]
 have nx:∀{α:Type} {t:Sem α} {Q:α->Shared->Prop} {s:Shared} {N:Value->Shared->Prop},wpAny (model prog w) A t Q (λ_ _=>False) s->wpAny (model prog w) A t Q N s:=λh=>wpAny_mono h (λ_ _ q=>q) λ_ _ z=>z.elim
 refine wpAny_bind (wpAny_standAt (wpAny_bind (nx (thn (turn n s hI) λr s₁ h₁=>?_))))
 cases r with
 |none=>exact wpAny_pure h₁
 |some v=>
  refine wpAny_bind (nx (thn h₁ λ_ s₂ h₂=>?_))
  refine wpAny_bind (nx (thn h₂ λ_ s₃ h₃=>?_))
  refine wpAny_bind (thn (ux ifs h₃) λb s₄ h₄=>?_)
  cases b with
  |true=>
   rw[if_pos rfl] at h₄ ⊢
   exact wpAny_bind (wpAny_bind (thn h₄ λx s₅ h₅=>wpAny_bind (nx (thn h₅ λ_ s₆ h₆=>wpAny_pure (wpAny_pure ⟨rfl,h₆⟩)))))
  |false=>
   rw[if_neg (by decide)] at h₄ ⊢
   exact wpAny_pure ⟨rfl,h₄⟩
end
noncomputable abbrev noW:XW:=λ_ _ _ _=>False
noncomputable def cxC (X:Cx)(N:List Str)(sc:Scope)(cl:List (Str×Addr))(C0:Addr)(s3:Shared)(H3:Hp)(fp:List Addr):Cx:=
 {X with N:=N,s₀:=s3,H₀:=H3,env:=compEnvC sc cl C0 X.env,outer:=X.stack,ex:=fp,fn:=λ_=>false,pn:=[],xe:=λ_ _=>False}
noncomputable def Za(N cel:List Str)(tg:Expr)(sc:Scope):Bool:=
 (sc.kind == .function)&&sc.names.all (λp=>p.2 != .cell)&&sc.names.all (λp=>p.2 != .local || sc.names.lookup p.1 == some .local)&&
 (z6 tg).all (λx=>sc.names.lookup x == some .local&&x != ("__debug__":Str)&&x != ("__classdict__":Str))&&(frees sc).all (λx=>(idx N x).isSome&&sc.names.lookup x == some .free&&cel.contains x&&x != ("__debug__":Str)&&x != ("__classdict__":Str))&&decide ((z6 tg++frees sc).Nodup)&&
 (Vr sc).all (λx=>sc.names.lookup x == some .globalImplicit)
structure CompOk(N cel:List Str)(tg:Expr)(sc:Scope):Prop where
 kind:sc.kind=.function
 noc:∀p∈sc.names,p.2≠.cell
 lcl:∀p∈sc.names,p.2=.local->sc.names.lookup p.1=some .local
 own:∀x∈z6 tg,sc.names.lookup x=some .local/\(x == ("__debug__":Str))=false/\(x == ("__classdict__":Str))=false
 fre:∀x∈frees sc,(∃i,idx N x=some i)/\sc.names.lookup x=some .free/\x∈cel/\(x == ("__debug__":Str))=false/\(x == ("__classdict__":Str))=false
 nd:(z6 tg++frees sc).Nodup
 glb:∀x∈Vr sc,sc.names.lookup x=some .globalImplicit
theorem QR{N cel:List Str}{tg:Expr}{sc:Scope}(h:Za N cel tg sc=true):CompOk N cel tg sc:=by
 unfold Za at h
 simp only[Bool.and_eq_true,List.all_eq_true,beq_iff_eq,bne_iff_ne,Bool.or_eq_true,decide_eq_true_eq,List.contains_iff_mem,Option.isSome_iff_exists,ne_eq] at h
 obtain⟨⟨⟨⟨⟨⟨h1,h2⟩,h3⟩,h4⟩,h5⟩,h6⟩,h7⟩:=h
 refine⟨h1,h2,λp hp hl=>?_,λx hx=>?_,λx hx=>?_,h6,h7⟩
 ·rcases h3 p hp with z|z
  ·exact absurd hl z
  ·exact z
 ·obtain⟨⟨a,b⟩,c⟩:=h4 x hx
  exact⟨a,by simpa using b,by simpa using c⟩
 ·obtain⟨⟨⟨⟨a,b⟩,c⟩,d⟩,e⟩:=h5 x hx
  exact⟨a,b,c,by simpa using d,by simpa using e⟩
theorem zy{env:Env}{x:Str}:∀{names:List (Str×NameKind)} {kd:NameKind},names.lookup x=some kd->
  (names.map λ(n,k)=>if (k == NameKind.free&&env.scope.kind == .function&&env.kindOf n == some .cell) then (n,NameKind.cell) else (n,k)).lookup x=some (if (kd == NameKind.free&&env.scope.kind == .function&&env.kindOf x == some .cell) then .cell else kd)
 |[],_,h=>by simp at h
 |(n,k)::r,kd,h=>by
  have ih:=@zy env x r kd
  rw[List.map_cons]
  rw[List.lookup_cons] at h
  cases hx:x == n with
  |true=>
   have hx':x=n:=by simpa using hx
   subst hx'
   simp at h
   subst h
   dsimp only
   split<;>simp_all[List.lookup_cons]
  |false=>
   simp only[hx] at h
   dsimp only
   split
   ·rw[List.lookup_cons];simp only[hx];exact ih h
   ·rw[List.lookup_cons];simp only[hx];exact ih h
section
variable {X:Cx}{D:DP}{W:XW}{Γ:Cn}{k:Nat}{pins:List (Addr×Obj)}{s2:Shared}{σ:St}{H2:Hp}{φ α:List Addr}{τ:Sl}{μ:Mem}{tg:Expr}{sc:Scope}{cl:List (Str×Addr)}{fp:List Addr}
noncomputable def yn (N:List Str)(σ:St)(fs:List Str):St:=fs.map λx=>(idx N x).bind λi=>(σ[i]?).join
noncomputable def j5 (N:List Str):List Str->Option (List Nat)
 |[]=>some []
 |x::r=>match idx N x,j5 N r with
  |some i,some is=>some (i::is)
  |_,_=>none
theorem xR:∀(n:Nat) {fs:List Nat} {τ:Sl},blk n fs τ=List.replicate n none++Zw fs τ
 |0,_,_=>rfl
 |n+1,fs,τ=>by
  show none::blk n fs τ=_
  rw[xR n];rfl
theorem jQ:∀{fs:List Nat} {τ:Sl},(Zw fs τ).length=fs.length
 |[],_=>rfl
 |i::r,τ=>by show (Zw r τ).length+1=_;rw[jQ];rfl
theorem jB:∀{N xs:List Str} {fs:List Nat},j5 N xs=some fs->fs.length=xs.length
 |N,[],fs,h=>by cases h;rfl
 |N,x::r,fs,h=>by
  simp only[j5] at h
  split at h
  ·rename_i i is h1 h2
   cases h
   simp[jB h2]
  ·cases h
theorem yB{N:List Str}{H:Hp}(sr:SRel D φ α H τ σ):∀{xs:List Str} {fs:List Nat},j5 N xs=some fs->∀(j:Nat) (t:T),(Zw fs τ)[j]?=some (some t)->∃v,(yn N σ xs)[j]?=some (some v)/\Den D φ α H t v
 |[],fs,h,j,t,e=>by cases h;simp[Zw] at e
 |x::r,fs,h,j,t,e=>by
  simp only[j5] at h
  split at h
  ·rename_i i is h1 h2
   cases h
   cases j with
   |zero=>
    have e:some (W4 τ i)=some (some t):=e
    obtain⟨v,hv,d⟩:=sr.get (Option.some.inj e)
    exact⟨v,by simp[yn,h1,hv],d⟩
   |succ j=>
    have e:(Zw is τ)[j]?=some (some t):=e
    obtain⟨v,hv,d⟩:=yB sr h2 j t e
    exact⟨v,by simpa[yn] using hv,d⟩
  ·cases h
theorem KL{N:List Str}{H:Hp}{ns xs:List Str}{fs:List Nat}(sr:SRel D φ α H τ σ)(h:j5 N xs=some fs):SRel D φ α H (blk ns.length fs τ) (ns.map (λ_=>none)++yn N σ xs):=by
 rw[xR]
 refine⟨by simp[jQ,jB h,yn],λj t e=>?_⟩
 rcases Nat.lt_or_ge j ns.length with hj|hj
 ·rw[List.getElem?_append_left (by simpa using hj),List.getElem?_replicate] at e
  split at e<;>cases e
 ·rw[List.getElem?_append_right (by simpa using hj)] at e
  rw[List.getElem?_append_right (by simpa using hj)]
  simp only[List.length_map,List.length_replicate] at e ⊢
  exact yB sr h _ t e
theorem Z2(C:Ck D W Γ X k)(ok:CompOk Γ.N Γ.cel tg sc)(I2:Inv X pins σ H2 s2)(hf:∀b∈fp,yv X pins H2 b)(hfo:∀b∈fp,∃o,s2.heap.get? b=some o)(hcl:∀x c,cl.lookup x=some c->X.env.cells.lookup x=some c/\x∈frees sc)(hcl2:∀x∈frees sc,∃c,cl.lookup x=some c)
  {h1:Heap} (hns:h1.Ns (s2.heap.objs.size+1) (λ_=>none)) (hsb:Heap.SameBut (s2.heap.objs.size+1) ((s2.heap.push {cls:=.type "list",data:=.seq ([]:List Value).toArray}).push {cls:=.type "dict",data:=.dict #[]}) h1) {tk:Nat} :
  Inv X pins σ (upd H2 s2.heap.objs.size (.lst [])) {s2 with heap:=s2.heap.push {cls:=.type "list",data:=.seq ([]:List Value).toArray}}/\
  Inv (cxC X (z6 tg++frees sc) sc cl (s2.heap.objs.size+1) {s2 with heap:=s2.heap.push {cls:=.type "list",data:=.seq ([]:List Value).toArray}} (upd H2 s2.heap.objs.size (.lst [])) fp) []
   ((z6 tg).map (λ_=>none)++yn Γ.N σ (frees sc)) (upd H2 s2.heap.objs.size (.lst [])) {s2 with heap:=h1,toks:=tk}:=by
 have I3:Inv X pins σ (upd H2 s2.heap.objs.size (.lst [])) {s2 with heap:=s2.heap.push {cls:=.type "list",data:=.seq ([]:List Value).toArray}}:=I2.lnew (its:=[]) (t':=s2.toks) .nil (by simp)
 refine⟨I3,?_⟩
 generalize hA:s2.heap.push {cls:=.type "list",data:=.seq ([]:List Value).toArray}=HA at hsb I3 ⊢
 have szA:HA.objs.size=s2.heap.objs.size+1:=by rw[←hA,Heap.size_push]
 have old:∀b o,HA.get? b=some o->h1.get? b=some o:=λb o e=>hsb.extBut b o (by rw[←szA];exact Nat.ne_of_lt (Heap.lt_size e)) (Heap.get?_push_of_some _ e)
 have fresh:(upd H2 s2.heap.objs.size (.lst [])) (s2.heap.objs.size+1)=none:=by rw[←szA];exact I3.hok.fresh (Nat.le_refl _)
 have kindC:∀x∈frees sc,(cxC X (z6 tg++frees sc) sc cl (s2.heap.objs.size+1) {s2 with heap:=HA} (upd H2 s2.heap.objs.size (.lst [])) fp).env.kindOf x=some .cell\/(cxC X (z6 tg++frees sc) sc cl (s2.heap.objs.size+1) {s2 with heap:=HA} (upd H2 s2.heap.objs.size (.lst [])) fp).env.kindOf x=some .free:=λx hx=>by
  have:=zy (env:=X.env) (ok.fre x hx).2.1
  show (relabel sc X.env).names.lookup x=some .cell\/(relabel sc X.env).names.lookup x=some .free
  unfold relabel
  dsimp only
  rw[this]
  split
  ·exact .inl rfl
  ·exact .inr rfl
 refine⟨⟨I2.ok.mod,ok.kind,I2.ok.glob,I2.ok.blt,?_,?_,?_,λx c h=>absurd h (by simp[cxC]),I2.ok.hd,I2.ok.frames,.inl rfl,?_,?_,?_,?_,?_,?_,?_⟩,rfl,I2.bare,Un.kept old,⟨_,hns,?_⟩,?_,fresh,?_,λp hp=>absurd hp (by simp[cxC]),I3.hok.kept old,?_⟩
 ·show HA.objs.size<=s2.heap.objs.size+1
  omega
 ·intro x y c h1 h2
  exact I2.ok.inj x y c (hcl x c h1).1 (hcl y c h2).1
 ·intro x hx
  have hx':(relabel sc X.env).names.lookup x=some .cell\/(relabel sc X.env).names.lookup x=some .free:=hx
  by_cases hm:x∈frees sc
  ·exact hcl2 x hm
  ·exfalso
   cases q:sc.names.lookup x with
   |none=>
    have:(relabel sc X.env).names.lookup x=none:=by
     unfold relabel
     dsimp only
     rw[List.lookup_eq_none_iff] at q ⊢
     intro p hp
     obtain⟨p0,hp0,rfl⟩:=List.mem_map.mp hp
     have:=q p0 hp0
     try dsimp only
     split<;>exact this
    rw[this] at hx'
    rcases hx' with z|z<;>cases z
   |some kd=>
    have hr:=zy (env:=X.env) q
    have hx2:=hx'
    unfold relabel at hx2
    dsimp only at hx2
    rw[hr] at hx2
    have hmem:(x,kd)∈sc.names:=PySem.mem_of_lookup q
    by_cases hkf:kd=.free
    ·exact hm (wg.mpr ⟨_,hmem,rfl,hkf⟩)
    ·have e:(kd == NameKind.free)=false:=by simpa using hkf
     rw[e] at hx2
     simp only[Bool.false_and,Bool.false_eq_true,if_false,Option.some.injEq] at hx2
     rcases hx2 with z|z
     ·exact ok.noc _ hmem z
     ·exact hkf z
 ·intro b hb
  obtain⟨f0,f1,f2,f3,f4,f5⟩:=hf b hb
  obtain⟨o,ho⟩:=hfo b hb
  refine⟨?_,λx c h=>f4 x c (hcl x c h).1⟩
  show b≠s2.heap.objs.size+1
  exact Nat.ne_of_lt (Nat.lt_succ_of_lt (Heap.lt_size ho))
 ·intro b o e
  exact I3.bs b o e
 ·exact Nat.le_trans I3.ok.bsz I3.sz
 ·intro b o e hb
  obtain⟨f0,f1,f2,f3,f4,f5⟩:=hf b hb
  rcases f3 with z|z
  ·exact I2.ok.noex b o e z
  ·exact absurd (Nat.lt_of_lt_of_le (Heap.lt_size e) (Nat.le_trans I2.ok.bsz z)) (Nat.lt_irrefl _)
 ·intro b hb hfs
  obtain⟨f0,f1,f2,f3,f4,f5⟩:=hf b hb
  rcases List.mem_cons.mp (I2.stkSub b hfs) with z|z
  ·exact f1 z
  ·exact f2 z
 ·exact I3.stack
 ·intro b hb
  exact I3.stkFree b hb
 ·intro i x v hN hσ hv
  obtain⟨m,hn,hl⟩:=I2.loc
  by_cases hi:i<(z6 tg).length
  ·exfalso
   rw[List.getElem?_append_left (by simpa using hi),List.getElem?_map] at hσ
   cases q:(z6 tg)[i]? with
   |none=>rw[q] at hσ;cases hσ
   |some y=>rw[q] at hσ;cases hσ
  ·have hN':(frees sc)[i-(z6 tg).length]?=some x:=by
    have:(z6 tg++frees sc)[i]?=some x:=hN
    rwa[List.getElem?_append_right (by omega)] at this
   rw[List.getElem?_append_right (by simpa using hi)] at hσ
   simp only[List.length_map] at hσ
   unfold yn at hσ
   rw[List.getElem?_map,hN'] at hσ
   simp only[Option.map_some,Option.some.injEq] at hσ
   have hx:x∈frees sc:=List.mem_of_getElem? hN'
   obtain⟨⟨j,hj⟩,_,hcelm,_⟩:=ok.fre x hx
   rw[hj] at hσ
   simp only[Option.bind_some] at hσ
   cases u:σ[j]? with
   |none=>rw[u] at hσ;cases hσ
   |some o=>
    rw[u] at hσ
    simp only[Option.join_some] at hσ
    subst hσ
    obtain⟨w,rw',lk⟩:=hl j x v (by rw[C.hN];exact qg hj) u (C.vis x (zZ hj))
    refine⟨w,rw',.inr ⟨kindC x hx,?_⟩⟩
    have kx:=C.cel x hcelm
    rcases lk with⟨z,_⟩|⟨_,c,hc,hcell⟩
    ·rw[z] at kx
     rcases kx with kx|kx<;>cases kx
    ·obtain⟨c',hc'⟩:=hcl2 x hx
     have:=(hcl x c' hc').1
     rw[hc] at this
     cases this
     refine⟨c,hc',?_⟩
     obtain⟨oc,ho,hd⟩:=hcell
     exact⟨oc,old c oc (by rw[←hA];exact Heap.get?_push_of_some _ ho),hd⟩
 ·intro x c h
  obtain⟨v,oc,ho,hd⟩:=I2.cell x c (hcl x c h).1
  exact⟨v,oc,old c oc (by rw[←hA];exact Heap.get?_push_of_some _ ho),hd⟩
 ·intro x c h
  exact (I3.freeC x c (hcl x c h).1).imp id λz=>⟨rfl,z.2⟩
 ·show _=(z6 tg++frees sc).length
  simp[yn]
end
section
variable {X:Cx}{D:DP}{W:XW}{Γ:Cn}{k:Nat}{pins:List (Addr×Obj)}{s:Shared}{σ:St}{H:Hp}{φ α:List Addr}{τ:Sl}{μ:Mem}{tg iter elt:Expr}{sc:Scope}{fp:List Addr}{pos pos':Pos}
noncomputable def inComp(Γ:Cn)(tg:Expr)(sc:Scope):Cn:={Γ with N:=z6 tg++frees sc,G:=(Vr sc).filter Γ.U.contains,cel:=frees sc,lam:=none}
theorem Ks{W':XW}{pn:List (Addr×Obj)}{xe:Value->Shared->Prop}(C:Ck D W Γ X k)(ok:CompOk Γ.N Γ.cel tg sc){cl:List (Str×Addr)}{C0:Addr}{s3:Shared}{H3:Hp}
  (hxe:∀e s,XP {(cxC X (z6 tg++frees sc) sc cl C0 s3 H3 fp) with pn:=pn,xe:=xe} W' e s->xe e s):Ck D W' (inComp Γ tg sc) {(cxC X (z6 tg++frees sc) sc cl C0 s3 H3 fp) with pn:=pn,xe:=xe} k:=by
 have kindC:∀x∈frees sc,(relabel sc X.env).names.lookup x=some .cell\/(relabel sc X.env).names.lookup x=some .free:=λx hx=>by
  have:=zy (env:=X.env) (ok.fre x hx).2.1
  unfold relabel
  dsimp only
  rw[this]
  split
  ·exact .inl rfl
  ·exact .inr rfl
 have other:∀{x kd},sc.names.lookup x=some kd->kd≠.free->(relabel sc X.env).names.lookup x=some kd:=λ{x kd} h hk=>by
  have:=zy (env:=X.env) h
  unfold relabel
  dsimp only
  rw[this]
  have e:(kd == NameKind.free)=false:=by simpa using hk
  simp[e]
 refine⟨C.hK,rfl,ok.nd,λx hx=>?_,λx hx=>?_,λx hx=>?_,λx hx=>?_,λx hx=>?_,C.glU,kindC,C.isi,C.fld,C.xcx,C.ocx,C.clv,C.clm,C.rom,C.rmh,hxe,?_,LamOk.no rfl,λh=>by cases h⟩
 ·rcases List.mem_append.mp hx with h|h
  ·exact .inl (other (ok.own x h).1 (by decide))
  ·rcases kindC x h with z|z
   ·exact .inr (.inl z)
   ·exact .inr (.inr z)
 ·rcases List.mem_append.mp hx with h|h
  ·exact (ok.own x h).2
  ·exact (ok.fre x h).2.2.2
 ·exact (C.glU x (by have:=(List.mem_filter.mp hx).2;simpa using this)).2
 ·exact other (ok.glb x (List.mem_filter.mp hx).1) (by decide)
 ·exact (C.glU x (by have:=(List.mem_filter.mp hx).2;simpa using this)).1
 ·obtain⟨e0,out,L,F⟩:=C.frm
  exact⟨e0,out,L,⟨F.stk,F.f0,F.fe⟩⟩
theorem VU(ok:CompOk Γ.N Γ.cel tg sc){cl:List (Str×Addr)}{C0:Addr}{s3:Shared}{H3:Hp}:Sto (cxC X (z6 tg++frees sc) sc cl C0 s3 H3 fp) (z6 tg):=λx hx=>by
 have e:=zy (env:=X.env) (ok.own x hx).1
 have e':(relabel sc X.env).names.lookup x=some .local:=by
  unfold relabel
  dsimp only
  rw[e]
  rfl
 exact⟨.inl e',.inr e'⟩
theorem uT{M:List Str}{x:Str}:∀{L:List Str} {i:Nat},x∈L->idx (L++M) x=some i->i<L.length
 |[],_,h,_=>absurd h (by simp)
 |y::L,i,h,e=>by
  rw[List.cons_append] at e
  simp only[idx] at e
  split at e
  ·cases e;simp
  ·rename_i hn
   have hm:x∈L:=(List.mem_cons.mp h).resolve_left λz=>hn z.symm
   cases q:idx (L++M) x with
   |none=>rw[q] at e;cases e
   |some j=>rw[q] at e;cases e;simpa using uT hm q
theorem kW{n i:Nat}{t:Option T}{τ:Sl}(h:i<n):∀j,n<=j->(wD τ i t)[j]?=τ[j]?:=λj hj=>by
 rw[jf,List.getElem?_set_ne (by omega)]
theorem kA{L M:List Str}:∀{es:List Expr} {is:List Nat} {ts:List T} {τ τ':Sl},(∀e∈es,∀x p,e=.Name x p->x∈L)->idxs (L++M) es=some is->yh is ts τ=some τ'->∀j,L.length<=j->τ'[j]?=τ[j]?
 |[],is,ts,τ,τ',_,h0,h=>by
  cases h0
  cases ts with
  |nil=>cases h;exact λ_ _=>rfl
  |cons _ _=>cases h
 |e::es,is,ts,τ,τ',hn,h0,h=>by
  cases e with
  |Name x p0=>
   simp only[idxs] at h0
   split at h0
   ·rename_i i is' hi his
    cases h0
    cases ts with
    |nil=>cases h
    |cons t ts=>
     intro j hj
     rw[kA (λe he=>hn e (List.mem_cons_of_mem _ he)) his (show yh is' ts (wD τ i (some t))=some τ' from h) j hj]
     exact kW (uT (hn _ List.mem_cons_self x p0 rfl) hi) j hj
   ·cases h0
  |_=>simp[idxs] at h0
theorem WU{M:List Str}{e:Expr}{tgt:Tg}{t:T}{τ τ':Sl}(h0:qe (z6 e++M) e=some tgt)(h:asg tgt t τ=some τ'):∀j,(z6 e).length<=j->τ'[j]?=τ[j]?:=by
 cases e with
 |Name x p0=>
  simp only[qe] at h0
  cases q:idx (z6 (.Name x p0)++M) x with
  |none=>rw[q] at h0;cases h0
  |some i=>
   rw[q] at h0;cases h0
   cases (Option.some.inj h:wD τ i (some t)=τ')
   exact kW (uT (by simp[z6]) q)
 |Tuple es kk p0=>
  simp only[qe] at h0
  cases q:idxs (z6 (.Tuple es kk p0)++M) es with
  |none=>rw[q] at h0;cases h0
  |some is=>
   rw[q] at h0;cases h0
   cases t with
   |tup ts=>exact kA (λe he x p hx=>by subst hx;exact List.mem_filterMap.mpr ⟨_,he,rfl⟩) q h
   |_=>cases h
 |_=>simp[qe] at h0
noncomputable def uY (X:Cx)(D:DP)(W:XW):List Expr->List Dt->Prop
 |[],[]=>True
 |e::es,f::fs=>PT X e (rdT D W f)/\uY X D W es fs
 |_,_=>False
theorem Js{M:Model}{A:Around}{β:Type}{R:β->Mem->List Addr->Hp->Prop}{fe:De}{kk:Option T->Mem->RE β}{Qf:Bool->Shared->Prop}:∀{cs:List Expr} {fs:List Dt} {s:Shared} {H:Hp} {α:List Addr} {μ:Mem},uY X D W cs fs->Inv X pins σ H s->SRel D φ α H τ σ->MRel D φ α H μ->Post D W φ α H σ R ((j6 fs fe τ μ).bind kk)->
  (∀s' H' α' μ',Inv X pins σ H' s'->Stp α H α' H'->SRel D φ α' H' τ σ->MRel D φ α' H' μ'->Post D W φ α' H' σ R ((fe τ μ').bind λy μ1=>kk (some y) μ1)->Qf true s')->
  (∀s' H' α' μ',Inv X pins σ H' s'->Stp α H α' H'->SRel D φ α' H' τ σ->MRel D φ α' H' μ'->Post D W φ α' H' σ R (kk none μ')->Qf false s')->
  vJ (model X.prog X.w) X.A X.env X.xe cs Qf s
 |[],[],s,H,α,μ,_,I,sr,mr,p,h1,_=>h1 s H α μ I (Stp.refl _ _) sr mr p
 |[],_::_,_,_,_,_,h,_,_,_,_,_,_=>h.elim
 |_::_,[],_,_,_,_,h,_,_,_,_,_,_=>h.elim
 |c::cs,f::fs,s,H,α,μ,h,I,sr,mr,p,h1,h2=>by
  have p:Post D W φ α H σ R ((f τ μ).bind λb μ1=>(RE.br b (j6 fs fe τ μ1) (.ok none μ1)).bind kk):=p
  refine thn (z1r h.1 I sr mr p) ?_
  rintro b s1 ⟨H1,μ1,α1,I1,st1,sr1,mr1,p1⟩
  cases b with
  |true=>
   rw[if_pos rfl]
   exact Js (M:=M) (A:=A) h.2 I1 sr1 mr1 p1 (λs' H' α' μ' a b=>h1 s' H' α' μ' a (st1.trans b)) (λs' H' α' μ' a b=>h2 s' H' α' μ' a (st1.trans b))
  |false=>
   rw[if_neg (by decide)]
   exact h2 s1 H1 α1 μ1 I1 st1 sr1 mr1 p1
end
section
variable {X:Cx}{D:DP}{W:XW}{Γ:Cn}{k:Nat}{pins:List (Addr×Obj)}{s:Shared}{σ:St}{H:Hp}{φ α:List Addr}{τ:Sl}{μ:Mem}{tg iter elt:Expr}{sc:Scope}{fp:List Addr}{pos pos':Pos}
theorem vX{M:Model}{A:Around}{env:Env}{E E':Value->Shared->Prop}{Q:Bool->Shared->Prop}(h:∀e s,E e s->E' e s):∀{cs:List Expr} {s:Shared},vJ M A env E cs Q s->vJ M A env E' cs Q s
 |[],_,q=>q
 |c::cs,s,q=>wpAny_mono q (λb s1 q1=>by
  cases b with
  |true=>rw[if_pos rfl] at q1 ⊢;exact vX h q1
  |false=>rw[if_neg (by decide)] at q1 ⊢;exact q1) h
theorem XTr.but{C0 x T:Addr}{cls fl:Value}{d:Option Addr}{h g:Heap}(t:XTr h x T cls d fl)(sb:Heap.SameBut C0 h g)(hx:x≠C0)(hT:T≠C0):XTr g x T cls d fl:=by
 obtain⟨oe,vs,a0,oT,ts,ho,hc,hd,hv0,hv1,hTx,hoT,hdT,h3,hv2⟩:=t
 exact⟨oe,vs,a0,oT,ts,sb.extBut x oe hx ho,hc,hd,hv0,hv1,hTx,sb.extBut T oT hT hoT,hdT,h3,hv2⟩
theorem j7{C0:Addr}{h':Heap}(I:Inv X pins σ H s)(xo:XOk X H C0)(hp:∀q∈pins,q.1≠C0)(sb:Heap.SameBut C0 s.heap h'):Inv X pins σ H {s with heap:=h'}:=
 jx (ch:=[C0]) I (λb hb=>by rw[List.mem_singleton.mp hb];exact⟨xo,hp⟩) (λb o _ hc e=>sb.extBut b o (λz=>hc (by simp[z])) e) λb o _ hc e=>⟨o.slots,sb.extBut b o (λz=>hc (by simp[z])) e⟩
inductive CompI(D:DP)(Xb:Cx)(tn:Nat->Heap->Prop)(fp φ1 α1:List Addr)(H2:Hp)(acc:Addr)(bl:Sl)(xs:List T)(P:Nat->List T->Mem->Prop)(n:Nat)(s':Shared):Prop where
 |mk (i:Nat) (σ':St) (H':Hp) (α':List Addr) (μ':Mem) (yT:List T) (yV:List V) (e:n=xs.length-i) (hi:i<=xs.length) (iv:Inv Xb [] σ' H' s') (t:tn i s'.heap) (fr:∀b∈fp,H' b=none) (st:Stp α1 H2 α' H') (mr:MRel D φ1 α' H' μ') (sr:SRel D φ1 α' H' bl σ') (ac:H' acc=some (.lst yV)) (dl:DenL D φ1 α' H' yT yV) (hy:yT.length<=i) (q:P i yT μ')
inductive CompX(D:DP)(φ1 α1:List Addr)(H2:Hp)(Z0:Xp)(cls:Value)(d:Option Addr)(_:St)(He:Hp):Prop where
 |mk (c:Nat) (fs':List (Nat×T)) (μ':Mem) (α':List Addr) (Cc:Addr) (z:Z0 c fs' μ') (st:Stp α1 H2 α' He) (m:MRel D φ1 α' He μ') (ad:D.adr c=some Cc) (e:cls=cvF fs' Cc) (xd:XDict D φ1 α' He fs' d)
structure XbOk(Xb X:Cx)(env:Env)(N:List Str):Prop where
 pr:Xb.prog=X.prog
 w:Xb.w=X.w
 K:Xb.K=X.K
 A:Xb.A=X.A
 en:Xb.env=env
 ca:Xb.calm=X.calm
 st:Xb.stack=X.stack
 N:Xb.N=N
theorem vB{β:Type}{R:β->Mem->List Addr->Hp->Prop}{fi:Di}{fs:List Nat}{tgt:Tg}{ifs:List Expr}{cs:List Dt}{fe:De}{kk:List T->Mem->RE β}{use:Option (Value->Sem Unit)}{Qf:Value->Shared->Prop}
  (C:Ck D W Γ X k) (hc:Γ.calm=true) (ok:CompOk Γ.N Γ.cel tg sc) (hfs:j5 Γ.N (frees sc)=some fs) (htg:qe (z6 tg++frees sc) tg=some tgt) (hi:PI X tg iter (rdI D W fi)) (hel:∀X' W',Ck D W' (inComp Γ tg sc) X' k->PE X' elt (rdE D W' fe)) (hts:∀X' W',Ck D W' (inComp Γ tg sc) X' k->uY X' D W' ifs cs) (hs:∀x,foldedSetIterable iter X.env x=pure x)
  (I:Inv X pins σ H s) (sr:SRel D φ α H τ σ) (mr:MRel D φ α H μ)
  (p:Post D W φ α H σ R ((fi τ μ).go λxs o μ1=>.grd (xs.length<=room) ((zN tgt (j6 cs fe) o (blk (z6 tg).length fs τ) xs μ1).bind kk)))
  (Kq:∀acc C0 s' α1 H1 H' α' ys vs μ',Inv X pins σ H' s'->Stp α H α1 H1->Stp α1 H1 α' H'->H1 acc=none->acc∉φ->acc∉α1->SRel D (φ++[acc]) α' H' τ σ->MRel D (φ++[acc]) α' H' μ'->H' acc=some (.lst vs)->DenL D (φ++[acc]) α' H' ys vs->Post D W φ α1 H1 σ R (kk ys μ')->XOk X H' C0->(∀q∈pins,q.1≠C0)->(∃m,s'.heap.Ns C0 m)->
   (match use with
    |none=>∃m,s'.heap.Ns C0 m/\∀g,Heap.SameBut C0 s'.heap g->Qf (.ref acc) {s' with heap:=g}
    |some u=>wpAny (model X.prog X.w) X.A (u (.ref acc)) (λ_ t2=>∃m,t2.heap.Ns C0 m/\∀g,Heap.SameBut C0 t2.heap g->Qf .none {t2 with heap:=g}) X.xe s')) :
  wpAny (model X.prog X.w) X.A (comprehension (.ListComp elt [⟨tg,iter,ifs,0⟩] sc pos) sc X.env pos' (newList []) false (eval iter X.env) use) Qf X.xe s:=by
 obtain⟨cl,hclos,hcl,hcl2⟩:=uV (sc:=sc) (env:=X.env) λx hx=>I.ok.has x (C.cel x (ok.fre x hx).2.2.1)
 refine JT (use:=use) rfl hs hclos ok.kind ok.lcl (thn (hi pins s σ H (λJ H2=>∃xs o μ1 α1 Ok,ItV D J Ok xs/\OkI D φ α1 H2 xs o Ok/\o μ1/\Stp α H α1 H2/\MRel D φ α1 H2 μ1/\
  Post D W φ α1 H2 σ R (.grd (xs.length<=room) ((zN tgt (j6 cs fe) o (blk (z6 tg).length fs τ) xs μ1).bind kk))) I
  ⟨φ,α,τ,μ,sr,mr,(show Post D W φ α H σ R ((fi τ μ).re.bind λpr μ1=>.grd (pr.1.length<=room) ((zN tgt (j6 cs fe) pr.2 (blk (z6 tg).length fs τ) pr.1 μ1).bind kk)) from p).bind.mono λpr μ' α' H' st m q J Ok iv okk lv=>⟨pr.1,pr.2,μ',α',Ok,iv,okk,lv,st,m,q⟩⟩) λv s1 h1=>thn h1 λitv s2 h2=>?_)
 obtain⟨it,fp,tn,J,H2,rfl,I2,Tn,tn0,f2,xs,Lv,μ1,α1,Ok,iv,okk,lv1,st1,mr1,p1⟩:=h2
 obtain⟨hroom,K0,Z0,q0,hk0,hz0⟩:=p1.grd
 have fo:∀b∈fp,∃o,s2.heap.get? b=some o:=λb hb=>let ⟨o,e,_⟩:=Tn.obj 0 _ tn0 b hb;⟨o,e⟩
 refine wpAny_newObj_type (wpAny_newFunctionEnv ok.noc (by intro y hy;simp at hy) (λh₁ hns₁ hsb₁=>?_) ok.kind)
 have sz:(s2.heap.push {cls:=.type "list",dict:=none,data:=.seq ([]:List Value).toArray}).objs.size=s2.heap.objs.size+1:=Heap.size_push ..
 dsimp only at hns₁ hsb₁ ⊢
 rw[sz] at hns₁ hsb₁ ⊢
 have hns:h₁.Ns (s2.heap.objs.size+1) (λ_=>none):=by simpa using hns₁
 obtain⟨I3,J0⟩:=Z2 (tk:=s2.toks+([]:List (Str×Value)).length) C ok I2 f2 fo hcl hcl2 hns hsb₁
 have hD:H2 s2.heap.objs.size=none:=I2.hok.fresh (Nat.le_refl _)
 have nph:s2.heap.objs.size∉φ:=zj mr1 hD
 have nal:s2.heap.objs.size∉α1:=zh mr1 hD
 have old:∀b o,s2.heap.get? b=some o->h₁.get? b=some o:=λb o e=>hsb₁.extBut b o (Nat.ne_of_lt (Nat.lt_succ_of_lt (Heap.lt_size e))) (Heap.get?_push_of_some _ (Heap.get?_push_of_some _ e))
 have n3:({s2 with heap:=s2.heap.push {cls:=.type "list",data:=.seq ([]:List Value).toArray}}:Shared).heap.get? (s2.heap.objs.size+1)=none:=Heap.get?_none_of_le (by show (s2.heap.push _).objs.size<=_;rw[Heap.size_push];exact Nat.le_refl _)
 have xo0:=qk I3 n3
 have pn3:∀q∈pins,q.1≠s2.heap.objs.size+1:=λq hq z=>by
  have:=(I3.pin q (List.mem_append_right _ hq)).1
  rw[z,n3] at this;cases this
 generalize hS3:({s2 with heap:=s2.heap.push {cls:=.type "list",data:=.seq ([]:List Value).toArray}}:Shared)=S3 at I3 J0 n3
 generalize hH3:upd H2 s2.heap.objs.size (.lst [])=H3 at I3 J0 xo0
 generalize hXb:cxC X (z6 tg++frees sc) sc cl (s2.heap.objs.size+1) S3 H3 fp=Xb at J0
 have hXb':XbOk Xb X (compEnvC sc cl (s2.heap.objs.size+1) X.env) (z6 tg++frees sc):=by subst hXb;exact⟨rfl,rfl,rfl,rfl,rfl,rfl,rfl,rfl⟩
 have sto:Sto Xb (z6 tg):=by subst hXb;exact VU (Γ:=Γ) ok
 have cm:Xb.calm=true:=by rw[hXb'.ca];exact C.clm hc
 have back:∀{s4:Shared} {σ4:St} {H4:Hp} {pp:List (Addr×Obj)},Inv Xb pp σ4 H4 s4->Inv X pins σ H4 s4:=λ{s4 σ4 H4 pp} I4=>by
  subst hXb
  exact I3.call' (ch:=fp) I4.os I4.base I4.hok I4.bare λb hb=>by
   obtain⟨f0,f1,f2',f3,f4,f5⟩:=f2 b hb
   exact⟨f3,f1,f4,f5⟩
 have fpk:∀{H':Hp},(∀b∈fp,H' b=none)->∀b∈fp,yv Xb [] H' b:=λhn b hb=>by
  obtain⟨f0,f1,f2',f3,f4,f5⟩:=f2 b hb
  obtain⟨o,ho⟩:=fo b hb
  subst hXb
  refine⟨hn b hb,Nat.ne_of_lt (Nat.lt_succ_of_lt (Heap.lt_size ho)),λz=>?_,.inl hb,λx c h=>f4 x c (hcl x c h).1,λq hq=>absurd hq (by simp[cxC])⟩
  rcases List.mem_cons.mp (I2.stkSub b z) with z|z
  ·exact f1 z
  ·exact f2' z
 have TnI:=Tn.item Xb hXb'.pr hXb'.w hXb'.K cm
 have TnD:=Tn.done Xb hXb'.pr hXb'.w hXb'.K cm
 obtain⟨e0,out,L,F⟩:=C.frm
 have ce:(compEnvC sc cl (s2.heap.objs.size+1) X.env).frame=some L:=F.fe
 obtain⟨NB,hNB⟩:∃NB:Value->Shared->Prop,NB=notedBy (model X.prog X.w) X.A (compEnvC sc cl (s2.heap.objs.size+1) X.env) (λx s'=>ya (model X.prog X.w) X.A X.xe use Qf (.ref s2.heap.objs.size) (compEnvC sc cl (s2.heap.objs.size+1) X.env) (.error x) s'):=⟨_,rfl⟩
 have leave:∀{pp:List (Addr×Obj)} {e:Value} {t:Shared},(∀b∈fp,∃o,(b,o)∈pp)->XP (Cx.pin' Xb pp) (CompX D (φ++[s2.heap.objs.size]) α1 H2 Z0) e t->
   NB e t:=λ{pp e t} hpp xp=>by
  have Fb:Frm (Cx.pin' Xb pp) e0 out L:=⟨by show Xb.stack=_;rw[hXb'.st];exact F.stk,F.f0,by show Xb.env.frame=_;rw[hXb'.en];exact ce⟩
  have hfr:X.A.frames=some (Cx.pin' Xb pp).stack:=by show _=some Xb.stack;rw[hXb'.st];exact I.ok.frames
  rw[hNB]
  unfold notedBy
  rw[show compEnvC sc cl (s2.heap.objs.size+1) X.env=(Cx.pin' Xb pp).env from hXb'.en.symm]
  refine wk (X:=Cx.pin' Xb pp) Fb hfr xp λx cls d σe He T h' ee Ie ox oT tr w=>?_
  subst ee
  have en:(Cx.pin' Xb pp).env=compEnvC sc cl (s2.heap.objs.size+1) X.env:=hXb'.en
  rw[en]
  have Iu:Inv Xb pp σe He {t with heap:=h'}:=zi Ie
  have IX:=back Iu
  have nw:∀b,XOk (Cx.pin' Xb pp) He b->XOk X He b/\b≠s2.heap.objs.size+1:=λb o=>by
   have hb:b∉fp:=λz=>by
    obtain⟨ob,hm⟩:=hpp b z
    exact o.pin (b,ob) (List.mem_append_right _ hm) rfl
   have h3:S3.heap.get? b=none:=by
    have:=o.new
    subst hXb
    exact this.resolve_left hb
   have q:=qk I3 h3
   refine⟨⟨o.free,q.loc,q.nfs,q.new,q.cel,q.pin⟩,?_⟩
   have:=o.loc
   have e2:(Cx.pin' Xb pp).env.locals=s2.heap.objs.size+1:=by rw[en];rfl
   rw[e2] at this;exact this
  have xoC:XOk X He (s2.heap.objs.size+1):=⟨by have:=Iu.free;rw[hXb'.en] at this;exact this,xo0.loc,xo0.nfs,xo0.new,xo0.cel,xo0.pin⟩
  obtain⟨m,hm,_⟩:=Iu.loc
  rw[hXb'.en] at hm
  refine⟨m,hm,λg sb=>?_⟩
  have sb':Heap.SameBut (s2.heap.objs.size+1) h' g:=sb
  have Ig:Inv X [] σ He {t with heap:=g}:=(j7 IX xoC pn3 sb').pins_of λp hp=>absurd hp (by simp)
  have tg':=tr.but sb' (nw x ox).2 (nw T oT).2
  unfold PySem.passOn
  obtain⟨oe,vs',a0,oT',ts,ho,hcc,hd,hv0,hv1,hT,hoT,hdT,h3,_⟩:=id tg'
  refine wpAny_bind (wpAny_field ho hd hv1 ?_)
  rw[if_neg (show ¬((Value.ref T == Value.none)=true) from by simp)]
  have go:∀{t2:Shared},XP X W (.ref x) t2->wpAny (model X.prog X.w) X.A (throw (Value.ref x):Sem Value) (λ_ _=>False) X.xe t2:=λ{t2} xp=>wpAny_throw (C.xe _ _ xp)
  have fin:wpAny (model X.prog X.w) X.A (setFlight (.ref x) (compEnvC sc cl (s2.heap.objs.size+1) X.env).frame) (λ_ t2=>XP X W (.ref x) t2) X.xe {t with heap:=g}:=by
   refine zF (s:={t with heap:=g}) Ig (nw x ox).1 (nw T oT).1 tg' λh4 I4 tr4=>?_
   obtain⟨c,fs',μ',α',Cc,z,stp,m',ad,rfl,xd⟩:=w
   refine⟨x,cvF fs' Cc,d,σ,He,some T,rawInt L,rfl,I4,(nw x ox).1,λt ht=>?_,?_,.inr ⟨L,F.fe,rfl⟩,?_⟩
   ·have:t=T:=by simpa using ht
    rw[this];exact (nw T oT).1
   ·rw[ce] at tr4;exact tr4
   ·refine hz0 c fs' μ' z α' He Cc d stp (m'.lk qx (λa ha=>⟨rfl,λz=>m'.dis a ha (List.mem_append_left _ z)⟩) λb hb=>m'.phi b (List.mem_append_left _ hb)) ad (xd.lk qx)
  first
   |exact wpAny_bind (thn fin λ_ t2 xp=>go xp)
   |exact wpAny_bind (wpAny_pure (wpAny_bind (thn fin λ_ t2 xp=>go xp)))
 have loop:codeAny (model X.prog X.w) X.A (.compLoop (.ListComp elt [⟨tg,iter,ifs,0⟩] sc pos) 0 (.ref it) (.ref s2.heap.objs.size) (compEnvC sc cl (s2.heap.objs.size+1) X.env)) (ya (model X.prog X.w) X.A X.xe use Qf (.ref s2.heap.objs.size) (compEnvC sc cl (s2.heap.objs.size+1) X.env)) {s2 with heap:=h₁,toks:=s2.toks+([]:List (Str×Value)).length}:=by
  obtain⟨LI,hLI⟩:∃LI:Nat->Shared->Prop,LI=CompI D Xb tn fp (φ++[s2.heap.objs.size]) α1 H2 s2.heap.objs.size (blk (z6 tg).length fs τ) xs (λi yT μ'=>Lv μ'/\zN tgt (j6 cs fe) Lv (blk (z6 tg).length fs τ) (xs.drop i) μ' (λrest μ2=>kk (yT++rest) μ2 K0 Z0) Z0):=⟨_,rfl⟩
  refine Wc LI ?_ xs.length ?_
  ·intro n s' h0
   rw[hLI] at h0
   obtain⟨i,σ',H',α',μ',yT,yV,rfl,hi',Iv,tni,fr,stp,mr',sr',hacc,dly,hyl,lv',hcmi⟩:=h0
   have okH:Ok (φ++[s2.heap.objs.size]) α' H':=okk _ α' H' μ' ((vH hD).trans stp.lk) mr' lv'
   by_cases hlt:i<xs.length
   ·have TI:=TnI i [] s' σ' H' (λ_ _=>False) Iv (fpk fr) tni (iv.go i _ _ H' okH (by omega))
    rw[hXb'.A] at TI
    refine thn TI ?_
    rintro r s4 ⟨u,rfl,h4⟩
    refine thn h4 ?_
    rintro _ s5 ⟨x,H5,I5,r5,y5,tn5,fr5⟩
    obtain⟨sm5,dx'⟩:=iv.yld i _ _ H' x H5 xs[i] okH (by simp[hlt]) y5
    have stp:=stp.trans (Stp.new (α:=α') sm5)
    have sr':=sr'.step (Stp.new (α:=α') sm5)
    have mr':=mr'.new sm5
    have hacc:=sm5 _ _ hacc
    have dly:=dly.step (Stp.new (α:=α') sm5)
    have hdr:xs.drop i=xs[i]::xs.drop (i+1):=List.drop_eq_getElem_cons hlt
    rw[hdr] at hcmi
    obtain⟨τ',ha,hfe⟩:=hcmi
    have I5':=I5.pinned (fpk fr5) (Tn.obj _ _ tn5)
    have A6:=Zi (S:=z6 tg) (X:=Xb) hXb'.N ok.nd sto cm (λx h=>h) htg ha I5' sr' dx' r5
    rw[hXb'.pr,hXb'.w,hXb'.A,hXb'.en,show Xb.xe=λ_ _=>False by subst hXb;rfl] at A6
    refine thn A6 ?_
    rintro _ s6 ⟨σ6,I6,sr6⟩
    generalize hpp:([]++jv fp s5.heap:List (Addr×Obj))=pp at I6
    have hppm:∀b∈fp,∃o,(b,o)∈pp:=λb hb=>by
     obtain⟨o,e,_⟩:=Tn.obj _ _ tn5 b hb
     exact⟨o,by rw[←hpp];exact List.mem_append_right _ (qD hb e)⟩
    generalize hW1:CompX D (φ++[s2.heap.objs.size]) α1 H2 Z0=W1
    have lv:∀e t,XP (Cx.pin' Xb pp) W1 e t->NB e t:=λe t xp=>by
     rw[←hW1] at xp;exact leave hppm xp
    have ck:Ck D W1 (inComp Γ tg sc) ((Cx.pin' Xb pp).wish (XP (Cx.pin' Xb pp) W1)) k:=by
     subst hXb
     exact Ks (W':=W1) (pn:=[]++pp) (xe:=XP (Cx.pin' (cxC X (z6 tg++frees sc) sc cl (s2.heap.objs.size+1) S3 H3 fp) pp) W1) C ok λe s p=>we (X:=Cx.pin' (cxC X (z6 tg++frees sc) sc cl (s2.heap.objs.size+1) S3 H3 fp) pp) p
    have I6':Inv ((Cx.pin' Xb pp).wish (XP (Cx.pin' Xb pp) W1)) [] σ6 H5 s6:=(jo I6).wish _
    have next:∀{s7:Shared} {H7:Hp} {α7:List Addr} {μ7:Mem} {yT':List T} {yV':List V},Inv ((Cx.pin' Xb pp).wish (XP (Cx.pin' Xb pp) W1)) [] σ6 H7 s7->Stp α1 H2 α7 H7->MRel D (φ++[s2.heap.objs.size]) α7 H7 μ7->SRel D (φ++[s2.heap.objs.size]) α7 H7 τ' σ6->H7 s2.heap.objs.size=some (.lst yV')->DenL D (φ++[s2.heap.objs.size]) α7 H7 yT' yV'->yT'.length<=i+1->
      Lv μ7->zN tgt (j6 cs fe) Lv (blk (z6 tg).length fs τ) (xs.drop (i+1)) μ7 (λrest μ2=>kk (yT'++rest) μ2 K0 Z0) Z0->
      ∃m,m<xs.length-i/\LI m s7:=λ{s7 H7 α7 μ7 yT' yV'} I7 st7 m7 sr7 ac7 dy7 hy7 lv7 q7=>by
     have I7u:Inv Xb pp σ6 H7 s7:=zi I7.unwish
     have pinned:∀b∈fp,∃o,s5.heap.get? b=some o/\s7.heap.get? b=some o/\H7 b=none:=λb hb=>by
      obtain⟨o,e,_⟩:=Tn.obj _ _ tn5 b hb
      have:=I7u.pin (b,o) (List.mem_append_right _ (by rw[←hpp];exact List.mem_append_right _ (qD hb e)))
      exact⟨o,e,this.1,this.2.1⟩
     refine⟨xs.length-(i+1),by omega,?_⟩
     rw[hLI]
     refine⟨i+1,σ6,H7,α7,μ7,yT',yV',rfl,hlt,I7u.pins_of (λp hp=>absurd hp (by simp)),Tn.keep _ _ _ tn5 (λb hb o e=>?_),λb hb=>(pinned b hb).choose_spec.2.2,st7,m7,⟨?_,λj t e=>?_⟩,ac7,dy7,hy7,lv7,q7⟩
     ·obtain⟨o',e1,e2,_⟩:=pinned b hb
      rw[e] at e1;cases e1;exact e2
     ·have:=I7u.len
      rw[hXb'.N] at this
      rw[xR,this]
      simp[jQ,jB hfs]
     ·have hj:(z6 tg).length<=j:=by
       rcases Nat.lt_or_ge j (z6 tg).length with h|h
       ·rw[xR,List.getElem?_append_left (by simpa using h),List.getElem?_replicate] at e
        split at e<;>cases e
       ·exact h
      exact sr7.val j t (by rw[WU htg ha j hj];exact e)
    have P0:Post D W1 (φ++[s2.heap.objs.size]) α' H5 σ6 (λ(o:Option T) μ7 α7 H7=>match o with
      |some y=>∀v,Den D (φ++[s2.heap.objs.size]) α7 H7 y v->Lv μ7/\zN tgt (j6 cs fe) Lv (blk (z6 tg).length fs τ) (xs.drop (i+1)) μ7 (λys μ2=>kk (yT++y::ys) μ2 K0 Z0) Z0
      |none=>Lv μ7/\zN tgt (j6 cs fe) Lv (blk (z6 tg).length fs τ) (xs.drop (i+1)) μ7 (λys μ2=>kk (yT++ys) μ2 K0 Z0) Z0) ((j6 cs fe τ' μ').bind λo μ7=>RE.ok o μ7):=by
     refine⟨_,Z0,hfe,λo μ7 e α7 H7 st m=>?_,λc fs' μ7 z α7 H7 Cc d st m ad xd=>?_⟩
     ·cases o with
      |some y=>exact λv _=>e
      |none=>exact e
     ·rw[←hW1];exact⟨c,fs',μ7,α7,Cc,z,stp.trans st,m,ad,rfl,xd⟩
    have ep:((Cx.pin' Xb pp).wish (XP (Cx.pin' Xb pp) W1)).prog=X.prog:=hXb'.pr
    have ew:((Cx.pin' Xb pp).wish (XP (Cx.pin' Xb pp) W1)).w=X.w:=hXb'.w
    have eA:((Cx.pin' Xb pp).wish (XP (Cx.pin' Xb pp) W1)).A=X.A:=hXb'.A
    have ee:((Cx.pin' Xb pp).wish (XP (Cx.pin' Xb pp) W1)).env=compEnvC sc cl (s2.heap.objs.size+1) X.env:=hXb'.en
    have nD:s2.heap.objs.size∉α':=λz=>mr'.dis _ z (by simp)
    have G:=Js (X:=(Cx.pin' Xb pp).wish (XP (Cx.pin' Xb pp) W1)) (M:=model X.prog X.w) (A:=X.A) (Qf:=λb s₄=>if b=true then wpAny (model X.prog X.w) X.A (eval elt (compEnvC sc cl (s2.heap.objs.size+1) X.env)) (λx s₅=>wpAny (model X.prog X.w) X.A (call (.builtin "list.append") [.ref s2.heap.objs.size,x]) (λ_ s₆=>∃m,m<xs.length-i/\LI m s₆) (λ_ _=>False) s₅) NB s₄ else ∃m,m<xs.length-i/\LI m s₄) (hts _ W1 ck) I6' sr6 mr' P0 (λs7 H7 α7 μ7 I7 st7 sr7 m7 p7=>?_) (λs7 H7 α7 μ7 I7 st7 sr7 m7 p7=>?_)
    ·rw[ep,ew,eA,ee] at G
     rw[←hNB]
     exact vX (λe t h=>lv e t h) G
    ·rw[if_pos rfl]
     have E7:=sub (hel _ W1 ck) I7 sr7 m7 p7
     rw[ep,ew,eA,ee] at E7
     refine wpAny_mono E7 (λx8 s8 h8=>?_) λe t h=>lv e t h
     obtain⟨v8,H8,y8,μ8,α8,I8,r8,st8,sr8,m8,d8,p8⟩:=h8
     have q8:=p8.ok (Stp.refl _ _) m8 v8 d8
     have acc8:H8 s2.heap.objs.size=some (.lst yV):=st8.keep _ _ (λz=>m7.dis _ z (by simp)) (st7.keep _ _ nD hacc)
     have hyv:yV.length<=i:=by rw[←dly.length];exact hyl
     have AP:=kB (X:=Cx.pin' Xb pp) [] s8 σ6 H8 (.ref s2.heap.objs.size) [v8] (.ref s2.heap.objs.size) [x8] (λ_ H9=>H9=upd H8 s2.heap.objs.size (.lst (yV++[v8]))) I8.unwish rfl (.cons r8 .nil) ⟨_,yV,v8,rfl,rfl,acc8,Nat.lt_of_le_of_lt hyv (Nat.lt_of_lt_of_le hlt (zp hroom)),rfl⟩
     rw[show (Cx.pin' Xb pp).prog=X.prog from hXb'.pr,show (Cx.pin' Xb pp).w=X.w from hXb'.w,show (Cx.pin' Xb pp).A=X.A from hXb'.A,show (Cx.pin' Xb pp).xe=λ_ _=>False by subst hXb;rfl] at AP
     refine thn AP ?_
     rintro x9 s9 ⟨v9,H9,I9,r9,rfl⟩
     have inphi:s2.heap.objs.size∈φ++[s2.heap.objs.size]:=by simp
     have t:=(stp.trans st7).trans st8
     have one:DenL D (φ++[s2.heap.objs.size]) α8 H8 [y8] [v8]:=⟨v8,[],rfl,d8,rfl⟩
     refine next (I9.wish _) ⟨t.ext,λb o n e=>?_,λb e=>t.live b ?_⟩ (m8.lk (jA inphi) (λa ha'=>⟨by rw[z8 (λz=>m8.dis a ha' (by rw[z];simp))],m8.dis a ha'⟩) (λb hb=>?_)) (sr8.lk (jA inphi)) z7 ((((dly.step st7).step st8).append one).lk (jA inphi)) (by simp;omega) q8.1 (by simpa using q8.2)
     ·rw[z8 (zD e hD)];exact t.keep b o n e
     ·by_cases hb:b=s2.heap.objs.size
      ·rw[hb,z7] at e;cases e
      ·rw[z8 hb] at e;exact e
     ·by_cases hb':b=s2.heap.objs.size
      ·rw[hb',z7];exact⟨_,rfl,rfl⟩
      ·rw[z8 hb'];exact m8.phi b hb
    ·rw[if_neg (by decide)]
     exact next I7 (stp.trans st7) m7 sr7 (st7.keep _ _ nD hacc) (dly.step st7) (by omega) (p7.ok (Stp.refl _ _) m7).1 (p7.ok (Stp.refl _ _) m7).2
   ·have hie:i=xs.length:=by omega
    have TD:=TnD i [] s' σ' H' (λ_ _=>False) Iv (fpk fr) tni (by rw[hie];exact iv.stop _ _ H' okH)
    rw[hXb'.A] at TD
    refine thn TD ?_
    rintro r s4 ⟨rfl,I4⟩
    have hdr:xs.drop i=[]:=by rw[hie];simp
    rw[hdr] at hcmi
    have q4:kk yT μ' K0 Z0:=by
     have:kk (yT++[]) μ' K0 Z0:=hcmi
     simpa using this
    have I5:=back I4
    obtain⟨m,hm,_⟩:=I4.loc
    rw[hXb'.en] at hm
    exact Kq s2.heap.objs.size (s2.heap.objs.size+1) s4 α1 H2 H' α' yT yV μ' I5 st1 stp hD nph nal (((sr.step st1).lk (vH hD)).step stp) mr' hacc dly ⟨K0,Z0,q4,hk0,hz0⟩ ⟨by have:=I4.free;rw[hXb'.en] at this;exact this,xo0.loc,xo0.nfs,xo0.new,xo0.cel,xo0.pin⟩ pn3 ⟨m,hm⟩
  ·have sm:vc H2 H3:=by rw[←hH3];exact zd hD
   rw[hLI]
   refine⟨0,_,_,α1,μ1,[],[],rfl,Nat.zero_le _,J0,Tn.keep _ _ _ tn0 λb hb o e=>old b o e,λb hb=>?_,Stp.new sm,?_,?_,by rw[←hH3];exact z7,rfl,Nat.le_refl _,lv1,by simpa using q0⟩
   ·obtain⟨o,ho⟩:=fo b hb
    rw[←hH3,z8 (Nat.ne_of_lt (Heap.lt_size ho))]
    exact (f2 b hb).1
   ·refine mr1.lk (yD hD sm) (λa ha=>?_) λb hb=>?_
    ·have na:a≠s2.heap.objs.size:=λz=>nal (z▸ha)
     exact⟨by rw[←hH3];exact z8 na,λz=>(List.mem_append.mp z).elim (mr1.dis a ha) λz=>na (List.mem_singleton.mp z)⟩
    ·rcases List.mem_append.mp hb with z|z
     ·obtain⟨o,e,n⟩:=mr1.phi b z
      exact⟨o,sm b o e,n⟩
     ·rw[List.mem_singleton.mp z,←hH3,z7];exact⟨_,rfl,rfl⟩
   ·exact (KL (sr.step st1) hfs).lk (yD hD sm)
 exact codeAny_compStart_list loop (wpAny_mono (Tn.self _ 0 _ _ _ (Tn.keep _ _ _ tn0 λb hb o e=>old b o e) loop) (λ_ _ q=>q) λ_ _ q=>q)
end
section
variable {X:Cx}{D:DP}{W:XW}{Γ:Cn}{k:Nat}{pins:List (Addr×Obj)}{s:Shared}{σ:St}{H:Hp}{φ α:List Addr}{τ:Sl}{μ:Mem}{tg iter elt:Expr}{sc:Scope}{pos:Pos}{fi:Di}{fs:List Nat}{tgt:Tg}{ifs:List Expr}{cs:List Dt}{fe:De}
theorem yO{β:Type}{R:β->Mem->List Addr->Hp->Prop}{kk:T->Mem->RE β}{acc:Addr}{α1 α':List Addr}{H1 H':Hp}{ys:List T}{vs:List V}{μ':Mem}(st:Stp α1 H1 α' H')(hn:H1 acc=none)(nph:acc∉φ)(mr:MRel D (φ++[acc]) α' H' μ')(ha:H' acc=some (.lst vs))(dl:DenL D (φ++[acc]) α' H' ys vs)(p:Post D W φ α1 H1 σ R (kk (.lst ys) μ')) :
  MRel D φ α' H' μ'/\Den D φ α' H' (.lst ys) (.ref acc)/\Post D W φ α' H' σ R (kk (.lst ys) μ'):=
 ⟨mr.lk qx (λa ha=>⟨rfl,λz=>mr.dis a ha (List.mem_append_left _ z)⟩) λb hb=>mr.phi b (List.mem_append_left _ hb),⟨acc,vs,rfl,nph,λz=>mr.dis _ z (by simp),.inl ha,dl.lk qx⟩,p.step st⟩
theorem wV{acc:Addr}{α':List Addr}{H':Hp}:Lk (φ++[acc]) α' H' φ (α'++[acc]) H':=⟨λa o n1 n2 e=>⟨λz=>n1 (List.mem_append_left _ z),λz=>(List.mem_append.mp z).elim n2 λz=>n1 (by rw[List.mem_singleton.mp z];simp),e⟩,λi a e=>by
 rw[List.getElem?_append_left (List.getElem?_eq_some_iff.mp e).1];exact e⟩
theorem xl{acc:Addr}{α1 α':List Addr}{H1 H':Hp}{ys:List T}{vs:List V}{μ':Mem}(st:Stp α1 H1 α' H')(hn:H1 acc=none)(nph:acc∉φ)(mr:MRel D (φ++[acc]) α' H' μ')(ha:H' acc=some (.lst vs))(dl:DenL D (φ++[acc]) α' H' ys vs) :
  Stp α1 H1 (α'++[acc]) H'/\MRel D φ (α'++[acc]) H' (μ'++[.lst ys])/\Den D φ (α'++[acc]) H' (.mut μ'.length) (.ref acc):=by
 have nal:acc∉α':=λz=>mr.dis _ z (by simp)
 refine⟨?_,⟨by simp[mr.len],?_,λb hb=>?_,λb hb=>mr.phi b (List.mem_append_left _ hb),λi a o e1 e2=>?_⟩,acc,by rw[←mr.len,List.getElem?_append_right (Nat.le_refl _)];simp,rfl⟩
 ·obtain⟨β,e,hβ⟩:=st.ext
  exact⟨⟨β++[acc],by rw[e];simp,λb hb=>(List.mem_append.mp hb).elim (hβ b) λz=>by rw[List.mem_singleton.mp z];exact hn⟩,st.keep,st.live⟩
 ·rw[List.nodup_append]
  exact⟨mr.nd,by simp,λa ha b hb z=>nal (by rw[List.mem_singleton.mp hb] at z;exact z▸ha)⟩
 ·rcases List.mem_append.mp hb with h|h
  ·exact λz=>mr.dis b h (List.mem_append_left _ z)
  ·rw[List.mem_singleton.mp h];exact nph
 ·by_cases hi:i<α'.length
  ·rw[List.getElem?_append_left hi] at e1
   rw[List.getElem?_append_left (by rw[←mr.len];exact hi)] at e2
   exact (mr.ob i a o e1 e2).lk wV rfl
  ·have hl:=mr.len
   rw[List.getElem?_append_right (by omega)] at e1 e2
   have hi':i-α'.length=0:=by
    by_cases z:i-α'.length=0
    ·exact z
    ·rw[List.getElem?_eq_none (by simp;omega)] at e1;cases e1
   have hi2:i-μ'.length=0:=by omega
   rw[hi'] at e1
   rw[hi2] at e2
   have e1:some acc=some a:=e1
   have e2:some (MO.lst ys)=some o:=e2
   cases e1;cases e2
   exact⟨vs,ha,dl.lk wV⟩
theorem ZZ(C:Ck D W Γ X k)(hc:Γ.calm=true)(ok:CompOk Γ.N Γ.cel tg sc)(hfs:j5 Γ.N (frees sc)=some fs)(htg:qe (z6 tg++frees sc) tg=some tgt)(hi:PI X tg iter (rdI D W fi))(hel:∀X' W',Ck D W' (inComp Γ tg sc) X' k->PE X' elt (rdE D W' fe))(hts:∀X' W',Ck D W' (inComp Γ tg sc) X' k->uY X' D W' ifs cs)(hs:∀x,foldedSetIterable iter X.env x=pure x) :
  PE X (.ListComp elt [⟨tg,iter,ifs,0⟩] sc pos) (rdE D W (wt (z6 tg).length fs tgt fi cs fe)):=by
 rintro pins s σ H Q I ⟨φ,α,τ,μ,sr,mr,p⟩
 rw[eval_ListComp]
 refine vB (kk:=λys μ=>RE.ok (T.lst ys) μ) (use:=none) (Qf:=EP X pins σ Q) C hc ok hfs htg hi hel hts hs I sr mr p ?_
 rintro acc C0 s' α1 H1 H' α' ys vs μ' I' st1 st hn nph nal sr' m ha dl post xo hp ⟨mm,hm⟩
 obtain⟨m2,d,post⟩:=yO (kk:=λt μ=>RE.ok t μ) st hn nph m ha dl post
 exact⟨mm,hm,λg sb=>⟨.ref acc,H',j7 I' xo hp sb,rfl,post.here m2 d⟩⟩
theorem yt(C:Ck D W Γ X k)(hc:Γ.calm=true)(ok:CompOk Γ.N Γ.cel tg sc)(hfs:j5 Γ.N (frees sc)=some fs)(htg:qe (z6 tg++frees sc) tg=some tgt)(hi:PI X tg iter (rdI D W fi))(hel:∀X' W',Ck D W' (inComp Γ tg sc) X' k->PE X' elt (rdE D W' fe))(hts:∀X' W',Ck D W' (inComp Γ tg sc) X' k->uY X' D W' ifs cs)(hs:∀x,foldedSetIterable iter X.env x=pure x) :
  PE X (.ListComp elt [⟨tg,iter,ifs,0⟩] sc pos) (rdE D W (qX (z6 tg).length fs tgt fi cs fe)):=by
 rintro pins s σ H Q I ⟨φ,α,τ,μ,sr,mr,p⟩
 rw[eval_ListComp]
 refine vB (kk:=λys μ=>RE.ok (T.mut μ.length) (μ++[MO.lst ys])) (use:=none) (Qf:=EP X pins σ Q) C hc ok hfs htg hi hel hts hs I sr mr p ?_
 rintro acc C0 s' α1 H1 H' α' ys vs μ' I' st1 st hn nph nal sr' m ha dl post xo hp ⟨mm,hm⟩
 obtain⟨st2,m2,d⟩:=xl st hn nph m ha dl
 exact⟨mm,hm,λg sb=>⟨.ref acc,H',j7 I' xo hp sb,rfl,post.ok st2 m2 _ d⟩⟩
theorem qj{x:Str}{g:GM}(h:Γ.look x=g)(hg:g≠.bad):x∈Γ.G/\Γ.gl x=g:=by
 unfold Cn.look at h
 split at h
 ·rename_i hm
  exact⟨by simpa using hm,h⟩
 ·exact absurd h.symm hg
theorem kQ{iter:Expr}(h:qh iter=true):∀x,foldedSetIterable iter X.env x=pure x:=by
 intro x
 cases iter<;>first|rfl|(simp[qh] at h)
end
structure PostH(D:DP)(W:XW)(φ α:List Addr)(H:Hp)(E:Ends)(Q:En):Prop where
 nx:∀τ μ,Q.nx τ μ->∀α' H' σ',Stp α H α' H'->MRel D φ α' H' μ->SRel D φ α' H' τ σ'->E.nx σ' H'
 bk:∀τ μ,Q.bk τ μ->∀α' H' σ',Stp α H α' H'->MRel D φ α' H' μ->SRel D φ α' H' τ σ'->E.bk σ' H'
 ct:∀τ μ,Q.ct τ μ->∀α' H' σ',Stp α H α' H'->MRel D φ α' H' μ->SRel D φ α' H' τ σ'->E.ct σ' H'
 rt:∀t μ,Q.rt t μ->∀α' H' v,Stp α H α' H'->MRel D φ α' H' μ->Den D φ α' H' t v->E.rt v H'
 ex:∀c fs τ μ,Q.ex c fs τ μ->∀α' H' σ' C d,Stp α H α' H'->MRel D φ α' H' μ->SRel D φ α' H' τ σ'->D.adr c=some C->XDict D φ α' H' fs d->W (cvF fs C) d σ' H'
inductive PostS(D:DP)(W:XW)(φ α:List Addr)(H:Hp)(E:Ends)(o:Out):Prop where
 |mk (Q:En) (q:o Q) (h:PostH D W φ α H E Q)
noncomputable def rdS (D:DP)(W:XW)(f:Ds):TS:=λE σ H=>RdP D H σ λφ α τ μ=>PostS D W φ α H E (f τ μ)
structure Sk(D:DP)(W:XW)(Γ:Cn)(X:Cx)(k:Nat):Prop extends Ck D W Γ X k where
 sto:Sto X Γ.sto
 lcl:∀x∈Γ.N,Γ.cel.contains x=false->X.env.scope.names.lookup x=some .local
 pso:PassesOwn (model X.prog X.w) X.A X.env X.xe
 xmt:∀t x c,(x,c)∈Γ.cls->c<40->∀Ct Cc,D.adr t=some Ct->X.mg x=some (.ref Cc)->PySem.W.exmOne X.K (.ref Ct) (.ref Cc)=some (qb t c)
section
variable {X:Cx}{D:DP}{W:XW}{Γ:Cn}{k:Nat}{pins:List (Addr×Obj)}{s:Shared}{σ:St}{H:Hp}{φ α:List Addr}{τ:Sl}{μ:Mem}{f g:De}{a b c e:Expr}{pos:Pos}{E:Ends}{u v:Ds}
theorem PostS.step{α':List Addr}{H':Hp}{o:Out}(p:PostS D W φ α H E o)(st:Stp α H α' H'):PostS D W φ α' H' E o:=by
 obtain⟨Q,q,h1,h2,h3,h4,h5⟩:=p
 exact⟨Q,q,λτ μ z α2 H2 σ2 s2=>h1 τ μ z α2 H2 σ2 (st.trans s2),λτ μ z α2 H2 σ2 s2=>h2 τ μ z α2 H2 σ2 (st.trans s2),λτ μ z α2 H2 σ2 s2=>h3 τ μ z α2 H2 σ2 (st.trans s2),λτ μ z α2 H2 σ2 s2=>h4 τ μ z α2 H2 σ2 (st.trans s2),λc fs τ μ z α2 H2 σ2 C d s2=>h5 c fs τ μ z α2 H2 σ2 C d (st.trans s2)⟩
theorem PostS.elim{C:Prop}(p:PostS D W φ α H E Out.st):C:=by obtain⟨_,q,_⟩:=p;exact q.elim
theorem PostS.nx{τ:Sl}{μ:Mem}(p:PostS D W φ α H E (.nx τ μ)){α':List Addr}{H':Hp}{σ':St}(s:Stp α H α' H')(m:MRel D φ α' H' μ)(r:SRel D φ α' H' τ σ'):E.nx σ' H':=by
 obtain⟨Q,q,h1,_⟩:=p
 exact h1 τ μ q α' H' σ' s m r
theorem PostS.rt{t:T}{μ:Mem}(p:PostS D W φ α H E (.rt t μ)){α':List Addr}{H':Hp}{v:V}(s:Stp α H α' H')(m:MRel D φ α' H' μ)(r:Den D φ α' H' t v):E.rt v H':=by
 obtain⟨Q,q,_,_,_,h,_⟩:=p
 exact h t μ q α' H' v s m r
theorem PostS.ex{c:Nat}{fs:List (Nat×T)}{τ:Sl}{μ:Mem}(p:PostS D W φ α H E (.ex c fs τ μ)){α':List Addr}{H':Hp}{σ':St}{C:Addr}{d:Option Addr}(s:Stp α H α' H')(m:MRel D φ α' H' μ)(r:SRel D φ α' H' τ σ')(ad:D.adr c=some C)(x:XDict D φ α' H' fs d):W (cvF fs C) d σ' H':=by
 obtain⟨Q,q,_,_,_,_,h⟩:=p
 exact h c fs τ μ q α' H' σ' C d s m r ad x
theorem PostS.grd{c:Prop}{o:Out}(p:PostS D W φ α H E (Out.grd c o)):c/\PostS D W φ α H E o:=by
 obtain⟨Q,q,h⟩:=p
 exact⟨q.1,Q,q.2,h⟩
theorem PostS.som{γ:Type}{o:Option γ}{k:γ->Out}(p:PostS D W φ α H E (Out.som o k)):∃a,o=some a/\PostS D W φ α H E (k a):=by
 obtain⟨Q,⟨a,e,q⟩,h⟩:=p
 exact⟨a,e,Q,q,h⟩
theorem PostS.br{b:Bool}{r s:Out}(p:PostS D W φ α H E (Out.br b r s)):(b=true/\PostS D W φ α H E r)\/(b=false/\PostS D W φ α H E s):=by
 obtain⟨Q,q,h⟩:=p
 cases b with
 |true=>exact .inl ⟨rfl,Q,q,h⟩
 |false=>exact .inr ⟨rfl,Q,q,h⟩
theorem PostS.ex2{δ1 δ2:Type}{P P2:δ1->δ2->Prop}{r:δ1->δ2->Out}(p:PostS D W φ α H E (λQ=>∃x y,P x y/\P2 x y/\r x y Q)):∃x y,P x y/\P2 x y/\PostS D W φ α H E (r x y):=by
 obtain⟨Q,⟨x,y,h1,h2,q⟩,h⟩:=p
 exact⟨x,y,h1,h2,Q,q,h⟩
theorem PostS.ex1{δ1:Type}{P P2:δ1->Prop}{r:δ1->Out}(p:PostS D W φ α H E (λQ=>∃x,P x/\P2 x/\r x Q)):∃x,P x/\P2 x/\PostS D W φ α H E (r x):=by
 obtain⟨Q,⟨x,h1,h2,q⟩,h⟩:=p
 exact⟨x,h1,h2,Q,q,h⟩
theorem PostS.out{β:Type}{r:RE β}{kk:β->Mem->Out}(sr:SRel D φ α H τ σ)(p:PostS D W φ α H E (r.out τ kk)):Post D W φ α H σ (λt μ' α' H'=>PostS D W φ α' H' E (kk t μ')) r:=by
 obtain⟨Q,q,h⟩:=p
 refine⟨_,_,q,λa μ' e α' H' st m=>PostS.step ⟨Q,e,h⟩ st,λc fs μ' e α' H' C d st m ad xd=>?_⟩
 exact h.ex c fs τ μ' e α' H' σ C d st m (sr.step st) ad xd
theorem YM(ha:PE X a (rdE D W f)):PS X (.Return (some a) pos) (rdS D W (zx f)):=by
 rintro pins s σ H E I ⟨φ,α,τ,μ,sr,mr,p⟩
 refine Uq ha pins s σ H E I ⟨φ,α,τ,μ,sr,mr,(PostS.out sr p).mono λt μ' α' H' st m q v d=>PostS.rt q (Stp.refl _ _) m d⟩
theorem KU:PS X (.Return none pos) (rdS D W Xu):=by
 rintro pins s σ H E I ⟨φ,α,τ,μ,sr,mr,p⟩
 exact Jv pins s σ H E I (PostS.rt p (Stp.refl _ _) mr rfl)
theorem K5(hs:swapsWith a none pos.line X.env=pure false)(ha:PE X a (rdE D W f)):PS X (.Expr a pos) (rdS D W (ji f)):=by
 rintro pins s σ H E I ⟨φ,α,τ,μ,sr,mr,p⟩
 refine xH ha hs pins s σ H E I ⟨φ,α,τ,μ,sr,mr,(PostS.out sr p).mono λt μ' α' H' st m q v d=>PostS.nx q (Stp.refl _ _) m (sr.step st)⟩
theorem Kj:PSs X [] (rdS D W (zY [])):=by
 rintro pins s σ H E I ⟨φ,α,τ,μ,sr,mr,p⟩
 exact yd pins s σ H E I (PostS.nx p (Stp.refl _ _) mr sr)
theorem Jb{st:Stmt}{r:List Stmt}{fs:List Ds}(h1:PS X st (rdS D W u))(h2:PSs X r (rdS D W (zY fs))):PSs X (st::r) (rdS D W (zY (u::fs))):=by
 rintro pins s σ H E I ⟨φ,α,τ,μ,sr,mr,Q,q,h3,h4,h5,h6,h7⟩
 refine k9 h1 h2 pins s σ H E I ⟨φ,α,τ,μ,sr,mr,_,q,λτ1 μ1 e α' H' σ' st m sr'=>?_,h4,h5,h6,h7⟩
 exact⟨φ,α',τ1,μ1,sr',m,PostS.step ⟨Q,e,h3,h4,h5,h6,h7⟩ st⟩
noncomputable def j4 (X:Cx)(D:DP)(W:XW):List Stmt->List Ds->Prop
 |[],[]=>True
 |e::es,f::fs=>PS X e (rdS D W f)/\j4 X D W es fs
 |_,_=>False
theorem zW:∀{sts:List Stmt} {fs:List Ds},j4 X D W sts fs->PSs X sts (rdS D W (zY fs))
 |[],[],_=>Kj
 |st::r,f::fs,h=>Jb h.1 (zW h.2)
 |[],_::_,h=>h.elim
 |_::_,[],h=>h.elim
theorem UX{ft:Dt}{as bs:List Stmt}{us vs:List Ds}(hc:PT X c (rdT D W ft))(ha:j4 X D W as us)(hb:j4 X D W bs vs):PS X (.If c as bs pos) (rdS D W (sIf ft us vs)):=by
 rintro pins s σ H E I ⟨φ,α,τ,μ,sr,mr,p⟩
 refine UY hc (zW ha) (zW hb) pins s σ H E I ⟨φ,α,τ,μ,sr,mr,(PostS.out sr p).mono λb μ' α' H' st m q=>?_⟩
 rcases PostS.br q with⟨rfl,q⟩|⟨rfl,q⟩
 ·exact⟨φ,α',τ,μ',sr.step st,m,q⟩
 ·exact⟨φ,α',τ,μ',sr.step st,m,q⟩
noncomputable def nFz (Γ:Cn)(tg:Expr):Bool:=(z6 tg).all λx=>!Γ.fz.contains x
theorem y4{tg:Expr}(h:nFz Γ tg=true)(m:∀x∈z6 tg,x∈Γ.N):∀x∈z6 tg,x∈Γ.sto:=λx hx=>List.mem_filter.mpr ⟨m x hx,List.all_eq_true.mp h x hx⟩
theorem Wq(C:Sk D W Γ X k){x:Str}{i:Nat}{p0:Pos}(hi:idx Γ.N x=some i)(hz:nFz Γ (.Name x p0)=true)(hs:swapsWith a (some (.Name x p0)) pos.line X.env=pure false)(ha:PE X a (rdE D W f)):PS X (.Assign [.Name x p0] a pos) (rdS D W (zf i f)):=by
 rintro pins s σ H E I ⟨φ,α,τ,μ,sr,mr,p⟩
 have hx:=y4 hz (λy hy=>by rw[List.mem_singleton.mp hy];exact zZ hi) x (List.mem_singleton.mpr rfl)
 refine YA (i:=i) (X:=X) (by rw[C.hN];exact C.nd) (by rw[C.hN];exact qg hi) (C.sto x hx).1 ha hs (C.sto x hx).2 pins s σ H E I ⟨φ,α,τ,μ,sr,mr,(PostS.out sr p).mono λt μ' α' H' st m q v d=>?_⟩
 exact PostS.nx q (Stp.refl _ _) m ((sr.step st).set d)
theorem yH{N:List Str}:∀{es:List Expr} {is:List Nat},idxs N es=some is->∀e∈es,∀x p,e=.Name x p->x∈N
 |[],_,_,e,he,_,_,_=>absurd he (by simp)
 |e0::es,is,h,e,he,x,p,hx=>by
  cases e0 with
  |Name y p0=>
   simp only[idxs] at h
   split at h
   ·rename_i i is' hi his
    rcases List.mem_cons.mp he with rfl|he
    ·cases hx;exact zZ hi
    ·exact yH his e he x p hx
   ·cases h
  |_=>simp[idxs] at h
theorem Wt{N:List Str}{e:Expr}{tgt:Tg}(h:qe N e=some tgt):∀x∈z6 e,x∈N:=by
 intro x hx
 cases e with
 |Name y p=>
  simp[z6] at hx
  subst hx
  simp only[qe] at h
  cases q:idx N x with
  |none=>rw[q] at h;cases h
  |some i=>exact zZ q
 |Tuple es kk p=>
  obtain⟨e,he,q⟩:=List.mem_filterMap.mp hx
  simp only[qe] at h
  cases q2:idxs N es with
  |none=>rw[q2] at h;cases h
  |some is=>
   cases e with
   |Name y p0=>
    have q:some y=some x:=q
    cases q
    exact yH q2 _ he x p0 rfl
   |_=>cases q
 |_=>simp[z6] at hx
theorem Xo(C:Sk D W Γ X k)(hc:X.calm=true){tg:Expr}{tgt:Tg}(ht:qe Γ.N tg=some tgt)(hz:nFz Γ tg=true):PG X tg (λv σ H Q=>∃φ α τ t τ',SRel D φ α H τ σ/\Den D φ α H t v/\asg tgt t τ=some τ'/\∀σ',SRel D φ α H τ' σ'->Q σ' H):=by
 rintro pins s σ H v u Q I r ⟨φ,α,τ,t,τ',sr,d,ha,q⟩
 refine thn (Zi (S:=Γ.sto) C.hN C.nd C.sto hc (y4 hz (Wt ht)) ht ha I sr d r) ?_
 rintro _ s1 ⟨σ',I1,sr'⟩
 exact⟨σ',H,I1,q σ' sr'⟩
noncomputable def vn:Expr->Bool
 |.Call _ _ _ _=>true
 |.Name _ _=>true
 |.Subscript _ _ _=>true
 |.Attribute _ _ _=>true
 |_=>false
theorem Ub(C:Sk D W Γ X k)(hc:Γ.calm=true){es:List Expr}{is:List Nat}{kk:Nat}{p0:Pos}(hp:vn a=true)(hn:idxs Γ.N es=some is)(hz:nFz Γ (.Tuple es kk p0)=true)(ha:PE X a (rdE D W f)):PS X (.Assign [.Tuple es kk p0] a pos) (rdS D W (z0K is f)):=by
 rintro pins s σ H E I ⟨φ,α,τ,μ,sr,mr,p⟩
 have h1:swapsWithSole [.Tuple es kk p0] a pos.line X.env=pure false:=by cases a<;>first|(simp[vn] at hp;done)|rfl
 have h2:swappedStores [.Tuple es kk p0] a X.env=pure none:=by cases a<;>first|(simp[vn] at hp;done)|rfl
 refine Vx ha (Xo C (C.clm hc) (tg:=.Tuple es kk p0) (tgt:=.tup is) (by simp[qe,hn]) hz) h1 h2 rfl pins s σ H E I ⟨φ,α,τ,μ,sr,mr,(PostS.out sr p).mono λt μ' α' H' st m q v d=>?_⟩
 obtain⟨τ',h,q⟩:=PostS.som q
 exact⟨φ,α',τ,t,τ',sr.step st,d,h,λσ' sr'=>PostS.nx q (Stp.refl _ _) m sr'⟩
theorem Uz(C:Sk D W Γ X k){o:Expr}{x:Str}{n:Nat}{p1:Pos}{go:De}(hn:(x,n)∈Γ.fld)(ha:PE X a (rdE D W f))(ho:PE X o (rdE D W go)) :
  PS X (.Assign [.Attribute o x p1] a pos) (rdS D W (uR go n f)):=by
 rintro pins s σ H E I ⟨φ,α,τ,μ,sr,mr,p⟩
 have hs:swapsWith a (some (.Attribute o x p1)) pos.line X.env=pure false:=by cases a<;>rfl
 refine Ug ho ha hs pins s σ H E I ⟨φ,α,τ,μ,sr,mr,(PostS.out sr p).mono λt μ1 α1 H1 st1 m1 q v d=>?_⟩
 have sr1:=sr.step st1
 refine⟨φ,α1,τ,μ1,sr1,m1,(PostS.out sr1 q).mono λot μ2 α2 H2 st2 m2 q2 ov dv=>?_⟩
 split at q2
 case h_2=>exact PostS.elim q2
 rename_i i
 obtain⟨c,fs,hμ,hl,q2⟩:=PostS.ex2 q2
 obtain⟨y,hx,rfl⟩:=dv
 obtain⟨C0,dx,gs,ad,hH,df⟩:=m2.ob i y _ hx hμ
 obtain⟨fx,cl,na⟩:=C.fld c C0 x n ad hn
 refine⟨y,C0,dx,gs,rfl,hH,cl,na,by rw[←df.length];omega,?_⟩
 have st3:Stp α2 H2 α2 (upd H2 y (.ins C0 dx (qq x v gs))):=Stp.turn (List.mem_of_getElem? hx) ⟨_,hH⟩
 have hi:i<μ2.length:=(List.getElem?_eq_some_iff.mp hμ).1
 exact PostS.nx q2 st3 (m2.turn hx hi st3 ⟨C0,dx,_,ad,z7,DenF.put fx (df.step st3) ((d.step st2).step st3)⟩) ((sr1.step st2).step st3)
theorem set_list:z0L X (λo i v H Q=>∃l k xs,o=.ref l/\i=.int k/\H l=some (.lst xs)/\0<=k/\k<xs.length/\k<9223372036854775808/\Q (upd H l (.lst (xs.set k.toNat v)))):=by
 intro pins s σ H o i v ov iv u Q I ro ri rv h
 obtain⟨l,k,xs,rfl,rfl,hH,h0,h1,h2,q⟩:=h
 cases ro
 obtain⟨t,rfl⟩:=ri
 obtain⟨z,its,n,r,hl,e⟩:=I.lstM hH
 refine PySem.W.ki_setAt (n:=n) (items:=its.toArray) e h0 (by simpa using h2) (by rw[List.size_toArray,←hl];exact h1) ?_
 exact⟨_,I.lset (t':=s.toks) (ys:=xs.set k.toNat v) (its':=its.set k.toNat u) (f:=λa=>a.setIfInBounds k.toNat u) hH e (by simp) (Vals.set rv _ r) (by rw[List.length_set];exact z),q⟩
theorem Ya(C:Sk D W Γ X k){o:Expr}{p1:Pos}{fo fb:De}(hb':qi b=true)(ha:PE X a (rdE D W f))(ho:PE X o (rdE D W fo))(hb:PE X b (rdE D W fb)) :
  PS X (.Assign [.Subscript o b p1] a pos) (rdS D W (ur fo fb f)):=by
 rintro pins s σ H E I ⟨φ,α,τ,μ,sr,mr,p⟩
 have h1:swapsWithSole [.Subscript o b p1] a pos.line X.env=pure false:=by cases a<;>rfl
 have h2:swappedStores [.Subscript o b p1] a X.env=pure none:=by cases a<;>rfl
 refine Vx ha (U5 ho hb set_list (λv=>by cases b<;>first|(simp[qi] at hb';done)|rfl)) h1 h2 rfl pins s σ H E I ⟨φ,α,τ,μ,sr,mr,(PostS.out sr p).mono λt μ1 α1 H1 st1 m1 q v d=>?_⟩
 have sr1:=sr.step st1
 refine⟨φ,α1,τ,μ1,sr1,m1,(PostS.out sr1 q).mono λot μ2 α2 H2 st2 m2 q2 ov dv=>?_⟩
 have sr2:=sr1.step st2
 refine⟨φ,α2,τ,μ2,sr2,m2,(PostS.out sr2 q2).mono λit μ3 α3 H3 st3 m3 q3 iv di=>?_⟩
 have d3:=(d.step st2).step st3
 split at q3
 case h_2=>exact PostS.elim q3
 rename_i i kk
 have dv:=dv.step st3
 obtain⟨ts,hμ,hk,q3⟩:=PostS.ex1 q3
 obtain⟨x,hx,rfl⟩:=dv
 have di:iv=.int kk:=di
 subst di
 obtain⟨xs,hH,l⟩:=m3.ob i x _ hx hμ
 have st4:Stp α3 H3 α3 (upd H3 x (.lst (xs.set kk.toNat v))):=Stp.turn (List.mem_of_getElem? hx) ⟨_,hH⟩
 have hi:i<μ3.length:=(List.getElem?_eq_some_iff.mp hμ).1
 exact⟨x,kk,xs,rfl,rfl,hH,hk.1,by rw[←l.length];exact hk.2.1,hk.2.2,PostS.nx q3 st4 (m3.turn hx hi st4 ⟨_,z7,DenL.set (l.step st4) (d3.step st4)⟩) ((sr2.step st3).step st4)⟩
theorem Y1(C:Sk D W Γ X k)(hc:Γ.calm=true){tg iter:Expr}{tgt:Tg}(ht:qe Γ.N tg=some tgt)(hz:nFz Γ tg=true){fi:Di}{body:List Stmt}{vs:List Ds}(hi:PI X tg iter (rdI D W fi))(hb:j4 X D W body vs)(hs:∀x,foldedSetIterable iter X.env x=pure x) :
  PS X (.For tg iter body [] pos) (rdS D W (uy tgt fi vs)):=by
 rintro pins s σ H E I ⟨φ,α,τ,μ,sr,mr,p⟩
 refine Yp C.pso (C.clm hc) hi (Xo C (C.clm hc) ht hz) (zW hb) hs pins s σ H E I ⟨φ,α,τ,μ,sr,mr,(PostS.out sr (show PostS D W φ α H E ((fi τ μ).re.out τ λpr μ1=>forM tgt (zY vs) pr.2 pr.1 τ μ1) from p)).mono λpr μ1 α1 H1 st1 m1 q J Ok iv okk lv1=>?_⟩
 obtain⟨xs,o⟩:=pr
 obtain⟨Q,q,h1,h2,h3,h4,h5⟩:=q
 refine⟨λi m σ' H'=>m=xs.length-i/\i<=xs.length/\∃α' τ' μ',Stp α1 H1 α' H'/\MRel D φ α' H' μ'/\SRel D φ α' H' τ' σ'/\o μ'/\forM tgt (zY vs) o (xs.drop i) τ' μ' Q,⟨xs.length,by simp,Nat.zero_le _,α1,τ,μ1,Stp.refl _ _,m1,sr.step st1,lv1,by simpa using q⟩,?_⟩
 rintro i m σ' H' ⟨rfl,hi',α',τ',μ',stp,mr',sr',lv',pf⟩
 have okH:Ok φ α' H':=okk _ α' H' μ' stp.lk mr' lv'
 by_cases hlt:i<xs.length
 ·refine .inr ⟨iv.go i _ _ H' okH hlt,λσ2 H2=>∃α2 τ2 μ2,Stp α1 H1 α2 H2/\MRel D φ α2 H2 μ2/\SRel D φ α2 H2 τ2 σ2/\o μ2/\forM tgt (zY vs) o (xs.drop (i+1)) τ2 μ2 Q,λσ2 H2 h2=>⟨xs.length-(i+1),by omega,rfl,hlt,h2⟩,λx H2 y=>?_⟩
  obtain⟨sm,dx⟩:=iv.yld i _ _ H' x H2 xs[i] okH (by simp[hlt]) y
  have stp:=stp.trans (Stp.new (α:=α') sm)
  have sr':=sr'.step (Stp.new (α:=α') sm)
  have mr':=mr'.new sm
  rw[List.drop_eq_getElem_cons hlt] at pf
  obtain⟨τ3,ha,pf⟩:=pf
  refine⟨φ,α',τ',xs[i],τ3,sr',dx,ha,λσ3 sr3=>⟨φ,α',τ3,μ',sr3,mr',_,pf,?_,?_,?_,?_,?_⟩⟩
  ·exact λτ4 μ4 e α4 H4 σ4 st4 m4 sr4=>⟨α4,τ4,μ4,stp.trans st4,m4,sr4,e⟩
  ·exact λτ4 μ4 e α4 H4 σ4 st4 m4 sr4=>h1 τ4 μ4 e α4 H4 σ4 (stp.trans st4) m4 sr4
  ·exact λτ4 μ4 e α4 H4 σ4 st4 m4 sr4=>⟨α4,τ4,μ4,stp.trans st4,m4,sr4,e⟩
  ·exact λt μ4 e α4 H4 v st4 m4 d4=>h4 t μ4 e α4 H4 v (stp.trans st4) m4 d4
  ·exact λc fs τ4 μ4 e α4 H4 σ4 Cc d st4 m4 sr4=>h5 c fs τ4 μ4 e α4 H4 σ4 Cc d (stp.trans st4) m4 sr4
 ·have hie:i=xs.length:=by omega
  rw[hie,List.drop_length] at pf
  exact .inl ⟨by rw[hie];exact iv.stop _ _ H' okH,h1 τ' μ' pf α' H' σ' stp mr' sr'⟩
theorem V9(C:Sk D W Γ X k){ft:Dt}{body:List Stmt}{vs:List Ds}(hc:PT X c (rdT D W ft))(hb:j4 X D W body vs):PS X (.While c body [] pos) (rdS D W (jX ft vs)):=by
 rintro pins s σ H E I ⟨φ,α,τ,μ,sr,mr,Q,⟨J,⟨N,hN⟩,hJ⟩,h1,h2,h3,h4,h5⟩
 refine Vt C.pso hc (zW hb) pins s σ H E I ?_
 refine⟨λm σ' H'=>∃α' τ' μ',Stp α H α' H'/\MRel D φ α' H' μ'/\SRel D φ α' H' τ' σ'/\J m τ' μ',⟨N,α,τ,μ,Stp.refl _ _,mr,sr,hN⟩,?_⟩
 rintro m σ' H' ⟨α',τ',μ',stp,mr',sr',pf⟩
 refine⟨φ,α',τ',μ',sr',mr',_,_,hJ m τ' μ' pf,λb μ1 e α2 H2 st2 m2=>?_,λc fs μ1 e α2 H2 Cc d st2 m2 ad xd=>h5 c fs τ' μ1 e α2 H2 σ' Cc d (stp.trans st2) m2 (sr'.step st2) ad xd⟩
 cases b with
 |false=>exact h1 τ' μ1 e α2 H2 σ' (stp.trans st2) m2 (sr'.step st2)
 |true=>
  rw[if_pos rfl]
  have t2:=stp.trans st2
  refine⟨λσ4 H4=>∃j,j<m/\∃α4 τ4 μ4,Stp α H α4 H4/\MRel D φ α4 H4 μ4/\SRel D φ α4 H4 τ4 σ4/\J j τ4 μ4,λσ4 H4 h4=>h4,φ,α2,τ',μ1,sr'.step st2,m2,_,e,?_,?_,?_,?_,?_⟩
  ·exact λτ4 μ4 ⟨j,hj,q⟩ α4 H4 σ4 st4 m4 sr4=>⟨j,hj,α4,τ4,μ4,t2.trans st4,m4,sr4,q⟩
  ·exact λτ4 μ4 e α4 H4 σ4 st4 m4 sr4=>h1 τ4 μ4 e α4 H4 σ4 (t2.trans st4) m4 sr4
  ·exact λτ4 μ4 ⟨j,hj,q⟩ α4 H4 σ4 st4 m4 sr4=>⟨j,hj,α4,τ4,μ4,t2.trans st4,m4,sr4,q⟩
  ·exact λt μ4 e α4 H4 v st4 m4 d4=>h4 t μ4 e α4 H4 v (t2.trans st4) m4 d4
  ·exact λc fs τ4 μ4 e α4 H4 σ4 Cc d st4 m4 sr4=>h5 c fs τ4 μ4 e α4 H4 σ4 Cc d (t2.trans st4) m4 sr4
theorem JC(C:Sk D W Γ X k)(hc:Γ.calm=true){tg iter elt:Expr}{sc:Scope}{fi:Di}{fs:List Nat}{tgt:Tg}{ifs:List Expr}{cs:List Dt}{fe:De}{x:Str}{ix:Nat}{p0 p1:Pos}(hix:idx Γ.N x=some ix)(hz:nFz Γ (.Name x p0)=true)(ok:CompOk Γ.N Γ.cel tg sc)(hfs:j5 Γ.N (frees sc)=some fs)(htg:qe (z6 tg++frees sc) tg=some tgt)(hi:PI X tg iter (rdI D W fi))(hel:∀X' W',Ck D W' (inComp Γ tg sc) X' k->PE X' elt (rdE D W' fe))(hts:∀X' W',Ck D W' (inComp Γ tg sc) X' k->uY X' D W' ifs cs)(hs:∀x,foldedSetIterable iter X.env x=pure x)
  (own:Bool) (hsw:swapsWith (.ListComp elt [⟨tg,iter,ifs,0⟩] sc p1) (some (.Name x p0)) pos.line X.env=pure true) :
  PS X (.Assign [.Name x p0] (.ListComp elt [⟨tg,iter,ifs,0⟩] sc p1) pos) (rdS D W (zf ix (match own with|true=>qX (z6 tg).length fs tgt fi cs fe|false=>wt (z6 tg).length fs tgt fi cs fe))):=by
 rintro pins s σ H E I ⟨φ,α,τ,μ,sr,mr,p⟩
 rw[exec_Assign_Name_used _ _ _ _ hsw]
 refine wpAny_bind (wpAny_standAt (wpAny_bind ?_))
 show wpAny _ _ (do let _ ←comprehension (.ListComp elt [⟨tg,iter,ifs,0⟩] sc p1) sc X.env _ (newList []) false (eval iter X.env) (some (assign (.Name x p0) X.env))) _ _ s
 refine wpAny_bind (thn (vB (kk:=λys μ=>match own with|true=>RE.ok (T.mut μ.length) (μ++[MO.lst ys])|false=>RE.ok (T.lst ys) μ) (use:=some (assign (.Name x p0) X.env)) (Qf:=λ_ s'=>∃σ' H',Inv X pins σ' H' s'/\E.nx σ' H') C.toCk hc ok hfs htg hi hel hts hs I sr mr (PostS.out sr (by cases own<;>exact p)) ?_) λ_ s' hq=>wpAny_pure (wpAny_pure hq))
 rintro acc C0 s' α1 H1 H' α' ys vs μ' I' st1 st hn nph nal sr' m ha dl post xo hp ⟨mm,hm⟩
 have hx:=zZ hix
 obtain⟨oc,es,ep,hoc,hdc,hrest⟩:=hm
 have I2:Inv X (pins++[(C0,oc)]) σ H' s':=I'.pins_of λp hp'=>(List.mem_append.mp hp').elim (λz=>I'.pin p (List.mem_append_right _ z)) λz=>by
  rw[List.mem_singleton.mp z]
  exact⟨hoc,xo.free,xo.loc,xo.nfs,λv e=>by rw[hdc] at e;cases e⟩
 have fin:∀{α'':List Addr} {t:T} {μ2:Mem},SRel D φ α'' H' τ σ->Den D φ α'' H' t (.ref acc)->(∀σ',SRel D φ α'' H' (wD τ ix (some t)) σ'->E.nx σ' H')->wpAny (model X.prog X.w) X.A (assign (.Name x p0) X.env (.ref acc)) (λ_ t2=>∃m,t2.heap.Ns C0 m/\∀g,Heap.SameBut C0 t2.heap g->∃σ' H',Inv X pins σ' H' {t2 with heap:=g}/\E.nx σ' H') X.xe s':=λ{α'' t μ2} sr2 d q=>by
  refine thn (Zi (e:=.Name x p0) (S:=Γ.sto) (tgt:=.one ix) (t:=t) (τ:=τ) C.hN C.nd C.sto (C.clm hc) (y4 hz λy hy=>by rw[List.mem_singleton.mp hy];exact hx) (by simp[qe,hix]) rfl I2 sr2 d (show RelV (.ref acc) (.ref acc) from rfl)) ?_
  rintro _ s2 ⟨σ',I3,sr3⟩
  have hpin:=(I3.pin (C0,oc) (List.mem_append_right _ (List.mem_append_right _ (List.mem_singleton.mpr rfl)))).1
  refine⟨mm,⟨oc,es,ep,hpin,hdc,hrest⟩,λg sb=>⟨σ',H',?_,q σ' sr3⟩⟩
  exact j7 (I3.pins_of λp hp'=>I3.pin p (List.mem_append_right _ (List.mem_append_left _ hp'))) xo hp sb
 cases own with
 |false=>
  obtain⟨m2,d,post⟩:=yO (kk:=λt μ=>RE.ok t μ) st hn nph m ha dl post
  exact fin (μ2:=μ') (sr'.lk qx) d λσ' sr3=>PostS.nx (post.ok (Stp.refl _ _) m2) (Stp.refl _ _) m2 sr3
 |true=>
  obtain⟨st2,m2,d⟩:=xl st hn nph m ha dl
  exact fin (μ2:=μ') (sr'.lk wV) d λσ' sr3=>PostS.nx (post.ok st2 m2) (Stp.refl _ _) m2 sr3
end
noncomputable def z00(C:Addr)(h:Heap):Prop:=∃tl N nm q bs hd sn sub ab col dd k0 k1 k2 k3 k5 mN,h.get? C=some (excClassObj nm q C N bs tl hd sn sub ab col dd k0 k1 k2 k3 k5 "ValueError.__new__")/\h.Ns N mN/\mN "__init__"=none/\OwnTail h zz tl
theorem yE {K:PySem.W.Frag} {h:Heap} {C:Addr} (kin:K.In h) (e:PySem.W.excIn K C zz "ValueError.__new__"=true):z00 C h:=by
 simp only[PySem.W.excIn] at e
 revert e
 cases hk:K.lookup C with
 |none=>intro e;cases e
 |some o=>
  intro e
  split at e
  case h_2=>cases e
  rename_i dd cd sl ho
  cases ho
  split at e
  case h_2=>cases e
  rename_i C' tl k0 k1 k2 k3 n k5 hm hs
  simp only[Bool.and_eq_true,beq_iff_eq,Bool.not_eq_true'] at e
  obtain⟨⟨⟨⟨⟨e1,e2⟩,e3⟩,e4⟩,e5⟩,e6⟩:=e
  cases cd
  rename_i nm bs mro ns qn hd sn sub ab col del
  simp only at hm e3 e5 e6
  cases e1;cases e2;cases hm;cases e3
  have hsl:sl=#[k0,k1,k2,k3,some (.builtin "ValueError.__new__"),k5]:=by
   cases sl;simp only at hs;rw[hs]
  cases hsl
  exact⟨tl,ns,nm,qn,bs,hd,sn,sub,ab,col,dd,k0,k1,k2,k3,k5,h.nsMap ns,kin _ _ hk,.of_isNs (PySem.W.isNs_of_in kin e5),PySem.W.nsMap_none_of_in kin e5 e6,PySem.W.tail_of_in kin e4⟩
section
variable {X:Cx}{pins:List (Addr×Obj)}{s:Shared}{σ:St}{H:Hp}
theorem QT{i:Nat}{x:Str}{m:Str->Option Value}{h':Heap}{u:Option Value}{tk:Nat}(I:Inv X pins σ H s)(hN:X.N.Nodup)(hi:X.N[i]?=some x)
  (hm:∀(i:Nat) (x:Str) (v:V),X.N[i]?=some x->σ[i]?=some (some v)->Vis X.env.scope x->∃u,RelV v u/\Look X.env s.heap m x u)
  (hn:h'.Ns X.env.locals λy=>if y=x then u else m y) (hs:Heap.SameBut X.env.locals s.heap h'):Inv X pins (σ.set i none) H {s with heap:=h',toks:=tk}:=by
 have cne:=I.cne
 have low:∀b o,X.s₀.heap.get? b=some o->b≠X.env.locals:=λb o e=>Nat.ne_of_lt (Nat.lt_of_lt_of_le (Heap.lt_size e) I.ok.above)
 refine⟨I.ok,I.os,I.bare,⟨λb o e n hb hx=>?_,λb o e n hb hx=>?_,I.base.free,λb o e hx=>?_,I.base.tups,I.base.frzs,I.base.tbls⟩,⟨_,hn,λj y v e1 e2 e3=>?_⟩,λy c e=>?_,I.free,I.freeC,λp hp=>?_,λb ob e=>?_,by simpa using I.len⟩
 ·exact (hs.2 b (low b o e)).trans (I.base.keep b o e n hb hx)
 ·obtain⟨sl,e1⟩:=I.base.slot b o e n hb hx
  exact⟨sl,(hs.2 b (low b o e)).trans e1⟩
 ·obtain⟨o',e1⟩:=I.base.there b o e hx
  exact⟨o',(hs.2 b (low b o e)).trans e1⟩
 ·by_cases hj:j=i
  ·subst hj
   rw[List.getElem?_set_self'] at e2
   cases q:σ[j]? with
   |none=>rw[q] at e2;cases e2
   |some w=>rw[q] at e2;cases e2
  ·rw[List.getElem?_set_ne (Ne.symm hj)] at e2
   obtain⟨w,r,q⟩:=hm j y v e1 e2 e3
   refine⟨w,r,?_⟩
   rcases q with⟨k,e⟩|⟨k,c,e,z⟩
   ·have:y≠x:=λz=>hj (vv hN e1 (by rw[z];exact hi))
    exact .inl ⟨k,by simp[this,e]⟩
   ·exact .inr ⟨k,c,e,z.sameBut hs (cne y c e)⟩
 ·obtain⟨w,z⟩:=I.cell y c e
  exact⟨w,z.sameBut hs (cne y c e)⟩
 ·obtain⟨e,n,ne,nf,d⟩:=I.pin p hp
  exact⟨(hs.2 p.1 ne).trans e,n,ne,nf,d⟩
 ·refine (I.hok b ob e).stay (λc w hc q=>(hs.2 c ?_).trans q) (λ_ q=>q) λ_ _ q=>q
  rintro rfl
  rcases hc with rfl|hc
  ·rw[I.free] at e;cases e
  ·rw[I.free] at hc;cases hc
theorem QG{x C:Addr}{d:Option Addr}(I:Inv X pins σ H s)(ox:XOk X H x)(hp:∀p∈pins,p.1≠x)(hx:XcAt x C d s.heap):Inv X pins σ (upd H x (.ext (XcAt x C d))) s:=by
 have ne:∀b,H b≠none->b≠x:=λb h z=>h (by rw[z];exact ox.free)
 refine⟨I.ok,I.os,I.bare,⟨I.base.keep,I.base.slot,λb o e n hx'=>?_,I.base.there,λb xs e=>?_,λb o u e=>?_,λb ps e=>?_⟩,I.loc,I.cell,?_,λy c e=>?_,λp hp'=>?_,λb ob e=>?_,I.len⟩
 ·have:b≠x:=λz=>by
   rcases ox.new with q|q
   ·exact hx' (by rw[z];exact q)
   ·rw[←z,e] at q;cases q
  rw[z8 this];exact I.base.free b o e n hx'
 ·have q:=I.base.tups b xs e
  rw[z8 (ne b (by rw[q];simp))];exact q
 ·have q:=I.base.frzs b o u e
  rw[z8 (ne b (by rw[q];simp))];exact q
 ·obtain⟨more,q⟩:=I.base.tbls b ps e
  exact⟨more,by rw[z8 (ne b (by rw[q];simp))];exact q⟩
 ·rw[z8 (Ne.symm ox.loc)];exact I.free
 ·rw[z8 (ox.cel y c e)];exact I.freeC y c e
 ·obtain⟨e,n,r⟩:=I.pin p hp'
  have:p.1≠x:=(List.mem_append.mp hp').elim (ox.pin p) (hp p)
  exact⟨e,by rw[z8 this];exact n,r⟩
 ·by_cases z:b=x
  ·subst z
   rw[z7] at e
   cases e
   obtain⟨oe,vs,h1,h2⟩:=id hx
   refine⟨hx,⟨oe,h1⟩,λg1 g2 p k=>?_⟩
   obtain⟨oe',vs',h1',h2'⟩:=p
   exact⟨oe',vs',k _ h1',h2'⟩
  ·rw[z8 z] at e
   have sm:∀c o,H c=some o->upd H x (.ext (XcAt x C d)) c=some o:=λc o q=>by rw[z8 (ne c (by rw[q];simp))];exact q
   exact (I.hok b ob e).stay (λ_ _ _ q=>q) (λc q=>sm c _ q) λc xs q=>sm c _ q
end
section
variable {X:Cx}{D:DP}{W:XW}{Γ:Cn}{k:Nat}{pins:List (Addr×Obj)}{s:Shared}{σ:St}{H:Hp}{φ α:List Addr}{τ:Sl}{μ:Mem}{a b c e:Expr}{pos:Pos}{E:Ends}{es:List Expr}{fs:List De}
theorem Vh(C:Sk D W Γ X k)(hc:Γ.calm=true){x:Str}{n:Nat}{p0 p1:Pos}(hx:x∈Γ.G)(hg:Γ.gl x=.xcl n)(ha:EsOk X D W (a::es) fs) :
  PS X (.Raise (some (.Call (.Name x p0) (a::es) [] p1)) none pos) (rdS D W (uZ n fs)):=by
 rintro pins s σ H E I ⟨φ,α,τ,μ,sr,mr,p⟩
 have q:=C.glo x hx
 rw[hg] at q
 obtain⟨C0,ad,hm,hex⟩:=q
 have hs:=ha.stars
 obtain⟨tl,N,nm,qn,bs,hd,sn,sub,ab,col,dd,k0,k1,k2,k3,k5,mN,o1,o2,o3,o4⟩:=yE I.ok.mod.kin hex
 have hb:tl.contains (.type "BaseException")=true:=o4.hasType PySem.F.excBase_ValueError.hasBase
 have hp:(backTo p1 (starEach (a::es) X.env)).any (·.1)=false:=q9 hs
 refine wpAny_Raise_call_subT (nm:=nm) (q:=qn) (C:=C0) (N:=N) (bs:=bs) (bm:=tl) (hdct:=hd) (sn:=sn) (sub:=sub) (ab:=ab) (col:=col) (dd:=dd) (k0:=k0) (k1:=k1) (k2:=k2) (k3:=k3) (k5:=k5) (mN:=mN) PySem.F.excBase_ValueError hb (I.ok.hd (C.clm hc)) hp o3 ?_
 refine qa I (C.glb x hx) hm ⟨rfl,?_⟩ (C.dbG x hx)
 have hs1:noStar a=true:=by simp only[List.all_cons,Bool.and_eq_true] at hs;exact hs.1
 have sA:=thn (wM ha p1 pins s σ H (λvs H1=>∃ts μ1 α1,Stp α H α1 H1/\SRel D φ α1 H1 τ σ/\MRel D φ α1 H1 μ1/\DenL D φ α1 H1 ts vs/\PostS D W φ α1 H1 E (.grd (ts.length<=room) (.ex n [] τ μ1))) I ⟨φ,α,τ,μ,sr,mr,(PostS.out sr p).mono λts μ' α' H' st m q vs d _=>⟨ts,μ',α',st,sr.step st,m,d,q⟩⟩) (Q':=λus s1=>us.length<=sizeLine/\s1.heap.get? C0=some (excClassObj nm qn C0 N bs tl hd sn sub ab col dd k0 k1 k2 k3 k5 "ValueError.__new__")/\s1.heap.Ns N mN/\OwnTail s1.heap zz tl/\∀h' e,Heap.MadeExcOf s1.heap h' e (.ref C0) us->X.xe (.ref e) {s1 with heap:=h'}) ?_
 ·rw[z5 hs1] at sA ⊢
  exact Calls.evalArgs_plain (thn sA λus s1 h1=>⟨rfl,h1⟩)
 ·rintro us s1 ⟨vs,H1,I1,r,ts,μ1,α1,st,sr1,m1,dl,q⟩
  obtain⟨hl,q⟩:=PostS.grd q
  refine⟨?_,I1.bk _ _ o1,o2.keeps I1.bk,o4.keeps I1.bk,λh' e mk=>?_⟩
  ·have e1:=dl.length
   have e2:=r.length
   have:=zp hl
   rw[←e2,←e1]
   exact this
  ·exact C.xe _ _ (JF I1 mk (PostS.ex q (Stp.refl _ _) m1 sr1 ad rfl))
theorem XTr.at{h:Heap}{x T C:Addr}{xfs:List (Nat×NH.T)}{d:Option Addr}{fl:Value}(t:XTr h x T (cvF xfs C) d fl):XcAt x C d h:=by
 obtain⟨oe,vs,a0,oT,ts,h1,⟨h2,h3⟩,h4,_⟩:=t
 exact⟨oe,vs,h1,h2.trans Q0,h4,h3⟩
theorem XcAt.ty{M:Model}{h:Heap}{x C:Addr}{d:Option Addr}(t:XcAt x C d h):PySem.W.Looks M h (typeOf (.ref x)) (.ref C):=by
 obtain⟨oe,vs,h1,h2,h3,h4⟩:=t
 exact h2▸(PySem.W.Looks.ld h1).andThen .now
noncomputable def HcOk (Γ:Cn)(x:Str)(c:Nat):Prop:=x∈Γ.G/\(x,c)∈Γ.cls/\((∃f,Γ.gl x=.xcf c f)\/Γ.gl x=.xcl c)/\c<40
noncomputable def z1e (Γ:Cn):Option Str->Option Nat->Prop
 |none,none=>True
 |some e,some j=>idx Γ.N e=some j/\Γ.cel.contains e=false
 |_,_=>False
noncomputable def K9 (D:DP)(Γ:Cn)(k:Nat):List ExceptHandler->List (List Nat×Option Nat×List Ds)->Prop
 |[],[]=>True
 |h::hs,g::r=>(∃x p nm b0 suite pp c i vs,h=.ExceptHandler (some (.Name x p)) nm (b0::suite) pp/\g=([c],i,vs)/\HcOk Γ x c/\z1e Γ nm i/\∀X',Sk D noW {Γ with calm:=false} X' k->j4 X' D noW (b0::suite) vs)/\K9 D Γ k hs r
 |_,_=>False
theorem HcOk.mg(C:Sk D W Γ X k){x:Str}{c:Nat}(h:HcOk Γ x c):∃Cc,X.mg x=some (.ref Cc):=by
 have q:=C.glo x h.1
 rcases h.2.2.1 with⟨f,g⟩|g
 ·rw[g] at q
  obtain⟨Cc,_,hm⟩:=q
  exact⟨Cc,hm⟩
 ·rw[g] at q
  obtain⟨Cc,_,hm,_⟩:=q
  exact⟨Cc,hm⟩
theorem uE(C:Sk D W Γ X k){x Tt Ck:Addr}{d:Option Addr}{kk:Nat}{xfs:List (Nat×T)}(ad:D.adr kk=some Ck):∀{hs:List ExceptHandler} {r:List (List Nat×Option Nat×List Ds)} {s1:Shared} {σ1:St} {H1:Hp} {α1:List Addr} {τ1:Sl} {μ1:Mem},K9 D Γ k hs r->Inv (Cx.pin' X pins) [] σ1 H1 s1->XOk (Cx.pin' X pins) H1 x->XOk (Cx.pin' X pins) H1 Tt->XTr s1.heap x Tt (cvF xfs Ck) d .none->
  XDict D φ α1 H1 xfs d->MRel D φ α1 H1 μ1->SRel D φ α1 H1 τ1 σ1->PostS D W φ α1 H1 E (KZ r kk xfs τ1 μ1)->wpAny (model X.prog X.w) X.A (handleBy (.ref x) X.env hs) (SP X pins E) X.xe s1
 |[],[],s1,σ1,H1,α1,τ1,μ1,_,I1,ox,oT,tr,xd,m1,sr1,p=>by
  obtain⟨e0,out,L,F⟩:=C.frm
  refine wpAny_handleBy_nil ?_
  unfold PySem.passOn
  obtain⟨oe,vs',a0,oT',ts,ho,hcc,hd,hv0,hv1,hT,hoT,hdT,h3,_⟩:=id tr
  refine wpAny_bind (wpAny_field ho hd hv1 ?_)
  rw[if_neg (show ¬((Value.ref Tt == Value.none)=true) from by simp)]
  have go:∀{t2:Shared},XP X W (.ref x) t2->wpAny (model X.prog X.w) X.A (throw (Value.ref x):Sem Flow) (SP X pins E) X.xe t2:=λ{t2} xp=>wpAny_throw (C.xe _ _ xp)
  have un:∀b,XOk (Cx.pin' X pins) H1 b->XOk X H1 b:=λb o=>⟨o.free,o.loc,o.nfs,o.new,o.cel,λp hp=>o.pin p (List.mem_append_left _ hp)⟩
  have fin:wpAny (model X.prog X.w) X.A (setFlight (.ref x) X.env.frame) (λ_ t2=>XP X W (.ref x) t2) X.xe s1:=by
   refine zF ((zi I1).pins_of λp hp=>absurd hp (by simp)) (un x ox) (un Tt oT) tr λh4 I4 tr4=>?_
   refine⟨x,cvF xfs Ck,d,σ1,H1,some Tt,rawInt L,rfl,I4,un x ox,λt ht=>?_,?_,.inr ⟨L,F.fe,rfl⟩,PostS.ex p (Stp.refl _ _) m1 sr1 ad xd⟩
   ·have:t=Tt:=by simpa using ht
    rw[this];exact un Tt oT
   ·rw[F.fe] at tr4;exact tr4
  first
   |exact wpAny_bind (thn fin λ_ t2 xp=>go xp)
   |exact wpAny_bind (wpAny_pure (wpAny_bind (thn fin λ_ t2 xp=>go xp)))
 |[],_::_,_,_,_,_,_,_,h,_,_,_,_,_,_,_,_=>h.elim
 |_::_,[],_,_,_,_,_,_,h,_,_,_,_,_,_,_,_=>h.elim
 |hd::hs',g::r',s1,σ1,H1,α1,τ1,μ1,h,I1,ox,oT,tr,xd,m1,sr1,p=>by
   obtain⟨⟨x0,p0,nm,b0,suite',pp,c,i,vs,rfl,rfl,hcx,hnm,hsu⟩,hrest⟩:=h
   obtain⟨Cc,hmc⟩:=hcx.mg C
   have IX:Inv (Cx.han (Cx.pin' X pins) x) [] σ1 H1 s1:=vd I1
   have hexm:=C.xmt kk x0 c hcx.2.1 hcx.2.2.2 Ck Cc ad hmc
   refine wpAny_handleBy_cons (codeAny_handlers_test (qa (X:=Cx.han (Cx.pin' X pins) x) IX (C.glb x0 hcx.1) hmc ?_ (C.dbG x0 hcx.1))) (λq=>by cases q)
   refine (PySem.W.exm_one (M:=model X.prog X.w) IX.kIn (XcAt.ty (XTr.at tr)) hexm).at ?_
   have hio:isAny kk [c]=qb kk c:=by
    rw[jq];show bOr _ false=_
    cases qb kk c<;>rfl
   have p:PostS D W φ α1 H1 E (.br (qb kk c) (z02 i vs kk xfs τ1 μ1) (KZ r' kk xfs τ1 μ1)):=by rw[←hio];exact p
   rcases PostS.br p with⟨hb,p⟩|⟨hb,p⟩
   ·rw[hb]
    obtain⟨Q,q,h1,h2,h3,h4,h5⟩:=p
    have C2:∀{X':Cx},X'=Cx.han (Cx.pin' X pins) x->Sk D noW {Γ with calm:=false} X' k:=λ{X'} hX'=>by
     subst hX'
     obtain⟨e0,out,L,F⟩:=C.frm
     exact {hK:=C.hK,hN:=C.hN,nd:=C.nd,vis:=C.vis,dbg:=C.dbg,dbG:=C.dbG,glb:=C.glb,glo:=C.glo,glU:=C.glU,cel:=C.cel,isi:=C.isi,fld:=C.fld,xcx:=C.xcx,ocx:=C.ocx,clv:=C.clv,clm:=(λz=>by cases z),rom:=(λz=>by cases z),rmh:=⟨C.rmh.dp,C.rmh.un⟩,xe:=(λe s p=>by obtain⟨_,_,_,_,_,_,_,_,_,_,_,_,_,z⟩:=p;exact z),frm:=⟨e0,out,L,F.stk,F.f0,F.fe⟩,lam:=C.lam,kfz:=C.kfz,sto:=C.sto,lcl:=C.lcl,pso:=PassesOwn.never,xmt:=C.xmt}
    have okX:X.Ok:=ui I1.ok
    cases nm with
    |none=>
     cases i with
     |some j=>exact False.elim hnm
     |none=>
      refine codeAny_handlers_suite (zF (X:=Cx.pin' X pins) I1 ox oT tr λh3' I3 tr3=>?_)
      have S:=zW (hsu _ (C2 rfl)) [] _ _ _ {nx:=E.nx,rt:=E.rt} (vd (x:=x) I3) ⟨φ,α1,τ1,μ1,sr1,m1,_,q,h1,(λ_ _ z=>z.elim),(λ_ _ z=>z.elim),h4,(λ_ _ _ _ z=>z.elim)⟩
      refine wpAny_mono S (λf s6 h6=>?_) (λ_ _ z=>z.elim)
      cases f with
      |next=>obtain⟨σ',H',I',q'⟩:=h6;exact⟨σ',H',zi (wc I1.ok I'),q'⟩
      |brk=>obtain⟨σ',H',I',q'⟩:=h6;exact q'.elim
      |cont=>obtain⟨σ',H',I',q'⟩:=h6;exact q'.elim
      |ret w=>obtain⟨y,σ',H',I',r,q'⟩:=h6;exact⟨y,σ',H',zi (wc I1.ok I'),r,q'⟩
    |some e=>
     cases i with
     |none=>exact False.elim hnm
     |some j=>
      obtain⟨hidx,hce⟩:=hnm
      refine codeAny_handlers_suite_as (zF (X:=Cx.pin' X pins) I1 ox oT tr λh3' I3 tr3=>?_)
      have I4:=QG (C:=Ck) (d:=d) I3 ox (λp hp=>absurd hp (by simp)) (XTr.at tr3)
      have st2:Stp α1 H1 α1 (upd H1 x (.ext (XcAt x Ck d))):=Stp.new (zd ox.free)
      have hloc:X.env.scope.names.lookup e=some .local:=C.lcl e (zZ hidx) hce
      have hNd:X.N.Nodup:=by rw[C.hN];exact C.nd
      have hNi:X.N[j]?=some e:=by rw[C.hN];exact qg hidx
      refine jU (X:=Cx.han (Cx.pin' X pins) x) (i:=j) (v:=.ref x) (vd I4) hNd hNi (.inl hloc) rfl (λs5 I5=>?_) (.inr hloc)
      have xd5:=xd.lk (st2.lk (φ:=φ))
      have den:Den D φ α1 (upd H1 x (.ext (XcAt x Ck d))) (.exc kk xfs) (.ref x):=⟨x,Ck,d,rfl,zj m1 ox.free,zh m1 ox.free,ad,z7,by cases d<;>exact xd5⟩
      have sr5:=(sr1.step st2).set (i:=j) den
      have m5:=m1.new (zd (o:=HO.ext (XcAt x Ck d)) ox.free)
      have S:=zW (hsu _ (C2 rfl)) [] s5 _ _ {nx:=λσ' H'=>E.nx (σ'.set j none) H',rt:=E.rt} I5 ⟨φ,α1,_,μ1,sr5,m5,_,q,(λτ2 μ2 z α' H' σ' st m r=>h1 _ μ2 z α' H' _ (st2.trans st) m r.unset),(λ_ _ z=>z.elim),(λ_ _ z=>z.elim),(λt μ2 z α' H' v st m dd=>h4 t μ2 z α' H' v (st2.trans st) m dd),(λ_ _ _ _ z=>z.elim)⟩
      have hkf:(X.env.scope.kind == .class || (X.env.scope.kind == .module&&X.env.locals != X.env.globals))=false:=by rw[okX.kind];rfl
      refine wpAny_mono S (λf s6 h6=>?_) (λ_ _ z=>z.elim)
      have fin:∀{σ6 H6},Inv (Cx.han (Cx.pin' X pins) x) [] σ6 H6 s6->(∀s7,Inv X pins (σ6.set j none) H6 s7->SP X pins E f s7)->wpAny (model X.prog X.w) X.A (do bindName X.env e .none;unbindBehindTheSuite X.env e pp) (λ_ s7=>SP X pins E f s7) X.xe s6:=λ{σ6 H6} I6 q=>by
       have I7:Inv X pins σ6 H6 s6:=zi (wc (Vm okX) I6)
       obtain⟨m,hn,hl⟩:=I7.loc
       refine wpAny_nameGoes_keeps hloc hn hkf λh7 u7 hn7 hs7=>?_
       exact q _ (QT I7 hNd hNi hl hn7 hs7)
      cases f with
      |next=>obtain⟨σ',H',I',q'⟩:=h6;exact fin I' λs7 I7=>⟨_,H',I7,q'⟩
      |brk=>obtain⟨σ',H',I',q'⟩:=h6;exact q'.elim
      |cont=>obtain⟨σ',H',I',q'⟩:=h6;exact q'.elim
      |ret w=>obtain⟨y,σ',H',I',r,q'⟩:=h6;exact fin I' λs7 I7=>⟨y,_,H',I7,r,q'⟩
   ·rw[hb]
    exact uE C ad hrest I1 ox oT tr xd m1 sr1 p
theorem XD(C:Sk D W Γ X k)(hc:Γ.calm=true){body:List Stmt}{us:List Ds}{h0:ExceptHandler}{hs:List ExceptHandler}{r:List (List Nat×Option Nat×List Ds)}(hb:∀X' W',Sk D W' Γ X' k->j4 X' D W' body us)(hh:K9 D Γ k (h0::hs) r) :
  PS X (.Try body (h0::hs) [] [] pos) (rdS D W (UA us r)):=by
 rintro pins s σ H E I ⟨φ,α,τ,μ,sr,mr,Q,q,h1,h2,h3,h4,h5⟩
 obtain⟨e0,out,L,F⟩:=C.frm
 have F0:Frm (Cx.pin' X pins) e0 out L:=⟨F.stk,F.f0,F.fe⟩
 generalize hW:(λ(cls:Value) (d:Option Addr) (σ':St) (H':Hp)=>∃kk fs τ1 μ1 α1 Ck,KZ r kk fs τ1 μ1 Q/\D.adr kk=some Ck/\cls=cvF fs Ck/\Stp α H α1 H'/\MRel D φ α1 H' μ1/\SRel D φ α1 H' τ1 σ'/\XDict D φ α1 H' fs d:XW)=W1
 have C1:Sk D W1 Γ ((Cx.pin' X pins).wish (XP (Cx.pin' X pins) W1)) k:={hK:=C.hK,hN:=C.hN,nd:=C.nd,vis:=C.vis,dbg:=C.dbg,dbG:=C.dbG,glb:=C.glb,glo:=C.glo,glU:=C.glU,cel:=C.cel,isi:=C.isi,fld:=C.fld,xcx:=C.xcx,ocx:=C.ocx,clv:=C.clv,clm:=C.clm,rom:=C.rom,rmh:=⟨C.rmh.dp,C.rmh.un⟩,xe:=λe s p=>we p,frm:=⟨e0,out,L,F.stk,F.f0,F.fe⟩,lam:=C.lam,kfz:=C.kfz,sto:=C.sto,lcl:=C.lcl,pso:=vF F0 I.ok.frames,xmt:=C.xmt}
 have B:=zW (hb _ W1 C1) [] s σ H E ((jo I).wish _) ⟨φ,α,τ,μ,sr,mr,_,q,h1,h2,h3,h4,λkk fs τ1 μ1 z α' H' σ' Ck d st m sr' ad xd=>by rw[←hW];exact⟨kk,fs,τ1,μ1,α',Ck,z,ad,rfl,st,m,sr',xd⟩⟩
 refine wpAny_Try_except (wpAny_mono B (λf s1 h1=>?_) (λe1 s1 hx=>?_))
 ·cases f with
  |next=>obtain⟨σ',H',I',q⟩:=h1;exact yd pins s1 σ' H' E (zi I'.unwish) q
  |brk=>obtain⟨σ',H',I',q⟩:=h1;exact⟨σ',H',zi I'.unwish,q⟩
  |cont=>obtain⟨σ',H',I',q⟩:=h1;exact⟨σ',H',zi I'.unwish,q⟩
  |ret w=>obtain⟨y,σ',H',I',r,q⟩:=h1;exact⟨y,σ',H',zi I'.unwish,r,q⟩
 have hx:XP (Cx.pin' X pins) W1 e1 s1:=hx
 refine wk (X:=Cx.pin' X pins) F0 I.ok.frames hx λx cls d σ1 H1 Tt h' ee I1 ox oT tr w=>?_
 subst ee
 refine zF (X:=Cx.pin' X pins) (s:={s1 with heap:=h'}) I1 ox oT tr λh2' I2 tr2=>?_
 rw[←hW] at w
 obtain⟨kk,fs,τ1,μ1,α1,Ck,z,ad,rfl,st1,m1,sr1,xd⟩:=w
 exact uE C ad hh I2 ox oT tr2 xd m1 sr1 (PostS.step ⟨Q,z,h1,h2,h3,h4,h5⟩ st1)
end
structure Rec where
 e:Cn->Expr->Option De
 t:Cn->Expr->Option Dt
 w:Cn->Expr->Option Dt
 i:Cn->Expr->Option Di
 o:Cn->Expr->Option De
 s:Cn->Stmt->Option Ds
noncomputable abbrev ER:=Rec->Cn->Expr->Option De
noncomputable abbrev TR:=Rec->Cn->Expr->Option Dt
noncomputable abbrev IR:=Rec->Cn->Expr->Option Di
noncomputable abbrev SR:=Rec->Cn->Stmt->Option Ds
structure Rules where
 e:List ER
 t:List TR
 w:List TR
 i:List IR
 o:List ER
 s:List SR
noncomputable def xC {α β:Type}:List (Rec->Cn->α->Option β)->Rec->Cn->α->Option β
 |[],_,_,_=>none
 |f::fs,r,Γ,e=>match f r Γ e with
  |some d=>some d
  |none=>xC fs r Γ e
noncomputable def comp (R:Rules):Nat->Rec
 |0=>⟨λ_ _=>none,λ_ _=>none,λ_ _=>none,λ_ _=>none,λ_ _=>none,λ_ _=>none⟩
 |n+1=>⟨xC R.e (comp R n),xC R.t (comp R n),xC R.w (comp R n),xC R.i (comp R n),xC R.o (comp R n),xC R.s (comp R n)⟩
noncomputable def WK(tg e:Expr):Bool:=match e with
 |.Call (.Name x _) _ _ _=>(x != ("enumerate":Str)&&x != ("zip":Str)) || (match tg with|.Tuple _ _ _=>true|_=>false)
 |_=>true
structure RecOk(D:DP)(r:Rec):Prop where
 e:∀{X W Γ k e f},Ck D W Γ X k->r.e Γ e=some f->PE X e (rdE D W f)
 t:∀{X W Γ k e f},Ck D W Γ X k->r.t Γ e=some f->PT X e (rdT D W f)
 w:∀{X W Γ k e f},Ck D W Γ X k->r.w Γ e=some f->PW X e (rdT D W f)
 i:∀{X W Γ k tg e f},Ck D W Γ X k->WK tg e=true->r.i Γ e=some f->PI X tg e (rdI D W f)
 o:∀{X W Γ k e f},Ck D W Γ X k->r.o Γ e=some f->PE X e (rdE D W f)
 s:∀{X W Γ k e f},Sk D W Γ X k->r.s Γ e=some f->PS X e (rdS D W f)
noncomputable def EOk (D:DP)(f:ER):Prop:=∀r,RecOk D r->∀{X W Γ k e d},Ck D W Γ X k->f r Γ e=some d->PE X e (rdE D W d)
noncomputable def TOk (D:DP)(f:TR):Prop:=∀r,RecOk D r->∀{X W Γ k e d},Ck D W Γ X k->f r Γ e=some d->PT X e (rdT D W d)
noncomputable def WOk (D:DP)(f:TR):Prop:=∀r,RecOk D r->∀{X W Γ k e d},Ck D W Γ X k->f r Γ e=some d->PW X e (rdT D W d)
noncomputable def IOk (D:DP)(f:IR):Prop:=∀r,RecOk D r->∀{X W Γ k tg e d},Ck D W Γ X k->WK tg e=true->f r Γ e=some d->PI X tg e (rdI D W d)
noncomputable def SOk (D:DP)(f:SR):Prop:=∀r,RecOk D r->∀{X W Γ k e d},Sk D W Γ X k->f r Γ e=some d->PS X e (rdS D W d)
noncomputable def j1{α:Type}(P:α->Prop):List α->Prop
 |[]=>True
 |f::fs=>P f/\j1 P fs
structure RulesOk(D:DP)(R:Rules):Prop where
 e:j1 (EOk D) R.e
 t:j1 (TOk D) R.t
 w:j1 (WOk D) R.w
 i:j1 (IOk D) R.i
 o:j1 (EOk D) R.o
 s:j1 (SOk D) R.s
theorem qE{α β:Type}{P:(Rec->Cn->α->Option β)->Prop}{C:Prop}{r:Rec}{Γ:Cn}{e:α}{d:β}:∀{fs:List (Rec->Cn->α->Option β)},j1 P fs->(∀f,P f->f r Γ e=some d->C)->xC fs r Γ e=some d->C
 |[],_,_,h=>by cases h
 |f::fs,a,k,h=>by
  unfold xC at h
  cases q:f r Γ e with
  |some d'=>rw[q] at h;cases h;exact k f a.1 q
  |none=>rw[q] at h;exact qE a.2 k h
theorem qm{D:DP}{R:Rules}(H:RulesOk D R):∀n,RecOk D (comp R n)
 |0=>⟨λ_ h=>(by cases h),λ_ h=>(by cases h),λ_ h=>(by cases h),λ_ _ h=>(by cases h),λ_ h=>(by cases h),λ_ h=>(by cases h)⟩
 |n+1=>⟨λC h=>qE H.e (λf p q=>p _ (qm H n) C q) h,λC h=>qE H.t (λf p q=>p _ (qm H n) C q) h,λC h=>qE H.w (λf p q=>p _ (qm H n) C q) h,λC ht h=>qE H.i (λf p q=>p _ (qm H n) C ht q) h,λC h=>qE H.o (λf p q=>p _ (qm H n) C q) h,λC h=>qE H.s (λf p q=>p _ (qm H n) C q) h⟩
noncomputable def gd{α:Type}(b:Bool)(o:Option α):Option α:=match b with
 |true=>o
 |false=>none
theorem zo{α:Type}{b:Bool}{o:Option α}{x:α}(h:gd b o=some x):b=true/\o=some x:=by
 cases b with
 |true=>exact⟨rfl,h⟩
 |false=>cases h
theorem bnd{α β:Type}{o:Option α}{f:α->Option β}{x:β}(h:o.bind f=some x):∃a,o=some a/\f a=some x:=Option.bind_eq_some_iff.mp h
noncomputable def zt {α β:Type}(f:α->Option β):List α->Option (List β)
 |[]=>some []
 |a::r=>(f a).bind λb=>(zt f r).bind λbs=>some (b::bs)
noncomputable def cEs (r:Rec)(Γ:Cn)(es:List Expr):Option (List De):=zt (λe=>gd (noStar e) (r.e Γ e)) es
section
variable {D:DP}{r:Rec}{X:Cx}{W:XW}{Γ:Cn}{k:Nat}
theorem wG(h:RecOk D r)(C:Ck D W Γ X k):∀{es:List Expr} {fs:List De},cEs r Γ es=some fs->EsOk X D W es fs
 |[],fs,e=>by cases e;trivial
 |a::es,fs,e=>by
  obtain⟨f,h1,e⟩:=bnd e
  obtain⟨gs,h2,e⟩:=bnd e
  cases e
  obtain⟨h3,h4⟩:=zo h1
  exact⟨h3,h.e C h4,wG h C h2⟩
theorem wa(h:RecOk D r)(C:Ck D W Γ X k):∀{es:List Expr} {fs:List Dt},zt (r.t Γ) es=some fs->uY X D W es fs
 |[],fs,e=>by cases e;trivial
 |a::es,fs,e=>by
  obtain⟨f,h1,e⟩:=bnd e
  obtain⟨gs,h2,e⟩:=bnd e
  cases e
  exact⟨h.t C h1,wa h C h2⟩
theorem zP(h:RecOk D r)(C:Sk D W Γ X k):∀{es:List Stmt} {fs:List Ds},zt (r.s Γ) es=some fs->j4 X D W es fs
 |[],fs,e=>by cases e;trivial
 |a::es,fs,e=>by
  obtain⟨f,h1,e⟩:=bnd e
  obtain⟨gs,h2,e⟩:=bnd e
  cases e
  exact⟨h.s C h1,zP h C h2⟩
end
noncomputable def UN:ER:=λ_ _ e=>match e with
 |.Constant c _ _=>(match c with
  |.int i=>some (eC (.int i))
  |.bool b=>some (eC (.bl b))
  |.none=>some (eC .non)
  |.str x=>some (eC (.str x))
  |_=>none)
 |_=>none
theorem Kx{D:DP}:EOk D UN:=by
 intro r H X W Γ k e d C h
 cases e with
 |Constant c j p=>
  cases c with
  |int i=>cases h;exact Yf
  |bool i=>cases h;exact z0E
  |none=>cases h;exact XE
  |str i=>cases h;exact U3
  |_=>cases h
 |_=>cases h
noncomputable def Yz:ER:=λ_ Γ e=>match e with
 |.Name x _=>(match idx Γ.N x with
  |some i=>some (eV i)
  |none=>(match Γ.look x with
   |.cst t=>some (eC t)
   |_=>none))
 |_=>none
theorem Jw{D:DP}:EOk D Yz:=by
 intro r H X W Γ k e d C h
 cases e with
 |Name x p=>
  simp only[Yz] at h
  cases q:idx Γ.N x with
  |some i=>rw[q] at h;cases h;exact Uc C q
  |none=>
   rw[q] at h
   cases hl:Γ.look x with
   |cst t=>
    simp only[hl] at h
    cases h
    obtain⟨hx,hg⟩:=qj hl (by intro z;cases z)
    exact Ui C hx hg
   |_=>simp[hl] at h
 |_=>cases h
noncomputable def z06:ER:=λr Γ e=>match e with
 |.BinOp a op b _=>(r.e Γ a).bind λf=>(r.e Γ b).bind λg=>some (za op f g)
 |_=>none
theorem Kf{D:DP}:EOk D z06:=by
 intro r H X W Γ k e d C h
 cases e with
 |BinOp a op b p=>
  obtain⟨f,h1,h⟩:=bnd h
  obtain⟨g,h2,h⟩:=bnd h
  cases h
  exact UB (H.e C h1) (H.e C h2)
 |_=>cases h
noncomputable def rUn:ER:=λr Γ e=>match e with
 |.UnaryOp op a _=>(r.e Γ a).bind λf=>(match op with
  |.USub=>some (kj f)
  |.Not=>some (Um f)
  |_=>none)
 |_=>none
theorem YD{D:DP}:EOk D rUn:=by
 intro r H X W Γ k e d C h
 cases e with
 |UnaryOp op a p=>
  obtain⟨f,h1,h⟩:=bnd h
  cases op with
  |USub=>cases h;exact Ut (H.e C h1)
  |Not=>cases h;exact XO (H.e C h1)
  |_=>cases h
 |_=>cases h
noncomputable def X8:ER:=λr Γ e=>match e with
 |.BoolOp op es p=>(match es with
  |[a]=>r.e Γ a
  |a::b::l=>(r.e Γ a).bind λf=>(r.e Γ (.BoolOp op (b::l) p)).bind λg=>some (match op with|.And=>Jj f g|.Or=>eOr f g)
  |[]=>none)
 |_=>none
theorem Wo{D:DP}:EOk D X8:=by
 intro r H X W Γ k e d C h
 cases e with
 |BoolOp op es p=>
  match es with
  |[]=>cases h
  |[a]=>exact Y7 (H.e C h)
  |a::b::l=>
   obtain⟨f,h1,h⟩:=bnd h
   obtain⟨g,h2,h⟩:=bnd h
   cases h
   cases op with
   |And=>exact Ud (H.e C h1) (H.e C h2)
   |Or=>exact UO (H.e C h1) (H.e C h2)
 |_=>cases h
noncomputable def chs (r:Rec)(Γ:Cn):List CmpOp->List Expr->Option (List (CmpOp×De))
 |[],[]=>some []
 |op::ops,e::es=>gd (wU op) ((r.e Γ e).bind λf=>(chs r Γ ops es).bind λps=>some ((op,f)::ps))
 |_,_=>none
theorem VW{D:DP}{r:Rec}{X:Cx}{W:XW}{Γ:Cn}{k:Nat}(H:RecOk D r)(C:Ck D W Γ X k):∀{ops:List CmpOp} {es:List Expr} {ps:List (CmpOp×De)},chs r Γ ops es=some ps->QV X D W es ps/\ps.map (·.1)=ops/\ps.all (λp=>wU p.1)=true
 |[],[],ps,h=>by cases h;exact⟨trivial,rfl,rfl⟩
 |[],_::_,ps,h=>by cases h
 |_::_,[],ps,h=>by cases h
 |op::ops,e::es,ps,h=>by
  obtain⟨hb,h⟩:=zo h
  obtain⟨f,h1,h⟩:=bnd h
  obtain⟨qs,h2,h⟩:=bnd h
  cases h
  obtain⟨k1,k2,k3⟩:=VW H C h2
  exact⟨⟨H.e C h1,k1⟩,by simp[k2],by simp[hb,k3]⟩
noncomputable def XU (r:Rec)(Γ:Cn)(a:Expr)(ops:List CmpOp)(es:List Expr):Option De:=(r.e Γ a).bind λf=>(match ops,es with
 |[op],[b]=>gd (ud op b) ((r.e Γ b).bind λg=>some (zI op f g))
 |_::_::_,_::_::_=>(chs r Γ ops es).bind λps=>some (eCh f ps)
 |_,_=>none)
theorem Q8{D:DP}{r:Rec}{X:Cx}{W:XW}{Γ:Cn}{k:Nat}(H:RecOk D r)(C:Ck D W Γ X k){a:Expr}{ops:List CmpOp}{es:List Expr}{p:Pos}{d:De}(h:XU r Γ a ops es=some d):PE X (.Compare a ops es p) (rdE D W d)/\PT X (.Compare a ops es p) (rdT D W (tE d)):=by
 obtain⟨f,h1,h⟩:=bnd h
 match ops,es with
 |[op],[b]=>
  obtain⟨ho,h⟩:=zo h
  obtain⟨g,h2,h⟩:=bnd h
  cases h
  exact⟨Y3 C ho (H.e C h1) (H.e C h2),Zx C ho (H.e C h1) (H.e C h2)⟩
 |op::op'::ops,e::e'::es=>
  obtain⟨ps,h2,h⟩:=bnd h
  cases h
  obtain⟨k1,k2,k3⟩:=VW H C h2
  match ps with
  |[]=>cases k2
  |[p1]=>simp at k2
  |p1::p2::ps=>
   simp only[List.map_cons,List.cons.injEq] at k2
   obtain⟨rfl,rfl,rfl⟩:=k2
   exact⟨WM C k3 (H.e C h1) k1,yL C k3 (H.e C h1) k1⟩
 |[],es=>cases h
 |[_],[]=>cases h
 |[_],_::_::_=>cases h
 |_::_::_,[]=>cases h
 |_::_::_,[_]=>cases h
noncomputable def z0s:ER:=λr Γ e=>match e with
 |.Compare a ops es _=>XU r Γ a ops es
 |_=>none
theorem Kk{D:DP}:EOk D z0s:=by
 intro r H X W Γ k e d C h
 cases e with
 |Compare a ops es p=>exact (Q8 H C h).1
 |_=>cases h
noncomputable def UL:ER:=λr Γ e=>match e with
 |.Attribute a x _=>gd (zJ a) ((r.e Γ a).bind λf=>(Γ.fld.lookup x).bind λn=>some (Vp f n))
 |_=>none
theorem JS{D:DP}:EOk D UL:=by
 intro r H X W Γ k e d C h
 cases e with
 |Attribute a x p=>
  obtain⟨hp,h⟩:=zo h
  obtain⟨f,h1,h⟩:=bnd h
  obtain⟨n,h2,h⟩:=bnd h
  cases h
  exact YO C hp (lookup_mem h2) (H.e C h1)
 |_=>cases h
noncomputable def prt (r:Rec)(Γ:Cn):Option Expr->Option Dp
 |none=>some pN
 |some e=>(r.e Γ e).bind λf=>some (pS f)
theorem V7{D:DP}{r:Rec}{X:Cx}{W:XW}{Γ:Cn}{k:Nat}(H:RecOk D r)(C:Ck D W Γ X k){o:Option Expr}{d:Dp}(h:prt r Γ o=some d):PO X o (rdO D W d):=by
 cases o with
 |none=>cases h;exact KD
 |some e=>
  obtain⟨f,h1,h⟩:=bnd h
  cases h
  exact JW (H.e C h1)
noncomputable def U2:ER:=λr Γ e=>match e with
 |.Subscript a b _=>(match b with
  |.Slice lo hi st _=>(match st with
   |none=>(r.e Γ a).bind λf=>(prt r Γ lo).bind λl=>(prt r Γ hi).bind λu=>some (eSl f l u)
   |some _=>none)
  |b=>gd (qi b) ((r.e Γ a).bind λf=>(r.e Γ b).bind λg=>some (eIx f g)))
 |_=>none
theorem JX{D:DP}:EOk D U2:=by
 intro r H X W Γ k e d C h
 cases e with
 |Subscript a b p=>
  have gen:∀{b},gd (qi b) ((r.e Γ a).bind λf=>(r.e Γ b).bind λg=>some (eIx f g))=some d->PE X (.Subscript a b p) (rdE D W d):=λ{b} h=>by
   obtain⟨hp,h⟩:=zo h
   obtain⟨f,h1,h⟩:=bnd h
   obtain⟨g,h2,h⟩:=bnd h
   cases h
   exact z09 hp C.hK (H.e C h1) (H.e C h2)
  cases b with
  |Slice lo hi st p2=>
   cases st with
   |some _=>cases h
   |none=>
    obtain⟨f,h1,h⟩:=bnd h
    obtain⟨l,h2,h⟩:=bnd h
    obtain⟨u,h3,h⟩:=bnd h
    cases h
    exact Wy (H.e C h1) (V7 H C h2) (V7 H C h3)
  |_=>exact gen h
 |_=>cases h
noncomputable def z0u:ER:=λr Γ e=>match e with
 |.List es _=>gd (decide (es.length<=room)) ((cEs r Γ es).bind λfs=>some (qy fs))
 |.Tuple es _ _=>gd (decide (es.length<=room)) ((cEs r Γ es).bind λfs=>some (Vf fs))
 |_=>none
theorem K3{D:DP}:EOk D z0u:=by
 intro r H X W Γ k e d C h
 cases e with
 |List es p=>
  obtain⟨hl,h⟩:=zo h
  obtain⟨fs,h1,h⟩:=bnd h
  cases h
  exact YN (of_decide_eq_true hl) (wG H C h1)
 |Tuple es kk p=>
  obtain⟨hl,h⟩:=zo h
  obtain⟨fs,h1,h⟩:=bnd h
  cases h
  exact Y2 (of_decide_eq_true hl) (wG H C h1)
 |_=>cases h
noncomputable def YX:ER:=λr Γ e=>match e with
 |.Call (.Name x _) es [] _=>gd ((idx Γ.N x).isNone&&Γ.calm) ((cEs r Γ es).bind λfs=>(match Γ.look x with
  |.fn g=>some (z9 g fs)
  |.mk c true g=>some (eMk c g fs)
  |_=>none))
 |_=>none
theorem JU{D:DP}:EOk D YX:=by
 intro r H X W Γ k e d C h
 unfold YX at h
 split at h
 ·rename_i x p0 es pos
  obtain⟨hb,h⟩:=zo h
  simp only[Bool.and_eq_true] at hb
  obtain⟨fs,h1,h⟩:=bnd h
  cases hl:Γ.look x with
  |fn g=>
   simp only[hl] at h
   cases h
   obtain⟨hx,hg⟩:=qj hl (by intro z;cases z)
   exact Ke C hx hg hb.2 (wG H C h1)
  |mk c z g=>
   cases z with
   |true=>
    simp only[hl] at h
    cases h
    obtain⟨hx,hg⟩:=qj hl (by intro z;cases z)
    exact Kb C hx hg hb.2 (wG H C h1)
   |false=>simp[hl] at h
  |_=>simp[hl] at h
 ·cases h
noncomputable def rB1 (nm:Str)(op:T->Mem->RE T)(cl:Bool):ER:=λr Γ e=>match e with
 |.Call (.Name x _) [a] [] _=>gd (x == nm&&(idx Γ.N x).isNone&&noStar a&&(!cl || Γ.calm)) ((r.e Γ a).bind λf=>(match Γ.look x with
  |.none=>some (eB1 op f)
  |_=>none))
 |_=>none
theorem xI{D:DP}{nm:Str}{op:T->Mem->RE T}{cl:Bool}(H1:∀{X:Cx} {W:XW} {Γ:Cn} {k:Nat} {a:Expr} {f:De} {p0 pos:Pos},Ck D W Γ X k->nm∈Γ.G->Γ.gl nm=.none->(cl=true->Γ.calm=true)->noStar a=true->PE X a (rdE D W f)->PE X (.Call (.Name nm p0) [a] [] pos) (rdE D W (eB1 op f))):EOk D (rB1 nm op cl):=by
 intro r H X W Γ k e d C h
 unfold rB1 at h
 split at h
 ·rename_i x p0 a pos
  have hh:=zo h
  clear h
  obtain⟨hb,h⟩:=hh
  simp only[Bool.and_eq_true,beq_iff_eq,Bool.or_eq_true,Bool.not_eq_true'] at hb
  obtain⟨⟨⟨rfl,h2⟩,h3⟩,h4⟩:=hb
  obtain⟨f,h1,h⟩:=bnd h
  cases hl:Γ.look x with
  |none=>
   simp only[hl] at h
   cases h
   obtain⟨hx,hg⟩:=qj hl (by intro z;cases z)
   exact H1 C hx hg (λz=>h4.resolve_left (by rw[z];simp)) h3 (H.e C h1)
  |_=>simp[hl] at h
 ·cases h
noncomputable def z0O:ER:=rB1 "len" wO false
theorem JI{D:DP}:EOk D z0O:=xI λC hx hg _ hs ha=>Xr C hx hg boot_len (by decide) hs UR ha
noncomputable def UJ:ER:=rB1 "all" Jm true
theorem KG{D:DP}:EOk D UJ:=xI λC hx hg hc hs ha=>Xr C hx hg boot_all (by decide) hs (UU (C.clm (hc rfl))) ha
noncomputable def Uj:ER:=λr Γ e=>match e with
 |.Call (.Name x _) [a,c] [] _=>gd (x == ("isinstance":Str)&&(idx Γ.N x).isNone&&noStar a) ((r.e Γ a).bind λf=>(jm Γ c).bind λcs=>(match Γ.look x with
  |.none=>some (jF cs f)
  |_=>none))
 |_=>none
theorem Jx{D:DP}:EOk D Uj:=by
 intro r H X W Γ k e d C h
 unfold Uj at h
 split at h
 ·rename_i x p0 a c pos
  have hh:=zo h
  clear h
  obtain⟨hb,h⟩:=hh
  simp only[Bool.and_eq_true,beq_iff_eq] at hb
  obtain⟨⟨rfl,h2⟩,h3⟩:=hb
  obtain⟨f,h1,h⟩:=bnd h
  obtain⟨cs,h4,h⟩:=bnd h
  cases hl:Γ.look "isinstance" with
  |none=>
   simp only[hl] at h
   cases h
   obtain⟨hx,hg⟩:=qj hl (by intro z;cases z)
   exact Ym C hx hg h3 h4 (H.e C h1)
  |_=>simp[hl] at h
 ·cases h
noncomputable def rM1 (nm:Str)(cb:De->De->De):ER:=λr Γ e=>match e with
 |.Call (.Attribute o m pa) [a] [] pc=>gd (m == nm&&zJ o&&noStar a&&pa.endLine == pc.line) ((r.e Γ o).bind λf=>(r.e Γ a).bind λg=>some (cb f g))
 |_=>none
theorem Zr{D:DP}{nm:Str}{cb:De->De->De}(H1:∀{X:Cx} {W:XW} {Γ:Cn} {k:Nat} {o a:Expr} {f g:De} {pa pc:Pos},Ck D W Γ X k->zJ o=true->noStar a=true->(pa.endLine == pc.line)=true->PE X o (rdE D W f)->PE X a (rdE D W g)->PE X (.Call (.Attribute o nm pa) [a] [] pc) (rdE D W (cb f g))):EOk D (rM1 nm cb):=by
 intro r H X W Γ k e d C h
 unfold rM1 at h
 split at h
 ·have hh:=zo h
  clear h
  obtain⟨hb,h⟩:=hh
  simp only[Bool.and_eq_true] at hb
  obtain⟨⟨⟨h0,h2⟩,h3⟩,h4⟩:=hb
  have h0:=beq_iff_eq.mp h0
  subst h0
  obtain⟨f,h1,h⟩:=bnd h
  obtain⟨g,h5,h⟩:=bnd h
  cases h
  exact H1 C h2 h3 h4 (H.e C h1) (H.e C h5)
 ·cases h
noncomputable def z0v:ER:=rM1 "append" J6
theorem Ju{D:DP}:EOk D z0v:=Zr λC hp hs hl ho ha=>XZ hp hs hl ho ha
noncomputable def V5:ER:=rM1 "index" Zv
theorem Wb{D:DP}:EOk D V5:=Zr λC hp hs hl ho ha=>V0 hp hs hl ho ha
noncomputable def Kn (r:Rec)(Γ:Cn)(elt tg iter:Expr)(ifs:List Expr)(sc:Scope)(mk:Nat->List Nat->Tg->Di->List Dt->De->De):Option De:=
 gd (Γ.calm&&Za Γ.N Γ.cel tg sc&&qh iter&&WK tg iter) ((j5 Γ.N (frees sc)).bind λfs=>(qe (z6 tg++frees sc) tg).bind λtgt=>(r.i Γ iter).bind λfi=>(zt (r.t (inComp Γ tg sc)) ifs).bind λcs=>(r.e (inComp Γ tg sc) elt).bind λfe=>some (mk (z6 tg).length fs tgt fi cs fe))
theorem xP{r:Rec}{Γ:Cn}{elt tg iter:Expr}{ifs:List Expr}{sc:Scope}{mk:Nat->List Nat->Tg->Di->List Dt->De->De}{d:De}(h:Kn r Γ elt tg iter ifs sc mk=some d) :
  ∃fs tgt fi cs fe,Γ.calm=true/\CompOk Γ.N Γ.cel tg sc/\(qh iter=true/\WK tg iter=true)/\j5 Γ.N (frees sc)=some fs/\qe (z6 tg++frees sc) tg=some tgt/\r.i Γ iter=some fi/\zt (r.t (inComp Γ tg sc)) ifs=some cs/\r.e (inComp Γ tg sc) elt=some fe/\d=mk (z6 tg).length fs tgt fi cs fe:=by
 obtain⟨hb,h⟩:=zo h
 simp only[Bool.and_eq_true] at hb
 obtain⟨fs,h1,h⟩:=bnd h
 obtain⟨tgt,h2,h⟩:=bnd h
 obtain⟨fi,h3,h⟩:=bnd h
 obtain⟨cs,h4,h⟩:=bnd h
 obtain⟨fe,h5,h⟩:=bnd h
 cases h
 exact⟨fs,tgt,fi,cs,fe,hb.1.1.1,QR hb.1.1.2,⟨hb.1.2,hb.2⟩,h1,h2,h3,h4,h5,rfl⟩
noncomputable def WN:ER:=λr Γ e=>match e with
 |.ListComp elt [⟨tg,iter,ifs,z⟩] sc _=>gd (z == 0) (Kn r Γ elt tg iter ifs sc wt)
 |_=>none
theorem VZ{D:DP}:EOk D WN:=by
 intro r H X W Γ k e d C h
 unfold WN at h
 split at h
 ·have hh:=zo h
  clear h
  obtain⟨hz,h⟩:=hh
  have hz:=beq_iff_eq.mp hz
  subst hz
  obtain⟨fs,tgt,fi,cs,fe,h1,h2,h3,h4,h5,h6,h7,h8,rfl⟩:=xP h
  exact ZZ C h1 h2 h4 h5 (H.i C h3.2 h6) (λX' W' C'=>H.e C' h8) (λX' W' C'=>wa H C' h7) (kQ h3.1)
 ·cases h
noncomputable def Xt:TR:=λr Γ e=>match e with
 |.Name _ _=>(r.e Γ e).bind λf=>some (tE f)
 |.Call _ _ _ _=>(r.e Γ e).bind λf=>some (tE f)
 |.Subscript _ _ _=>(r.e Γ e).bind λf=>some (tE f)
 |.Attribute _ _ _=>(r.e Γ e).bind λf=>some (tE f)
 |.Compare a ops es _=>(XU r Γ a ops es).bind λf=>some (tE f)
 |.UnaryOp op a _=>(match op with
  |.Not=>(r.t Γ a).bind λf=>some (vx f)
  |_=>none)
 |.BoolOp _ _ _=>r.w Γ e
 |_=>none
theorem Jc{D:DP}:TOk D Xt:=by
 intro r H X W Γ k e d C h
 cases e with
 |Name x p=>
  obtain⟨f,h1,h⟩:=bnd h
  cases h
  exact Qc (H.e C h1) λ_=>rfl
 |Call f args kws p=>
  obtain⟨f,h1,h⟩:=bnd h
  cases h
  exact Qc (H.e C h1) λ_=>rfl
 |Subscript a b p=>
  obtain⟨f,h1,h⟩:=bnd h
  cases h
  exact Qc (H.e C h1) λ_=>rfl
 |Attribute a b p=>
  obtain⟨f,h1,h⟩:=bnd h
  cases h
  exact Qc (H.e C h1) λ_=>rfl
 |Compare a ops es p=>
  obtain⟨f,h1,h⟩:=bnd h
  cases h
  exact (Q8 H C h1).2
 |UnaryOp op a p=>
  cases op with
  |Not=>
   obtain⟨f,h1,h⟩:=bnd h
   cases h
   exact Y4 (H.t C h1)
  |_=>cases h
 |BoolOp op es p=>exact (H.w C h).pt
 |_=>cases h
noncomputable def WS:TR:=λr Γ e=>match e with
 |.BoolOp op es p=>(match es with
  |[a]=>r.t Γ a
  |a::b::l=>(r.t Γ a).bind λf=>(r.w Γ (.BoolOp op (b::l) p)).bind λg=>some (match op with|.And=>xU f g|.Or=>tOr f g)
  |[]=>none)
 |_=>none
theorem W9{D:DP}:WOk D WS:=by
 intro r H X W Γ k e d C h
 cases e with
 |BoolOp op es p=>
  match es with
  |[]=>cases h
  |[a]=>
   cases op with
   |And=>exact JJ (H.t C h)
   |Or=>exact UD (H.t C h)
  |a::b::l=>
   obtain⟨f,h1,h⟩:=bnd h
   obtain⟨g,h2,h⟩:=bnd h
   cases h
   cases op with
   |And=>exact Yc (H.t C h1) (H.w C h2)
   |Or=>exact z0e (H.t C h1) (H.w C h2)
 |_=>cases h
noncomputable def Je:IR:=λr Γ e=>match e with
 |.Call (.Name x _) as [] _=>gd (x == ("range":Str)&&(idx Γ.N x).isNone&&as.all noStar) (match Γ.look x with
  |.none=>(match as with
   |[a]=>(r.e Γ a).bind λf=>some (uU f)
   |[a,b]=>(r.e Γ a).bind λf=>(r.e Γ b).bind λg=>some (Jk f g)
   |[a,b,c]=>(r.e Γ a).bind λf=>(r.e Γ b).bind λg=>(r.e Γ c).bind λh=>some (X7 f g h)
   |_=>none)
  |_=>none)
 |_=>none
theorem WO{D:DP}:IOk D Je:=by
 intro r H X W Γ k tg e d C ht h
 unfold Je at h
 split at h
 ·rename_i x p0 as pos
  have hh:=zo h
  clear h
  obtain⟨hb,h⟩:=hh
  simp only[Bool.and_eq_true] at hb
  obtain⟨⟨h0,h2⟩,h3⟩:=hb
  have h0:=beq_iff_eq.mp h0
  subst h0
  cases hl:Γ.look "range" with
  |none=>
   obtain⟨hx,hg⟩:=qj hl (by intro z;cases z)
   simp only[hl] at h
   match as with
   |[]=>cases h
   |[a]=>
    simp only[List.all_cons,Bool.and_eq_true] at h3
    obtain⟨f,h1,h⟩:=bnd h
    cases h
    exact Jg C hx hg h3.1 (H.e C h1)
   |[a,b]=>
    simp only[List.all_cons,Bool.and_eq_true] at h3
    obtain⟨f,h1,h⟩:=bnd h
    obtain⟨g,h4,h⟩:=bnd h
    cases h
    exact Wj C hx hg h3.1 h3.2.1 (H.e C h1) (H.e C h4)
   |[a,b,c]=>
    simp only[List.all_cons,Bool.and_eq_true] at h3
    obtain⟨f,h1,h⟩:=bnd h
    obtain⟨g,h4,h⟩:=bnd h
    obtain⟨g2,h5,h⟩:=bnd h
    cases h
    exact Wa C hx hg h3.1 h3.2.1 h3.2.2.1 (H.e C h1) (H.e C h4) (H.e C h5)
   |_::_::_::_::_=>cases h
  |_=>simp[hl] at h
 ·cases h
noncomputable def riE:IR:=λr Γ e=>(r.e Γ e).bind λf=>some (iE f)
theorem Uu{D:DP}:IOk D riE:=by
 intro r H X W Γ k tg e d C ht h
 obtain⟨f,h1,h⟩:=bnd h
 cases h
 exact J_ (H.e C h1)
noncomputable def Xd:ER:=λr Γ e=>match e with
 |.List es _=>gd (decide (es.length<=room)) ((cEs r Γ es).bind λfs=>some (Qu fs))
 |_=>none
theorem Vv{D:DP}:EOk D Xd:=by
 intro r H X W Γ k e d C h
 cases e with
 |List es p=>
  obtain⟨hl,h⟩:=zo h
  obtain⟨fs,h1,h⟩:=bnd h
  cases h
  exact U6 (of_decide_eq_true hl) (wG H C h1)
 |_=>cases h
noncomputable def Ji:ER:=rB1 "list" WQ false
theorem Wi{D:DP}:EOk D Ji:=xI λC hx hg _ hs ha=>X6 C hx hg (by decide +kernel) (by decide) hs UP ha
noncomputable def uA:ER:=λr Γ e=>match e with
 |.ListComp elt [⟨tg,iter,ifs,z⟩] sc _=>gd (z == 0) (Kn r Γ elt tg iter ifs sc qX)
 |_=>none
theorem W8{D:DP}:EOk D uA:=by
 intro r H X W Γ k e d C h
 unfold uA at h
 split at h
 ·have hh:=zo h
  clear h
  obtain⟨hz,h⟩:=hh
  have hz:=beq_iff_eq.mp hz
  subst hz
  obtain⟨fs,tgt,fi,cs,fe,h1,h2,h3,h4,h5,h6,h7,h8,rfl⟩:=xP h
  exact yt C h1 h2 h4 h5 (H.i C h3.2 h6) (λX' W' C'=>H.e C' h8) (λX' W' C'=>wa H C' h7) (kQ h3.1)
 ·cases h
noncomputable def QQ (r:Rec)(Γ:Cn)(x:Str)(e:Expr):Option De:=match Γ.own.contains x with
 |true=>r.o Γ e
 |false=>r.e Γ e
theorem xG{D:DP}{r:Rec}{X:Cx}{W:XW}{Γ:Cn}{k:Nat}(H:RecOk D r)(C:Ck D W Γ X k){x:Str}{e:Expr}{d:De}(h:QQ r Γ x e=some d):PE X e (rdE D W d):=by
 unfold QQ at h
 cases q:Γ.own.contains x with
 |true=>rw[q] at h;exact H.o C h
 |false=>rw[q] at h;exact H.e C h
noncomputable def X4:SR:=λr Γ s=>match s with
 |.Return o _=>(match o with
  |some e=>(QQ r Γ "return" e).bind λf=>some (zx f)
  |none=>some Xu)
 |_=>none
theorem VV{D:DP}:SOk D X4:=by
 intro r H X W Γ k e d C h
 cases e with
 |Return o p=>
  cases o with
  |none=>cases h;exact KU
  |some e=>
   obtain⟨f,h1,h⟩:=bnd h
   cases h
   exact YM (xG H C.toCk h1)
 |_=>cases h
noncomputable def isCall:Expr->Bool
 |.Call _ _ _ _=>true
 |.Constant _ _ _=>true
 |_=>false
noncomputable def Xv:SR:=λr Γ s=>match s with
 |.Expr e _=>gd (isCall e) ((r.e Γ e).bind λf=>some (ji f))
 |_=>none
theorem J8{D:DP}:SOk D Xv:=by
 intro r H X W Γ k e d C h
 cases e with
 |Expr e p=>
  obtain⟨hb,h⟩:=zo h
  obtain⟨f,h1,h⟩:=bnd h
  cases h
  exact K5 (by cases e<;>first|(simp[isCall] at hb;done)|rfl) (H.e C.toCk h1)
 |_=>cases h
noncomputable def z0I:SR:=λr Γ s=>match s with
 |.If c a b _=>(r.t Γ c).bind λt=>(zt (r.s Γ) a).bind λus=>(zt (r.s Γ) b).bind λvs=>some (sIf t us vs)
 |_=>none
theorem JB{D:DP}:SOk D z0I:=by
 intro r H X W Γ k e d C h
 cases e with
 |If c a b p=>
  obtain⟨t,h1,h⟩:=bnd h
  obtain⟨us,h2,h⟩:=bnd h
  obtain⟨vs,h3,h⟩:=bnd h
  cases h
  exact UX (H.t C.toCk h1) (zP H C h2) (zP H C h3)
 |_=>cases h
noncomputable def yc:Expr->Bool
 |.ListComp _ _ _ _=>true
 |.SetComp _ _ _ _=>true
 |.DictComp _ _ _ _ _=>true
 |_=>false
noncomputable def z03 (r:Rec)(Γ:Cn)(t e:Expr):Option Ds:=gd (nFz Γ t) (match t with
 |.Name x _=>(idx Γ.N x).bind λi=>(match e with
  |.ListComp elt gs sc _=>(match gs with
   |[g]=>gd (g.is_async == 0) ((Kn r Γ elt g.target g.iter g.ifs sc (match Γ.own.contains x with|true=>qX|false=>wt)).bind λf=>some (zf i f))
   |_=>none)
  |e=>gd (!yc e) ((QQ r Γ x e).bind λf=>some (zf i f)))
 |.Tuple es _ _=>gd (Γ.calm&&vn e) ((idxs Γ.N es).bind λis=>(r.e Γ e).bind λf=>some (z0K is f))
 |.Attribute o x _=>(Γ.fld.lookup x).bind λn=>(QQ r Γ x e).bind λf=>(r.e Γ o).bind λgo=>some (uR go n f)
 |.Subscript o b _=>gd (qi b) ((r.e Γ e).bind λf=>(r.e Γ o).bind λgo=>(r.e Γ b).bind λgb=>some (ur go gb f))
 |_=>none)
noncomputable def X3:SR:=λr Γ s=>match s with
 |.Assign ts e _=>(match ts with
  |[t]=>z03 r Γ t e
  |_=>none)
 |_=>none
theorem K8{D:DP}{r:Rec}(H:RecOk D r){X:Cx}{W:XW}{Γ:Cn}{k:Nat}{t e:Expr}{pos:Pos}{d:Ds}(C:Sk D W Γ X k)(h:z03 r Γ t e=some d):PS X (.Assign [t] e pos) (rdS D W d):=by
 have hh0:=zo h
 clear h
 obtain⟨hfz,h⟩:=hh0
 cases t with
 |Name x p=>
  obtain⟨i,hi,h⟩:=bnd h
  have gen:yc e=false->gd (!yc e) ((QQ r Γ x e).bind λf=>some (zf i f))=some d->PS X (.Assign [.Name x p] e pos) (rdS D W d):=λhc h=>by
   obtain⟨_,h⟩:=zo h
   obtain⟨f,h1,h⟩:=bnd h
   cases h
   exact Wq C hi hfz (by cases e<;>first|(simp[yc] at hc;done)|rfl) (xG H C.toCk h1)
  cases e with
  |ListComp elt gs sc pc=>
   match gs with
   |[]=>cases h
   |_::_::_=>cases h
   |[⟨tg,iter,ifs,z⟩]=>
    have hh:=zo h
    clear h gen
    obtain⟨hz,h⟩:=hh
    have hz:z=0:=beq_iff_eq.mp hz
    subst hz
    obtain⟨f,h1,h⟩:=bnd h
    cases h
    obtain⟨fs,tgt,fi,cs,fe,q1,q2,q3,q4,q5,q6,q7,q8,rfl⟩:=xP h1
    have he:(match Γ.own.contains x with|true=>qX|false=>wt) (z6 tg).length fs tgt fi cs fe=(match Γ.own.contains x with|true=>qX (z6 tg).length fs tgt fi cs fe|false=>wt (z6 tg).length fs tgt fi cs fe):=by cases Γ.own.contains x<;>rfl
    have key:∀bb,swapsWith (.ListComp elt [⟨tg,iter,ifs,0⟩] sc pc) (some (.Name x p)) pos.line X.env=pure bb->PS X (.Assign [.Name x p] (.ListComp elt [⟨tg,iter,ifs,0⟩] sc pc) pos) (rdS D W (zf i (match Γ.own.contains x with|true=>qX (z6 tg).length fs tgt fi cs fe|false=>wt (z6 tg).length fs tgt fi cs fe))):=λbb hsw=>by
     cases bb with
     |true=>exact JC C q1 hi hfz q2 q4 q5 (H.i C.toCk q3.2 q6) (λX' W' C'=>H.e C' q8) (λX' W' C'=>wa H C' q7) (kQ q3.1) _ hsw
     |false=>
      refine Wq C hi hfz hsw ?_
      cases Γ.own.contains x with
      |true=>exact yt C.toCk q1 q2 q4 q5 (H.i C.toCk q3.2 q6) (λX' W' C'=>H.e C' q8) (λX' W' C'=>wa H C' q7) (kQ q3.1)
      |false=>exact ZZ C.toCk q1 q2 q4 q5 (H.i C.toCk q3.2 q6) (λX' W' C'=>H.e C' q8) (λX' W' C'=>wa H C' q7) (kQ q3.1)
    rw[he]
    exact key _ rfl
  |SetComp _ _ _ _=>cases h
  |DictComp _ _ _ _ _=>cases h
  |_=>exact gen rfl h
 |Tuple es kk p=>
  obtain⟨hb,h⟩:=zo h
  simp only[Bool.and_eq_true] at hb
  obtain⟨is,h1,h⟩:=bnd h
  obtain⟨f,h2,h⟩:=bnd h
  cases h
  exact Ub C hb.1 hb.2 h1 hfz (H.e C.toCk h2)
 |Attribute o x p=>
  obtain⟨n,h1,h⟩:=bnd h
  obtain⟨f,h2,h⟩:=bnd h
  obtain⟨go,h3,h⟩:=bnd h
  cases h
  exact Uz C (lookup_mem h1) (xG H C.toCk h2) (H.e C.toCk h3)
 |Subscript o b p=>
  obtain⟨hb,h⟩:=zo h
  obtain⟨f,h1,h⟩:=bnd h
  obtain⟨go,h2,h⟩:=bnd h
  obtain⟨gb,h3,h⟩:=bnd h
  cases h
  exact Ya C hb (H.e C.toCk h1) (H.e C.toCk h2) (H.e C.toCk h3)
 |_=>cases h
theorem VB{D:DP}:SOk D X3:=by
 intro r H X W Γ k e d C h
 cases e with
 |Assign ts e p=>
  match ts with
  |[]=>cases h
  |[t]=>exact K8 H C h
  |_::_::_=>cases h
 |_=>cases h
noncomputable def Xq:SR:=λr Γ s=>match s with
 |.For tg it b els _=>gd (Γ.calm&&qh it&&els.isEmpty&&WK tg it&&nFz Γ tg) ((qe Γ.N tg).bind λtgt=>(r.i Γ it).bind λfi=>(zt (r.s Γ) b).bind λvs=>some (uy tgt fi vs))
 |_=>none
theorem VO{D:DP}:SOk D Xq:=by
 intro r H X W Γ k e d C h
 cases e with
 |For tg it b els p=>
  obtain⟨hb,h⟩:=zo h
  simp only[Bool.and_eq_true] at hb
  obtain⟨tgt,h1,h⟩:=bnd h
  obtain⟨fi,h2,h⟩:=bnd h
  obtain⟨vs,h3,h⟩:=bnd h
  cases h
  cases els with
  |nil=>exact Y1 C hb.1.1.1.1 h1 hb.2 (H.i C.toCk hb.1.2 h2) (zP H C h3) (kQ hb.1.1.1.2)
  |cons _ _=>simp at hb
 |_=>cases h
noncomputable def X9:SR:=λr Γ s=>match s with
 |.While c b els _=>gd els.isEmpty ((r.t Γ c).bind λt=>(zt (r.s Γ) b).bind λvs=>some (jX t vs))
 |_=>none
theorem WZ{D:DP}:SOk D X9:=by
 intro r H X W Γ k e d C h
 cases e with
 |While c b els p=>
  obtain⟨hb,h⟩:=zo h
  obtain⟨t,h1,h⟩:=bnd h
  obtain⟨vs,h3,h⟩:=bnd h
  cases h
  cases els with
  |nil=>exact V9 C (H.t C.toCk h1) (zP H C h3)
  |cons _ _=>simp at hb
 |_=>cases h
noncomputable def KJ:Stmt->Option Expr
 |.Raise (some e) none _=>some e
 |_=>none
theorem ZE{s:Stmt}{e:Expr}(h:KJ s=some e):∃p,s=.Raise (some e) none p:=by
 unfold KJ at h
 split at h
 ·cases h;exact⟨_,rfl⟩
 ·cases h
noncomputable def yS:Expr->Option (Str×List Expr)
 |.Call (.Name x _) as [] _=>some (x,as)
 |_=>none
theorem jN{e:Expr}{q:Str×List Expr}(h:yS e=some q):∃p0 p1,e=.Call (.Name q.1 p0) q.2 [] p1:=by
 unfold yS at h
 split at h
 ·cases h;exact⟨_,_,rfl⟩
 ·cases h
noncomputable def V4:SR:=λr Γ s=>(KJ s).bind λe=>(yS e).bind λq=>gd (Γ.calm&&(idx Γ.N q.1).isNone&&!q.2.isEmpty) ((cEs r Γ q.2).bind λfs=>(match Γ.look q.1 with
  |.xcl c=>some (uZ c fs)
  |_=>none))
theorem Vd{D:DP}:SOk D V4:=by
 intro r H X W Γ k e d C h
 unfold V4 at h
 obtain⟨e',h0,h⟩:=bnd h
 obtain⟨⟨x,as⟩,h2,h⟩:=bnd h
 obtain⟨p2,rfl⟩:=ZE h0
 obtain⟨p0,p1,rfl⟩:=jN h2
 obtain⟨hb,h⟩:=zo h
 simp only[Bool.and_eq_true] at hb
 cases as with
 |nil=>exact absurd hb.2 (by simp)
 |cons a as=>
  obtain⟨fs,h1,h⟩:=bnd h
  cases hl:Γ.look x with
  |xcl c=>
   simp only[hl] at h
   cases h
   obtain⟨hx,hg⟩:=qj hl (by intro z;cases z)
   exact Vh C hb.1.1 hx hg (wG H C.toCk h1)
  |_=>simp[hl] at h
noncomputable def hdl (r:Rec)(Γ:Cn):ExceptHandler->Option (List Nat×Option Nat×List Ds)
 |.ExceptHandler t nm suite _=>(match t with
  |some (.Name x _)=>gd ((idx Γ.N x).isNone&&Γ.G.contains x&&!suite.isEmpty&&(match Γ.gl x with|.xcl c=>Γ.cls.lookup x == some c&&Nat.blt c 40|.xcf c _=>Γ.cls.lookup x == some c&&Nat.blt c 40|_=>false)) ((Γ.cls.lookup x).bind λc=>(zt (r.s {Γ with calm:=false}) suite).bind λvs=>(match nm with
   |none=>some ([c],none,vs)
   |some e=>gd (!Γ.cel.contains e) ((idx Γ.N e).bind λj=>some ([c],some j,vs))))
  |_=>none)
theorem VS{D:DP}{r:Rec}(H:RecOk D r){Γ:Cn}{k:Nat}:∀{hs:List ExceptHandler} {gs:List (List Nat×Option Nat×List Ds)},zt (hdl r Γ) hs=some gs->K9 D Γ k hs gs
 |[],gs,h=>by cases h;trivial
 |.ExceptHandler t nm suite p::hs,gs,h=>by
  obtain⟨g,h1,h⟩:=bnd h
  obtain⟨gs',h2,h⟩:=bnd h
  cases h
  have ih:=VS (k:=k) H h2
  cases t with
  |none=>cases h1
  |some t=>
   cases t with
   |Name x p0=>
    have q0:=zo h1
    clear h1
    obtain⟨hb,q1⟩:=q0
    simp only[Bool.and_eq_true] at hb
    have q2:=bnd q1
    clear q1
    obtain⟨c,hc,q3⟩:=q2
    have q4:=bnd q3
    clear q3
    obtain⟨vs,hv,h1⟩:=q4
    have hcok:HcOk Γ x c:=by
     refine⟨by simpa using hb.1.1.2,lookup_mem hc,?_⟩
     have h4:=hb.2
     rw[hc] at h4
     cases hg:Γ.gl x with
     |xcl c'=>
      simp only[hg,Bool.and_eq_true] at h4
      have:c=c':=Option.some.inj (beq_iff_eq.mp h4.1)
      rw[this];exact⟨.inr rfl,Nat.blt_eq.mp h4.2⟩
     |xcf c' f=>
      simp only[hg,Bool.and_eq_true] at h4
      have:c=c':=Option.some.inj (beq_iff_eq.mp h4.1)
      rw[this];exact⟨.inl ⟨f,rfl⟩,Nat.blt_eq.mp h4.2⟩
     |_=>rw[hg] at h4;cases h4
    have hne:=hb.1.2
    clear hb
    have h1':=h1
    clear h1
    have h1:=h1'
    clear h1'
    cases suite with
    |nil=>simp at hne
    |cons b0 suite=>
     cases nm with
     |none=>
      cases h1
      exact⟨⟨_,_,_,_,_,_,_,_,_,rfl,rfl,hcok,trivial,λX' C'=>zP H C' hv⟩,ih⟩
     |some e=>
      obtain⟨he,h1⟩:=zo h1
      obtain⟨j,hj,h1⟩:=bnd h1
      cases h1
      exact⟨⟨_,_,_,_,_,_,_,_,_,rfl,rfl,hcok,⟨hj,by simpa using he⟩,λX' C'=>zP H C' hv⟩,ih⟩
   |_=>cases h1
noncomputable def Xf:SR:=λr Γ s=>match s with
 |.Try b hs els fin _=>gd (Γ.calm&&!hs.isEmpty&&els.isEmpty&&fin.isEmpty) ((zt (r.s Γ) b).bind λus=>(zt (hdl r Γ) hs).bind λgs=>some (UA us gs))
 |_=>none
theorem Vk{D:DP}:SOk D Xf:=by
 intro r H X W Γ k e d C h
 cases e with
 |Try b hs els fin p=>
  obtain⟨hb,h⟩:=zo h
  simp only[Bool.and_eq_true] at hb
  obtain⟨us,h1,h⟩:=bnd h
  obtain⟨gs,h2,h⟩:=bnd h
  cases h
  cases els with
  |cons _ _=>simp at hb
  |nil=>
   cases fin with
   |cons _ _=>simp at hb
   |nil=>
    cases hs with
    |nil=>simp at hb
    |cons h0 hs=>exact XD C hb.1.1.1 (λX' W' C'=>zP H C' h1) (VS H h2)
 |_=>cases h
structure MdOk(D:DP)(P:Program)(w:World)(K:PySem.W.Frag)(mg:Str->Option Value)(base:Heap)(Γ:Cn)(k:Nat):Prop where
 hK:K=D.K
 glo:∀x∈Γ.U,GlOkM D P w K mg base k x (Γ.gl x)/\(x == ("__debug__":Str))=false
 isi:∀t x c,(x,c)∈Γ.cls->∀u v,yF D t u->ju mg x v->PySem.W.kitOne K u v=some (qb t c)
 fld:∀c C x f,D.cad c=some C->(x,f)∈Γ.fld->D.fn f=some x/\Cls K C/\NoAttr K C x
 xcx:∀c C,D.adr c=some C->XCls K C
 ocx:∀c C,D.cad c=some C->OCls K C
 clv:∀x c,(x,c)∈Γ.cls->∃u v,ju mg x u/\ClsV v u
 xmt:∀t x c,(x,c)∈Γ.cls->c<40->∀Ct Cc,D.adr t=some Ct->mg x=some (.ref Cc)->PySem.W.exmOne K (.ref Ct) (.ref Cc)=some (qb t c)
noncomputable def W7(Γ:Cn)(ps:List Str)(sc:Scope):Bool:=
 (sc.kind == .function)&&!sc.isCoroutine&&!sc.isGenerator&&decide (Γ.N.Nodup)&&(Γ.N.take ps.length == ps)&&sc.names.all (λy=>y.2 != .free)&&
 Γ.N.all (λx=>x != ("__debug__":Str)&&x != ("__classdict__":Str)&&(if Γ.cel.contains x then sc.names.lookup x == some .cell else sc.names.lookup x == some .local))&&
 Γ.G.all (λx=>Γ.U.contains x&&sc.names.lookup x == some .globalImplicit)&&Γ.cel.all (λx=>Γ.N.contains x)&&Γ.calm
theorem xn{X:Cx}{W:XW}{e:Value}{s:Shared}(p:XP X W e s):X.A.frames=some X.stack:=by
 obtain⟨_,_,_,_,_,_,_,_,I,_⟩:=p
 exact I.ok.frames
theorem Qr:∀(ts:List T) (n:Nat),K7 ts n=ts.map some++List.replicate n none
 |[],n=>by
  have:∀n,pad n=List.replicate n none:=λn=>by
   induction n with
   |zero=>rfl
   |succ n ih=>show none::pad n=_;rw[ih];rfl
  exact this n
 |t::r,n=>by show some t::K7 r n=_;rw[Qr r n];rfl
section
variable {D:DP}{P:Program}{w:World}{K:PySem.W.Frag}{mg:Str->Option Value}{base:Heap}{Γ:Cn}{k n:Nat}
theorem Zg{φ α:List Addr}{H:Hp}{N:List Str}{ts:List T}{vs:List V}(d:DenL D φ α H ts vs):SRel D φ α H (K7 ts (N.length-ts.length)) (L2.start N vs):=by
 have hl:=d.length
 rw[Qr]
 refine⟨by simp[L2.start,hl],λi t e=>?_⟩
 by_cases hi:i<ts.length
 ·rw[List.getElem?_append_left (by simpa using hi),List.getElem?_map] at e
  cases q:ts[i]? with
  |none=>rw[q] at e;cases e
  |some t'=>
   rw[q] at e
   have e:some (some t')=some (some t):=e
   cases e
   obtain⟨v,hv,dv⟩:=d.get q
   refine⟨v,?_,dv⟩
   unfold L2.start
   rw[List.getElem?_append_left (by rw[List.length_map,←hl];exact hi),List.getElem?_map,hv]
   rfl
 ·rw[List.getElem?_append_right (by simpa using hi),List.getElem?_replicate] at e
  split at e<;>cases e
noncomputable def kno (X:Cx)(f:Str->Bool):Cx:={X with fn:=f}
theorem Ul{X:Cx}{f g:Str->Bool}(hf:∀x,f x=true->g x=true)(ok:(kno X g).Ok):(kno X f).Ok:=⟨ok.mod,ok.kind,ok.glob,ok.blt,ok.above,ok.inj,ok.has,λx c e=>ok.cab x c (hf x e),ok.hd,ok.frames,ok.stk,ok.exf,ok.bs,ok.bsz,ok.noex,ok.exfs,ok.funs,ok.frf⟩
theorem jh{X:Cx}{f g:Str->Bool}{pins:List (Addr×Obj)}{σ:St}{H:Hp}{s:Shared}(hf:∀x,f x=true->g x=true)(I:Inv (kno X g) pins σ H s):Inv (kno X f) pins σ H s:=
 ⟨Ul hf I.ok,I.os,I.bare,I.base,I.loc,I.cell,I.free,λx c e=>(I.freeC x c e).imp id λz=>⟨Bool.eq_false_iff.mpr λq=>Bool.noConfusion ((hf x q).symm.trans (show g x=false from z.1)),z.2⟩,I.pin,I.hok,I.len⟩
theorem Yn{X:Cx}{f g:Str->Bool}{W:XW}{e:Value}{s:Shared}(hf:∀x,f x=true->g x=true)(p:XP (kno X g) W e s):XP (kno X f) W e s:=by
 obtain⟨x,cls,d,σ,H,T,fl,a,I,b,c,r,r2,r3⟩:=p
 exact⟨x,cls,d,σ,H,T,fl,a,jh hf I,⟨b.free,b.loc,b.nfs,b.new,b.cel,b.pin⟩,λt ht=>let b:=c t ht;⟨b.free,b.loc,b.nfs,b.new,b.cel,b.pin⟩,r,r2,r3⟩
theorem uL{X:Cx}{f g:Str->Bool}{pins:List (Addr×Obj)}{E:Ends}{fl:Flow}{s:Shared}(hf:∀x,f x=true->g x=true)(h:SP (kno X g) pins E fl s):SP (kno X f) pins E fl s:=by
 cases fl with
 |ret v=>obtain⟨v,σ',H',I',r⟩:=h;exact⟨v,σ',H',jh hf I',r⟩
 |_=>obtain⟨σ',H',I',r⟩:=h;exact⟨σ',H',jh hf I',r⟩
theorem ZL{D:DP}{W:XW}{X:Cx}{f:Str->Bool}{b2:List Stmt}{ds2:List Ds}(h2:j4 (kno X f) D W b2 ds2):∀{b1:List Stmt} {ds1:List Ds},j4 (kno X λ_=>true) D W b1 ds1->
  ∀(pins:List (Addr×Obj)) (s:Shared) (σ:St) (H:Hp) (E:Ends),Inv (kno X λ_=>true) pins σ H s->rdS D W (zY (ds1++ds2)) E σ H->wpAny (model X.prog X.w) X.A (execs (b1++b2) X.env) (SP (kno X f) pins E) X.xe s
 |[],[],_,pins,s,σ,H,E,I,q=>zW h2 pins s σ H E (jh (λ_ _=>rfl) I) q
 |st::r,u::us,h,pins,s,σ,H,E,I,q=>by
  obtain⟨φ,α,τ,μ,sr,mr,Q,q,h3,h4,h5,h6,h7⟩:=q
  refine wpAny_execs_cons (thn (h.1 pins s σ H {E with nx:=λσ' H'=>rdS D W (zY (us++ds2)) E σ' H'} I ⟨φ,α,τ,μ,sr,mr,_,q,λτ1 μ1 e α' H' σ' st m sr'=>?_,h4,h5,h6,h7⟩) λfl s1 z=>?_)
  ·exact⟨φ,α',τ1,μ1,sr',m,PostS.step ⟨Q,e,h3,h4,h5,h6,h7⟩ st⟩
  ·cases fl with
   |next=>
    obtain⟨σ',H',I',q'⟩:=z
    exact ZL h2 h.2 pins s1 σ' H' E I' q'
   |ret v=>exact uL (fl:=.ret v) (E:=E) (λ_ _=>rfl) z
   |brk=>exact uL (fl:=.brk) (E:=E) (λ_ _=>rfl) z
   |cont=>exact uL (fl:=.cont) (E:=E) (λ_ _=>rfl) z
 |[],_::_,h,_,_,_,_,_,_,_=>h.elim
 |_::_,[],h,_,_,_,_,_,_,_=>h.elim
theorem VH{R:Rules}(HR:RulesOk D R){f:Addr}{name qual:Str}{params:Arguments}{body b1 b2:List Stmt}{scope:Scope}{dV kV doc pm cdv ct oc:Value}{an od:Option Addr}{osl:Array (Option Value)}{ps:List Str}{m:Nat}{ds1 ds2:List Ds}
    (M:MdOk D P w K mg base Γ k) (lk:K.lookup f=some ⟨oc,od,.func (PySem.W.fnOf name qual params body scope dV kV doc pm an cdv ct),osl⟩) (hcd:PySem.W.codeIn K cdv qual=true) (hs:W7 Γ ps scope=true) (hm:Γ.N.length=ps.length+m) (hbo:body=b1++b2) (hd1:zt ((comp R n).s {Γ with fz:=[]}) b1=some ds1) (hds:zt ((comp R n).s Γ) b2=some ds2) (hlam:LamOk D mg base cdv (qual++".<locals>.") k Γ.lam:=by exact LamOk.no rfl) :
    FnOk P w K mg base (CX1 P w) (k+1) f (PySem.W.fnOf name qual params body scope dV kV doc pm an cdv ct) ps (spN D ps.length (fnW ps.length m (ds1++ds2))):=by
  subst hbo
  simp only[W7,Bool.and_eq_true,List.all_eq_true,beq_iff_eq,Bool.not_eq_true',decide_eq_true_eq,bne_iff_ne,ne_eq] at hs
  obtain⟨⟨⟨⟨⟨⟨⟨⟨⟨h1,h2⟩,h3⟩,h4⟩,h5⟩,h6⟩,h7⟩,h8⟩,h9⟩,h10⟩:=hs
  have kin:∀x∈Γ.N,(Γ.cel.contains x=true/\scope.names.lookup x=some .cell)\/(Γ.cel.contains x=false/\scope.names.lookup x=some .local):=λx hx=>by
    have q:=(h7 x hx).2
    cases hc:Γ.cel.contains x with
    |true=>rw[hc,if_pos rfl] at q;exact .inl ⟨rfl,beq_iff_eq.mp q⟩
    |false=>rw[hc] at q;exact .inr ⟨rfl,beq_iff_eq.mp q⟩
  have loc:∀x∈Γ.N,scope.names.lookup x=some .local\/scope.names.lookup x=some .cell:=λx hx=>(kin x hx).elim (λz=>.inr z.2) λz=>.inl z.2
  have S:FnScope Γ.N ps scope:=⟨h1,h2,h3,h4,h5,λx hx=>loc x (by rw[←h5] at hx;exact List.mem_of_mem_take hx),h6⟩
  refine Xg (fnb:=λx=>!Γ.fz.contains x) lk hcd S (λvs H Q E q=>q.1) λA outer s H vs Q E hr hsp hfree=>?_
  obtain⟨hl,φ,α,ts,μ,d,mr,K0,Z0,⟨hle,q⟩,hk0,hz0⟩:=hsp
  generalize hX:Zn (CX1 P w) P w K mg base Γ.N qual scope f cdv A outer s H E (λx=>!Γ.fz.contains x)=X
  have F:Frm X (envOfC qual scope s.heap.objs.size f cdv) outer s.heap.objs.size:=by rw[←hX];exact⟨rfl,rfl,rfl⟩
  have hfn:X.fn=λx=>!Γ.fz.contains x:=by rw[←hX];rfl
  have CK:∀(l:List Str),(∀x∈l,x∈Γ.fz)->Sk D (wOf E) {Γ with fz:=l} (kno (X.wish (XP X (wOf E))) λx=>!l.contains x || !Γ.fz.contains x) k:=λl hl'=>by
    have xe:∀e s,XP (kno (X.wish (XP X (wOf E))) λx=>!l.contains x || !Γ.fz.contains x) (wOf E) e s->XP X (wOf E) e s:=λe s p=>by
      have p2:XP (kno (X.wish (XP X (wOf E))) λx=>!Γ.fz.contains x) (wOf E) e s:=Yn (λx hx=>by rw[hx,Bool.or_true]) p
      exact we (show XP (X.wish (XP X (wOf E))) (wOf E) e s by rw[←hfn] at p2;exact p2)
    have pso:PassesOwn (model X.prog X.w) X.A X.env (XP X (wOf E)):=λe s p=>vF F (xn p) e s p
    subst hX
    exact { hK := M.hK,hN := rfl,nd := h4,vis := fun x hx => (loc x hx).elim .inl fun z => .inr (.inl z),dbg := fun x hx => ⟨beq_eq_false_iff_ne.mpr (h7 x hx).1.1,beq_eq_false_iff_ne.mpr (h7 x hx).1.2⟩,
            dbG:=λx hx=>(M.glo x (by simpa using (h8 x hx).1)).2,glb:=λx hx=>(h8 x hx).2,glo:=λx hx=>(M.glo x (by simpa using (h8 x hx).1)).1,glU:=M.glo,
            cel:=λx hx=>.inl ((kin x (by simpa using h9 x hx)).elim (λz=>z.2) λz=>by have:=z.1;rw[List.contains_iff_mem.mpr hx] at this;cases this),
            isi:=M.isi,fld:=M.fld,xcx:=M.xcx,ocx:=M.ocx,clv:=M.clv,clm:=λ_=>rfl,rom:=λ_=>hr,rmh:=⟨hr.dp,hr.un⟩,xe:=xe,frm:=⟨_,_,_,F.stk,F.f0,F.fe⟩,lam:=hlam,kfz:=λ_ x hx=>⟨by show (!l.contains x || !Γ.fz.contains x)=false;rw[List.contains_iff_mem.mpr hx,List.contains_iff_mem.mpr (hl' x hx)];rfl,λc e=>(hfree x c e).1⟩,
            sto:=λx hx=>by
              obtain⟨z1,z2⟩:=List.mem_filter.mp hx
              exact⟨loc x z1,.inl (by show (!l.contains x || _)=true;rw[show (!l.contains x)=true from z2];rfl)⟩,lcl:=λx hx hc=>(kin x hx).elim (λz=>by rw[z.1] at hc;cases hc) λz=>z.2,pso:=pso,xmt:=M.xmt}
  have B:PSs X (b1++b2) (λE1 σ1 H1=>(∀y c,X.env.cells.lookup y=some c->X.s₀.heap.objs.size<=c/\H1 c=none)/\rdS D (wOf E) (zY (ds1++ds2)) E1 σ1 H1):=λpins s1 σ1 H1 E1 I1 ⟨hf,q⟩=>by
    have I2:Inv (kno (X.wish (XP X (wOf E))) λ_=>true) pins σ1 H1 s1:=by
      have J:=I1.wish (XP X (wOf E))
      subst hX
      exact⟨⟨J.ok.mod,J.ok.kind,J.ok.glob,J.ok.blt,J.ok.above,J.ok.inj,J.ok.has,λx c _ e=>(hf x c e).1,J.ok.hd,J.ok.frames,J.ok.stk,J.ok.exf,J.ok.bs,J.ok.bsz,J.ok.noex,J.ok.exfs,J.ok.funs,J.ok.frf⟩,J.os,J.bare,J.base,J.loc,J.cell,J.free,λx c e=>.inl (hf x c e).2,J.pin,J.hok,J.len⟩
    have C1:=zP (qm HR n) (CK [] (by simp)) hd1
    have C2:=zP (qm HR n) (CK Γ.fz λ_ h=>h) hds
    have e1:(λx=>!([]:List Str).contains x || !Γ.fz.contains x)=λ_=>true:=by funext x;rfl
    have e2:(λx=>!Γ.fz.contains x || !Γ.fz.contains x)=X.fn:=by rw[hfn];funext x;exact Bool.or_self _
    rw[e1] at C1
    rw[e2] at C2
    refine wpAny_mono (ZL (X:=X.wish (XP X (wOf E))) C2 C1 pins s1 σ1 H1 E1 I2 q) (λf s' q=>SP.unwish q) λe s' p=>?_
    have p:XP X (wOf E) e s':=p
    have:=Vg (M:=model X.prog X.w) (F2:=λe' s''=>CX1 X.prog X.w X.outer X.H₀ X.s₀ E e' s'') F (xn p) (by rw[←hX];rfl) p
    subst hX
    exact this
  have hmm:Γ.N.length-ts.length=m:=by omega
  refine⟨_,B,by rw[←hX];exact hfree,φ,α,_,μ,Zg d,mr,{nx:=λ_ μ1=>K0 .non μ1,rt:=K0,bk:=λ_ _=>False,ct:=λ_ _=>False,ex:=λc fs _ μ1=>Z0 c fs μ1},by rw[hmm];exact q,λ_ μ1 z α' H' σ' st m _=>hk0 _ _ z α' H' st m .non rfl,λ_ _ z=>z.elim,λ_ _ z=>z.elim,λt μ1 z α' H' v st m dv=>hk0 _ _ z α' H' st m v dv,λc fs _ μ1 z α' H' σ' C1 dd st m _ ad xd=>hz0 c fs μ1 z α' H' C1 dd st m ad xd⟩
theorem ZC{R:Rules}(HR:RulesOk D R){f:Addr}{name qual:Str}{params:Arguments}{body:List Stmt}{scope:Scope}{dV kV doc pm cdv ct oc:Value}{an od:Option Addr}{osl:Array (Option Value)}{ps:List Str}{m:Nat}{ds:List Ds}
  (M:MdOk D P w K mg base Γ k) (lk:K.lookup f=some ⟨oc,od,.func (PySem.W.fnOf name qual params body scope dV kV doc pm an cdv ct),osl⟩) (hcd:PySem.W.codeIn K cdv qual=true) (hs:W7 Γ ps scope=true) (hm:Γ.N.length=ps.length+m) (hds:zt ((comp R n).s Γ) body=some ds) (hlam:LamOk D mg base cdv (qual++".<locals>.") k Γ.lam:=by exact LamOk.no rfl) :
  FnOk P w K mg base (CX1 P w) (k+1) f (PySem.W.fnOf name qual params body scope dV kV doc pm an cdv ct) ps (spN D ps.length (fnW ps.length m ds)):=VH (b1:=[]) (ds1:=[]) HR M lk hcd hs hm rfl rfl hds hlam
theorem Qg{n m:Nat}{ds:List Ds}:∀ts μ K Z,fnW n m ds ts μ K Z->ts.length=n:=λ_ _ _ _ h=>h.1
end
noncomputable def Wx:PySem.W.Frag->Bool
 |[]=>true
 |p::r=>(match p.2.cls with|.type t=>t != "list" | _=>true)&&Wx r
theorem Q4:∀{K:PySem.W.Frag} {a:Addr} {o:Obj},Wx K=true->K.lookup a=some o->o.cls≠.type "list"
 |[],_,_,_,h=>by cases h
 |(b,p)::r,a,o,hn,h=>by
  simp only[Wx,Bool.and_eq_true] at hn
  rw[List.lookup_cons] at h
  cases q:a == b with
  |true=>
   rw[q] at h
   cases h
   intro e
   have h1:=hn.1
   rw[e] at h1
   exact absurd h1 (by decide)
  |false=>rw[q] at h;exact Q4 hn.2 h
noncomputable def Qp(K:PySem.W.Frag):Sp:=λvs H Q _=>∃(a:Addr) (ns:List Int),vs=[.ref a]/\SqL K H a (ns.map V.int)/\ns.length<=63/\∀H',Q (.bl true) H'
theorem kP{D:DP}{φ α:List Addr}{H:Hp}:∀(ns:List Int),DenL D φ α H (ns.map T.int) (ns.map V.int)
 |[]=>rfl
 |n::r=>⟨.int n,r.map V.int,rfl,rfl,kP r⟩
noncomputable def Tells(f:Fn):Prop:=∀ns:List Int,ns.length<=63->f [.lst (ns.map T.int)] [] (λt _=>t=.bl true) (λ_ _ _=>False)
theorem Xy{D:DP}{P:Program}{w:World}{K:PySem.W.Frag}{mg:Str->Option Value}{base:Heap}{k:Nat}{fa:Addr}{fd:FuncData}{x:Str}{f:Fn}(hl:Wx K=true)(ht:Tells f)
  (F:FnOk P w K mg base (CX1 P w) k fa fd [x] (spN D 1 f)):FnOk P w K mg base (CX1 P w) k fa fd [x] (Qp K):=by
 refine F.imp ?_
 rintro vs H Q E ⟨a,ns,rfl,hs,hn,q⟩
 have r:Rd H a (.lst (ns.map V.int)):=by
  rcases hs with r|⟨o,its,n,h1,h2,_⟩
  ·exact r
  ·exact absurd h2 (Q4 hl h1)
 refine⟨rfl,[],[],[.lst (ns.map T.int)],[],⟨.ref a,[],rfl,⟨a,_,rfl,by simp,by simp,r,kP ns⟩,rfl⟩,MRel.nil D (by simp),_,_,ht ns hn,?_,?_⟩
 ·rintro t μ rfl α' H' st m v d
  have d:v=.bl true:=d
  rw[d]
  exact q H'
 ·exact λ_ _ _ z=>z.elim
theorem walk{l:PySem.W.OpenLaw}{q:Program}{loose:List Str}{XP:(Str->Option Value)->Heap->Prop}{YP:World->Heap->Prop}{d:DefRec}{K:Params->PySem.W.Frag}{x:Str}{k:Nat}(hk:k<=40)(hn:l.most=some 63)(hdf:d.params.defaults=[])
  (hY:∀(w:World) (h:Heap),YP w h->(K w.params).In h)
  (F:∀(w:World) (mg:Str->Option Value) (fa:Addr) (h:Heap),(K w.params).In h->h.Ns mainGlobals mg->mg d.name=some (.ref fa)->
   ∃fd:FuncData,(∀(s:Shared) (u:Value),BindsTo s fd ⟨[u],[]⟩ [(x,u)])/\∀base:Heap,(K w.params).In base->base.Ns mainGlobals mg->FnOk l.prog w (K w.params) mg base (CX1 l.prog w) k fa fd [x] (Qp (K w.params))) :
  PySem.W.WalkO q loose XP YP l.row.toRowW d [] (λf vs=>PySem.call f vs):=
 L2.walk_of (n:=63) (k:=k) (x:=x) (CX:=λw=>CX1 l.prog w) (sp:=λw=>Qp (K w.params)) hn (by decide) hdf (Room.mono (k:=40) ⟨rfl,by decide,by decide⟩ hk) hY F (λ_ _ a ns hl _ hS=>⟨a,ns,rfl,hS,hl,λ_=>rfl⟩) λ_ _ _ _ _ z=>by
  obtain⟨_,_,_,_,_,_,_,_,_,_,_,_,_,_,_,z⟩:=z
  exact z
noncomputable def FLD:List Str:=["moments","houses","counts","start","turns","holder","lease","until","is_cut","shape","grants","house","begin","end","ahead","stride","keeper","mark","newest","batches","has_fallen","clock","kept","common","given","now","seats","world","line","by"]
theorem Ux:FLD.Nodup:=by decide +kernel
structure Ads where
 xs:List (Nat×Addr)
 cs:List (Nat×Addr)
noncomputable def mkD (K:PySem.W.Frag)(A:Ads)(clo:Nat->Addr->Option HO->List V->Prop)(tabs:Nat->Option (Addr×List Pos×Str):=λ_=>none):DP:=⟨K,λc=>A.xs.lookup c,λc=>A.cs.lookup c,λi=>FLD[i]?,λi j x h1 h2=>vv Ux h1 h2,clo,tabs⟩
noncomputable def cn (cls fld:List (Str×Nat))(gs:List (Str×GM))(N G cel own:List Str)(lam:Option (Nat×List Pos):=none):Cn where
 N:=N
 G:=G
 calm:=true
 gl:=λx=>(gs.lookup x).getD .bad
 cls:=cls
 fld:=fld
 U:=gs.map (·.1)
 cel:=cel
 own:=own
 lam:=lam
noncomputable def tys(A:Ads):List (Nat×Value):=[(0,.type "NoneType"),(1,.type "bool"),(2,.type "int"),(3,.type "str"),(4,.type "tuple"),(5,.type "list"),(6,.type "dict")]++(A.xs.map λp=>(p.1,Value.ref p.2))++A.cs.map λp=>(p.1,Value.ref p.2)
noncomputable def J9(K:PySem.W.Frag)(c:Str):Option Value:=match PySem.W.nsIn K mainGlobals c with
 |some (some v)=>some v
 |some none=>if c == ("__name__":Str) then none else bootBuiltins c
 |none=>none
noncomputable def z0k:Value->Bool
 |.ref _=>true
 |.type _=>true
 |_=>false
noncomputable def isC(o:Option (Option Value))(s:String):Bool:=match o with
 |some (some (.builtin x))=>x == s
 |_=>false
theorem yl{o:Option (Option Value)}{s:String}(h:isC o s=true):o=some (some (.builtin s)):=by
 unfold isC at h
 split at h
 ·rw[beq_iff_eq.mp h]
 ·cases h
noncomputable def WE(o:Option (Option Value)):Bool:=match o with
 |some none=>true
 |_=>false
theorem x_{o:Option (Option Value)}(h:WE o=true):o=some none:=by
 unfold WE at h
 split at h
 ·rfl
 ·cases h
noncomputable def isB(o:Option Bool)(b:Bool):Bool:=match o with|some c=>c == b|none=>false
theorem jT{o:Option Bool}{b:Bool}(h:isB o b=true):o=some b:=by
 cases o with
 |none=>cases h
 |some c=>have:(c == b)=true:=h;rw[beq_iff_eq.mp this]
noncomputable def JP (K:PySem.W.Frag)(C:Addr):Bool:=isC (PySem.W.findIn K (.ref C) "__class__") "object.__class__"&&isC (PySem.W.specialIn K (.builtin "object.__class__") "__get__") "getset_descriptor.__get__"&&isB (PySem.W.takesIn K (.builtin "object.__class__")) true&&isB (PySem.W.mroIn K C (.type "object")) true
noncomputable def Xa(K:PySem.W.Frag)(C:Addr):Bool:=JP K C&&isC (PySem.W.findIn K (.ref C) "__getattribute__") "BaseException.__getattribute__"&&WE (PySem.W.findIn K (.ref C) "__getattr__")&&isB (PySem.W.mroIn K C (.type "BaseException")) true&&(PySem.W.clsIn K C).isSome
noncomputable def Xs(K:PySem.W.Frag)(C:Addr):Bool:=JP K C&&PySem.W.plainGet K C Str.empty&&PySem.W.hasDictIn K C&&PySem.W.plainOver K C&&isC (PySem.W.findIn K (.ref C) "__setattr__") "object.__setattr__"
noncomputable def chk (K:PySem.W.Frag)(A:Ads)(cls fld:List (Str×Nat)):Bool:=
 cls.all (λp=>match J9 K p.1 with
  |some v=>z0k v&&(tys A).all (λq=>isB (PySem.W.kitOne K q.2 v) (qb q.1 p.2))&&(Nat.ble 40 p.2 || (match v with|.ref C=>A.xs.all (λq=>isB (PySem.W.exmOne K (.ref q.2) (.ref C)) (qb q.1 p.2))|_=>true))
  |none=>false)&&
 A.xs.all (λq=>Xa K q.2)&&A.cs.all (λq=>Xs K q.2&&fld.all (λp=>WE (PySem.W.findIn K (.ref q.2) p.1)))&&fld.all (λp=>match FLD[p.2]? with|some x=>x == p.1|none=>false)
theorem kc{K:PySem.W.Frag}{h:Heap}{mg:Str->Option Value}{c:Str}{v:Value}(X:K.In h)(G:h.Ns mainGlobals mg)(e:J9 K c=some v):ju mg c v/\∀u,ju mg c u->u=v:=by
 unfold J9 at e
 split at e
 ·rename_i v' q
  cases e
  have m:=PySem.W.mg_of X G q
  refine⟨.inl m,λu z=>?_⟩
  rcases z with z|⟨z,_⟩
  ·rw[m] at z;cases z;rfl
  ·rw[m] at z;cases z
 ·rename_i q
  have m:=PySem.W.mg_none_of X G q
  split at e
  ·cases e
  ·rename_i hn
   refine⟨.inr ⟨m,e,λz=>hn (by rw[z];rfl)⟩,λu z=>?_⟩
   rcases z with z|⟨_,z,_⟩
   ·rw[m] at z;cases z
   ·rw[e] at z;cases z;rfl
 ·cases e
theorem zM{α β:Type}[BEq α][LawfulBEq α]{x:α}{v:β}:∀{l:List (α×β)},l.lookup x=some v->(x,v)∈l
 |[],h=>by cases h
 |(y,w)::r,h=>by
  rw[List.lookup_cons] at h
  cases q:x == y with
  |true=>rw[q] at h;cases h;rw[beq_iff_eq.mp q];exact List.mem_cons_self
  |false=>rw[q] at h;exact List.mem_cons_of_mem _ (zM h)
theorem lookup_some{α:Type}{x:Str}:∀{l:List (Str×α)},x∈l.map (·.1)->∃v,l.lookup x=some v
 |[],h=>by simp at h
 |(y,w)::r,h=>by
  rw[List.lookup_cons]
  cases q:x == y with
  |true=>exact⟨w,rfl⟩
  |false=>
   rcases List.mem_cons.mp h with z|z
   ·have z:x=y:=z
    rw[z] at q;simp at q
   ·exact lookup_some z
section
variable {P:Program}{w:World}{K:PySem.W.Frag}{mg:Str->Option Value}{base:Heap}{A:Ads}{clo:Nat->Addr->Option HO->List V->Prop}{cls fld:List (Str×Nat)}{gs:List (Str×GM)}{N G cel own:List Str}{k:Nat}{lam:Option (Nat×List Pos)}{tabs:Nat->Option (Addr×List Pos×Str)}
theorem Yk{t:Nat}{u:Value}(h:yF (mkD K A clo tabs) t u):(t,u)∈tys A:=by
 unfold tys
 rcases h with⟨rfl,rfl⟩|⟨rfl,rfl⟩|⟨rfl,rfl⟩|⟨rfl,rfl⟩|⟨rfl,rfl⟩|⟨rfl,rfl⟩|⟨C,h,rfl⟩|⟨rfl,rfl⟩|⟨C,h,rfl⟩
 ·simp
 ·simp
 ·simp
 ·simp
 ·simp
 ·simp
 ·exact List.mem_append_left _ (List.mem_append_right _ (List.mem_map.mpr ⟨(t,C),zM h,rfl⟩))
 ·simp
 ·exact List.mem_append_right _ (List.mem_map.mpr ⟨(t,C),zM h,rfl⟩)
noncomputable def GsOk (P:Program)(w:World)(K:PySem.W.Frag)(mg:Str->Option Value)(base:Heap)(A:Ads)(clo:Nat->Addr->Option HO->List V->Prop)(k:Nat)(gs:List (Str×GM))(tabs:Nat->Option (Addr×List Pos×Str):=λ_=>none):Prop:=∀p∈gs,GlOkM (mkD K A clo tabs) P w K mg base k p.1 p.2/\(p.1 == ("__debug__":Str))=false
theorem GlOkM.mono{D:DP}{j k:Nat}{x:Str}{g:GM}(h:j<=k)(q:GlOkM D P w K mg base j x g):GlOkM D P w K mg base k x g:=by
 cases g with
 |fn f=>obtain⟨fa,a,fd,ps,kk,b,c,d,r⟩:=q;exact⟨fa,a,fd,ps,kk,b,c,Nat.le_trans d h,r⟩
 |fnh nm f=>obtain⟨fa,a,fd,ps,kk,b,c,d,r⟩:=q;exact⟨fa,a,fd,ps,kk,b,c,Nat.le_trans d h,r⟩
 |met c nm f=>obtain⟨C,fI,fd,ps,kk,a,b,c,d,e,f1,r⟩:=q;exact⟨C,fI,fd,ps,kk,a,b,c,d,e,Nat.le_trans f1 h,r⟩
 |mk c z f=>obtain⟨C,fI,fd,ps,kk,a,b,c,d,e,r⟩:=q;exact⟨C,fI,fd,ps,kk,a,b,c,d,Nat.le_trans e h,r⟩
 |xin c f nm fl=>obtain⟨C,HE,fI,fd,ps,kk,a1,a2,a3,a4,a5,a6,r⟩:=q;exact⟨C,HE,fI,fd,ps,kk,a1,a2,a3,a4,a5,Nat.le_trans a6 h,r⟩
 |mkd c nm n f=>obtain⟨C,fI,fd,ps,kk,a,b,c,d,e,r⟩:=q;exact⟨C,fI,fd,ps,kk,a,b,c,d,Nat.le_trans e h,r⟩
 |metd c nm n d f=>obtain⟨C,fI,fd,ps,kk,du,dv,a1,a2,a3,a4,a5,a6,a7,a8,r⟩:=q;exact⟨C,fI,fd,ps,kk,du,dv,a1,a2,a3,a4,a5,a6,a7,Nat.le_trans a8 h,r⟩
 |kap ls=>exact⟨λj l ts φ α H v e d=>let ⟨a,kk,h1,h3,h4⟩:=q.1 j l ts φ α H v e d;⟨a,kk,h1,Nat.le_trans h3 h,h4⟩,q.2⟩
 |kpr=>exact⟨λt φ α H v hj d=>let ⟨a,kk,h1,h2,h3⟩:=q.1 t φ α H v hj d;⟨a,kk,h1,Nat.le_trans h2 h,h3⟩,q.2⟩
 |_=>exact q
theorem GsOk.mono{j k:Nat}(h:j<=k)(q:GsOk P w K mg base A clo j gs tabs):GsOk P w K mg base A clo k gs tabs:=λp hp=>⟨(q p hp).1.mono h,(q p hp).2⟩
theorem GsOk.add {x:Str} {g:GM} (q:GsOk P w K mg base A clo k gs tabs) (h:GlOkM (mkD K A clo tabs) P w K mg base k x g) (hx:(x == ("__debug__":Str))=false):GsOk P w K mg base A clo k ((x,g)::gs) tabs:=λp hp=>by
 rcases List.mem_cons.mp hp with rfl|z
 ·exact⟨h,hx⟩
 ·exact q p z
noncomputable def Qm(bs:List Str)(xs:List (Str×Nat))(ys:List (Str×Nat×Nat)):List (Str×GM):=bs.map (λx=>(x,GM.none))++xs.map (λx=>(x.1,GM.xcl x.2))++ys.map (λx=>(x.1,GM.xcf x.2.1 x.2.2))
noncomputable def atA(K:PySem.W.Frag)(A:Ads)(x:Str)(c:Nat):Bool:=match A.xs.lookup c,PySem.W.nsIn K mainGlobals x with
 |some C,some (some (.ref C'))=>C == C'
 |_,_=>false
noncomputable def Wr(K:PySem.W.Frag)(A:Ads)(bs:List Str)(xs:List (Str×Nat))(ys:List (Str×Nat×Nat)):Bool:=
 bs.all (λx=>x != ("__debug__":Str)&&WE (PySem.W.nsIn K mainGlobals x))&&
 xs.all (λx=>x.1 != ("__debug__":Str)&&atA K A x.1 x.2)&&ys.all (λx=>x.1 != ("__debug__":Str)&&atA K A x.1 x.2.1)
theorem VX{x:Str}{c:Nat}(X:K.In base)(Gm:base.Ns mainGlobals mg)(h:atA K A x c=true):∃C,A.xs.lookup c=some C/\mg x=some (.ref C):=by
 unfold atA at h
 split at h
 ·rename_i C C' q1 q2
  have h:C=C':=beq_iff_eq.mp h
  subst h
  exact⟨C,q1,PySem.W.mg_of X Gm q2⟩
 ·cases h
noncomputable def XOkL (K:PySem.W.Frag)(A:Ads):List (Str×Nat)->Prop
 |[]=>True
 |p::r=>(∃C,A.xs.lookup p.2=some C/\PySem.W.excIn K C zz "ValueError.__new__"=true)/\XOkL K A r
theorem XOkL.at:∀{xs:List (Str×Nat)} {p:Str×Nat},XOkL K A xs->p∈xs->∀C,A.xs.lookup p.2=some C->PySem.W.excIn K C zz "ValueError.__new__"=true
 |q::r,p,h,hp,C,e=>by
  rcases List.mem_cons.mp hp with rfl|z
  ·obtain⟨C',e',x⟩:=h.1
   rw[e'] at e;cases e;exact x
  ·exact XOkL.at h.2 z C e
theorem uN{bs:List Str}{xs:List (Str×Nat)}{ys:List (Str×Nat×Nat)}(X:K.In base)(Gm:base.Ns mainGlobals mg)(h:Wr K A bs xs ys=true)(hX:XOkL K A xs):GsOk P w K mg base A clo k (Qm bs xs ys) tabs:=by
 simp only[Wr,Bool.and_eq_true,List.all_eq_true,bne_iff_ne,ne_eq] at h
 intro p hp
 rcases List.mem_append.mp hp with z|z
 ·rcases List.mem_append.mp z with z|z
  ·obtain⟨x,hx,rfl⟩:=List.mem_map.mp z
   obtain⟨h1,h2⟩:=h.1.1 x hx
   exact⟨PySem.W.mg_none_of X Gm (x_ h2),beq_eq_false_iff_ne.mpr h1⟩
  ·obtain⟨x,hx,rfl⟩:=List.mem_map.mp z
   obtain⟨h1,h2⟩:=h.1.2 x hx
   obtain⟨C,q1,q2⟩:=VX X Gm h2
   exact⟨⟨C,q1,q2,XOkL.at hX hx C q1⟩,beq_eq_false_iff_ne.mpr h1⟩
 ·obtain⟨x,hx,rfl⟩:=List.mem_map.mp z
  obtain⟨h1,h2⟩:=h.2 x hx
  obtain⟨C,q1,q2⟩:=VX X Gm h2
  exact⟨⟨C,q1,q2⟩,beq_eq_false_iff_ne.mpr h1⟩
theorem Xi(X:K.In base)(Gm:base.Ns mainGlobals mg)(hc:chk K A cls fld=true)(q:GsOk P w K mg base A clo k gs tabs):MdOk (mkD K A clo tabs) P w K mg base (cn cls fld gs N G cel own lam) k:=by
 simp only[chk,Bool.and_eq_true,List.all_eq_true] at hc
 obtain⟨⟨⟨c1,c2⟩,c3⟩,c4⟩:=hc
 have cb:∀{C},JP K C=true->PySem.W.findIn K (.ref C) "__class__"=some (some (.builtin "object.__class__"))/\PySem.W.specialIn K (.builtin "object.__class__") "__get__"=some (some (.builtin "getset_descriptor.__get__"))/\PySem.W.takesIn K (.builtin "object.__class__")=some true/\PySem.W.mroIn K C (.type "object")=some true:=λ{C} h=>by
  simp only[JP,Bool.and_eq_true] at h
  exact⟨yl h.1.1.1,yl h.1.1.2,jT h.1.2,jT h.2⟩
 have oc:∀c C,A.cs.lookup c=some C->OCls K C:=λc C h=>by
  have h':=(c3 _ (zM h)).1
  simp only[Xs,Bool.and_eq_true] at h'
  obtain⟨⟨⟨⟨h1,h2⟩,h3⟩,h4⟩,h5⟩:=h'
  obtain⟨k1,k2,k3,k4⟩:=cb h1
  exact⟨⟨h2,h3,h4,yl h5⟩,k1,k2,k3,k4⟩
 refine⟨rfl,λx hx=>?_,λt x c hxc u v hu hv=>?_,λc C x f hC hf=>?_,λc C hC=>?_,oc,λx c hxc=>?_,λt x c hxc hlt Ct Cc hCt hCc=>?_⟩
 ·obtain⟨g,hg⟩:=lookup_some (l:=gs) hx
  have:=q _ (zM hg)
  refine⟨?_,this.2⟩
  show GlOkM _ P w K mg base k x ((gs.lookup x).getD .bad)
  rw[hg]
  exact this.1
 ·have h':=c1 _ hxc
  dsimp only at h'
  split at h'
  ·rename_i v' q'
   simp only[Bool.and_eq_true,List.all_eq_true] at h'
   have e:=(kc X Gm q').2 v hv
   subst e
   exact jT (h'.1.2 _ (Yk hu))
  ·cases h'
 ·have h':=c4 _ hf
  dsimp only at h'
  refine⟨?_,(oc c C hC).cl,x_ ((c3 _ (zM hC)).2 _ hf)⟩
  split at h'
  ·rename_i y hy
   show FLD[f]?=some x
   rw[hy,beq_iff_eq.mp h']
  ·cases h'
 ·have h':=c2 _ (zM hC)
  simp only[Xa,Bool.and_eq_true] at h'
  obtain⟨⟨⟨⟨h1,h2⟩,h3⟩,h4⟩,h5⟩:=h'
  obtain⟨k1,k2,k3,k4⟩:=cb h1
  exact⟨yl h2,x_ h3,k1,k2,k3,k4,jT h4,h5⟩
 ·have h':=c1 _ hxc
  dsimp only at h'
  split at h'
  ·rename_i v q'
   simp only[Bool.and_eq_true] at h'
   have hcv:=h'.1.1
   refine⟨v,(match v with|.ref C=>V.ref C|.type n=>V.ty n|_=>V.non),(kc X Gm q').1,?_⟩
   cases v with
   |ref C=>exact .inl ⟨C,rfl,rfl⟩
   |type n=>exact .inr ⟨n,rfl,rfl⟩
   |_=>cases hcv
  ·cases h'
 ·have h':=c1 _ hxc
  dsimp only at h'
  split at h'
  ·rename_i v q'
   simp only[Bool.and_eq_true,Bool.or_eq_true] at h'
   have e:=(kc X Gm q').2 (.ref Cc) (.inl hCc)
   subst e
   have h3:=h'.2.resolve_left (λz=>by have:=Nat.le_of_ble_eq_true z;omega)
   simp only[List.all_eq_true] at h3
   exact jT (h3 _ (zM hCt))
  ·cases h'
end
noncomputable abbrev eB2(op:T->T->Mem->RE T)(f g:De):De:=λτ μ=>(f τ μ).bind λx μ1=>(g τ μ1).bind λy μ2=>op x y μ2
noncomputable abbrev uf(x y:T)(μ:Mem):RE T:=match x,y with
 |.int a,.int b=>.ok (.int (if b<a then b else a)) μ
 |_,_=>.st
section
variable {X:Cx}{D:DP}{W:XW}{Γ:Cn}{k:Nat}{pins:List (Addr×Obj)}{s:Shared}{σ:St}{H:Hp}{φ α:List Addr}{τ:Sl}{μ:Mem}{f g h:De}{a b c:Expr}{pos:Pos}{es:List Expr}
noncomputable def B2 (X:Cx)(D:DP)(W:XW)(fv:Value)(op:T->T->Mem->RE T):Prop:=
 ∀(pins:List (Addr×Obj)) (s:Shared) (σ:St) (H:Hp) (φ α:List Addr) (μ:Mem) (t t':T) (v v':V) (u u':Value) (Q:VK),Inv X pins σ H s->MRel D φ α H μ->Den D φ α H t v->Den D φ α H t' v'->RelV v u->RelV v' u'->Post D W φ α H σ (RV D φ Q) (op t t' μ)->
  wpAny (model X.prog X.w) X.A (call fv [u,u']) (EP X pins σ Q) X.xe s
theorem z0q (C:Ck D W Γ X k) {x:Str} {id:String} {op:T->T->Mem->RE T} {p0:Pos} (hx:x∈Γ.G) (hg:Γ.gl x=.none) (hv:bootBuiltins x=some (.builtin id)) (hn:x≠"__name__") (ha':noStar a=true) (hb':noStar b=true) (hB:B2 X D W (.builtin id) op) (ha:PE X a (rdE D W f)) (hb:PE X b (rdE D W g)) :
  PE X (.Call (.Name x p0) [a,b] [] pos) (rdE D W (eB2 op f g)):=by
 have hm:=C.glo _ hx
 rw[hg] at hm
 rintro pins s σ H Q I ⟨φ,α,τ,μ,sr,mr,p⟩
 refine wpAny_Call_Name_kw (qQ I (C.glb _ hx) hm hv ?_ hn (C.dbG _ hx))
 refine PyProof.Rows.callWith_builtin1 (thn (zm ha (zm hb zH (z5 hb')) (z5 ha') pos pins s σ H (λvs H2=>∃v1 v2 t1 t2 μ2 α2,vs=[v1,v2]/\MRel D φ α2 H2 μ2/\Den D φ α2 H2 t1 v1/\Den D φ α2 H2 t2 v2/\Post D W φ α2 H2 σ (RV D φ Q) (op t1 t2 μ2)) I
  ⟨φ,α,τ,μ,sr,mr,p.bind.mono λt1 μ1 α1 H1 st1 m1 q1 v1 d1=>⟨φ,α1,τ,μ1,sr.step st1,m1,q1.bind.mono λt2 μ2 α2 H2 st2 m2 q2 v2 d2=>⟨v1,v2,t1,t2,μ2,α2,rfl,m2,d1.step st2,d2,q2⟩⟩⟩) ?_) (z5 ha') (q9 (by simp[hb']))
 rintro us s1 ⟨vs,H1,I1,rv,v1,v2,t1,t2,μ2,α2,rfl,m,d1,d2,q⟩
 obtain⟨u1,u2,rfl,r1,r2⟩:=vals2 rv
 exact hB pins s1 σ H1 φ α2 μ2 t1 t2 v1 v2 u1 u2 Q I1 m d1 d2 r1 r2 q
theorem YR(hc:X.calm=true):B2 X D W (.builtin "min") uf:=by
 intro pins s σ H φ α μ t t' v v' u u' Q I mr d d' r r' p
 unfold uf at p
 split at p
 ·cases d;cases d'
  obtain⟨t1,rfl⟩:=r
  obtain⟨t2,rfl⟩:=r'
  refine min_two_ints (I.ok.hd hc) λh' tk kp=>?_
  have I1:Inv X pins σ H {s with heap:=h',toks:=tk}:=I.kept kp
  rename_i i j
  by_cases z:j<i
  ·rw[if_pos z] at p ⊢
   exact⟨.int j,H,I1,⟨_,rfl⟩,p.here mr rfl⟩
  ·rw[if_neg z] at p ⊢
   exact⟨.int i,H,I1,⟨_,rfl⟩,p.here mr rfl⟩
 ·exact p.elim
theorem ug:∀{ns:List Str},DenL D φ α H (ns.map T.str) (ns.map V.str)
 |[]=>rfl
 |n::ns=>⟨V.str n,_,rfl,rfl,ug⟩
theorem wH:∀{ts:List T} {ss:List Str} {vs:List V},strsOf ts=some ss->DenL D φ α H ts vs->vs=ss.map V.str
 |[],ss,vs,h,l=>by
  simp[strsOf] at h;subst h;exact l
 |.str x::r,ss,vs,h,l=>by
  obtain⟨v,q,rfl,d,l⟩:=l
  simp only[strsOf,Option.map_eq_some_iff] at h
  obtain⟨zs,h,rfl⟩:=h
  cases d
  rw[wH h l];rfl
end
noncomputable def rB2 (nm:Str)(op:T->T->Mem->RE T):ER:=λr Γ e=>match e with
 |.Call (.Name x _) [a,b] [] _=>gd (x == nm&&(idx Γ.N x).isNone&&noStar a&&noStar b&&Γ.calm) ((r.e Γ a).bind λf=>(r.e Γ b).bind λg=>(match Γ.look x with
  |.none=>some (eB2 op f g)
  |_=>none))
 |_=>none
theorem XX{D:DP}{nm:Str}{op:T->T->Mem->RE T}(H1:∀{X:Cx} {W:XW} {Γ:Cn} {k:Nat} {a b:Expr} {f g:De} {p0 pos:Pos},Ck D W Γ X k->nm∈Γ.G->Γ.gl nm=.none->Γ.calm=true->noStar a=true->noStar b=true->PE X a (rdE D W f)->PE X b (rdE D W g)->PE X (.Call (.Name nm p0) [a,b] [] pos) (rdE D W (eB2 op f g))):EOk D (rB2 nm op):=by
 intro r H X W Γ k e d C h
 unfold rB2 at h
 split at h
 ·rename_i x p0 a b pos
  have hh:=zo h
  clear h
  obtain⟨hb,h⟩:=hh
  simp only[Bool.and_eq_true,beq_iff_eq] at hb
  obtain⟨⟨⟨⟨rfl,h2⟩,h3⟩,h4⟩,h5⟩:=hb
  obtain⟨f,h1,h⟩:=bnd h
  obtain⟨g,h6,h⟩:=bnd h
  cases hl:Γ.look x with
  |none=>
   simp only[hl] at h
   cases h
   obtain⟨hx,hg⟩:=qj hl (by intro z;cases z)
   exact H1 C hx hg h5 h3 h4 (H.e C h1) (H.e C h6)
  |_=>simp[hl] at h
 ·cases h
noncomputable def Xn:ER:=rB2 "min" uf
theorem V2{D:DP}:EOk D Xn:=XX λC hx hg hc h1 h2 ha hb=>z0q C hx hg (by decide +kernel) (by decide) h1 h2 (YR (C.clm hc)) ha hb
noncomputable abbrev JM(c:Nat)(g:Fn)(ts:List T)(μ:Mem):RE T:=λK Z=>g (.mut μ.length::ts) (μ++[.obj c []]) (λr μ1=>r=.non/\K (.mut μ.length) μ1) Z
noncomputable abbrev z1z(c:Nat)(g:Fn)(fs:List De):De:=λτ μ=>(evs fs τ μ).bind (JM c g)
section
variable {X:Cx}{pins:List (Addr×Obj)}{s:Shared}{σ:St}{H:Hp}
theorem qA{x:Addr}{o:HO}(I:Inv X pins σ H s)(ox:XOk X H x)(hp:∀p∈pins,p.1≠x)(hx:ObjOk X.prog X.w (upd H x o) s.heap x o):Inv X pins σ (upd H x o) s:=by
 have ne:∀b,H b≠none->b≠x:=λb h z=>h (by rw[z];exact ox.free)
 refine⟨I.ok,I.os,I.bare,⟨I.base.keep,I.base.slot,λb o e n hx'=>?_,I.base.there,λb xs e=>?_,λb o u e=>?_,λb ps e=>?_⟩,I.loc,I.cell,?_,λy c e=>?_,λp hp'=>?_,λb ob e=>?_,I.len⟩
 ·have:b≠x:=λz=>by
   rcases ox.new with q|q
   ·exact hx' (by rw[z];exact q)
   ·rw[←z,e] at q;cases q
  rw[z8 this];exact I.base.free b o e n hx'
 ·have q:=I.base.tups b xs e
  rw[z8 (ne b (by rw[q];simp))];exact q
 ·have q:=I.base.frzs b o u e
  rw[z8 (ne b (by rw[q];simp))];exact q
 ·obtain⟨more,q⟩:=I.base.tbls b ps e
  exact⟨more,by rw[z8 (ne b (by rw[q];simp))];exact q⟩
 ·rw[z8 (Ne.symm ox.loc)];exact I.free
 ·rw[z8 (ox.cel y c e)];exact I.freeC y c e
 ·obtain⟨e,n,r⟩:=I.pin p hp'
  have:p.1≠x:=(List.mem_append.mp hp').elim (ox.pin p) (hp p)
  exact⟨e,by rw[z8 this];exact n,r⟩
 ·by_cases z:b=x
  ·subst z
   rw[z7] at e
   cases e
   exact hx
  ·rw[z8 z] at e
   exact (I.hok b ob e).stay (λ_ _ _ q=>q) (λc q=>by
    by_cases w:c=x
    ·rw[w,ox.free] at q;cases q
    ·rw[z8 w];exact q) λc _ q=>by
    by_cases w:c=x
    ·rw[w,ox.free] at q;cases q
    ·rw[z8 w];exact q
end
end NH
namespace L2
open PySem PySem.Spec PyProof.Rows
section
variable {X:Cx}{pins:List (Addr×Obj)}{σ:St}{H:Hp}{s:Shared}{a:Addr}{y v:V}{u r:Value}{o:Option V}{A:Around}{E:Value->Shared->Prop}
theorem Inv.big(I:Inv X pins σ H s):sysModules<s.heap.objs.size:=by
 have h:mainGlobals<s.heap.objs.size:=(I.mod.glob.keeps I.bk).lt
 exact Nat.lt_trans (by decide) h
end
theorem Jo{P:Program}{w:World}{H:Hp}(h:Heap)(hb:sysModules<h.objs.size):ObjOk P w H (h.push {cls:=.type "dict",data:=.dict #[]}) h.objs.size (.dK []):=
 ⟨Nat.zero_le _,beq_eq_false_iff_ne.mpr (Ne.symm (Nat.ne_of_lt hb)),[],.nil,Heap.DictOf.new h⟩
noncomputable def Yd:TE:=λ_ H Q=>∀p,H p=none->Q (.ref p) (upd H p (.dK []))
section
variable {X:Cx}{pos:Pos}
theorem WW:PE X (.Dict [] [] pos) Yd:=λpins s σ H Q I h=>
 wpAny_Dict_empty ⟨.ref s.heap.objs.size,_,I.laid (a:=s.heap.objs.size) (o:=.dK []) (t':=s.toks) (λ_ _ q=>Heap.get?_push_of_some _ q) (Nat.le_refl _) (Jo s.heap I.big),rfl,h _ (I.hok.fresh (Nat.le_refl _))⟩
end
end L2
namespace NH
open PySem PySem.Spec PyProof.Rows L2
noncomputable abbrev ZG:De:=λ_ μ=>.ok (.dic []) μ
noncomputable abbrev z1A(o f g:De):De:=λτ μ=>(o τ μ).bind λot μ1=>match ot with
 |.mut i=>λK Z=>(∃ts,μ1[i]?=some (.lst ts))/\f τ μ1 (λkt μ2=>g τ μ2 (λt μ3=>match kt with
  |.int k=>∃ts,μ3[i]?=some (.lst ts)/\(0<=k/\k<=ts.length/\ts.length<room)/\K .non (μ3.set i (.lst (ts.take k.toNat++t::ts.drop k.toNat)))
  |_=>False) Z) Z
 |_=>.st
section
variable {X:Cx}{D:DP}{W:XW}{Γ:Cn}{k:Nat}{pins:List (Addr×Obj)}{s:Shared}{σ:St}{H:Hp}{φ α:List Addr}{τ:Sl}{μ:Mem}{f g:De}{a b:Expr}{pos:Pos}
theorem KP:PE X (.Dict [] [] pos) (rdE D W ZG):=by
 refine PE.mono WW ?_
 rintro σ H Q ⟨φ,α,τ,μ,sr,mr,p⟩
 intro x hx
 exact Post.fresh p mr (zd hx) ⟨x,[],rfl,zj mr hx,zh mr hx,z7,rfl⟩
end
noncomputable def WV:ER:=λ_ _ e=>match e with
 |.Dict [] [] _=>some ZG
 |_=>none
theorem Wu{D:DP}:EOk D WV:=by
 intro r H X W Γ k e d C h
 unfold WV at h
 split at h
 ·cases h;exact KP
 ·cases h
end NH
namespace NH.P
open PySem L2 NH
@[reducible] noncomputable def jr:List Ds:=[(zx (Jj (jF [2] (eV 0)) (Um (jF [1] (eV 0)))))]
noncomputable def vo:Fn:=fnW 1 0 jr
@[reducible] noncomputable def vN:List Ds:=[(sIf (tOr (vx (tE (jF [3] (eV 0)))) (vx (tE (eCh (eC (.int 1)) [(.LtE,(eB1 wO (eV 0))),(.LtE,(eC (.int 8)))])))) [(zx (eC (.bl false)))] []),(zx (eB1 Jm (wt 1 [] (.one 0) (iE (eV 0)) [] (zI .In (eV 0) (eC (.str "abcdefghijklmnopqrstuvwxyz"))))))]
noncomputable def qw:Fn:=fnW 1 0 vN
@[reducible] noncomputable def xr:List Ds:=[(zx (Jj (z9 vo [(eV 0)]) (zI .GtE (eV 0) (eC (.int 1)))))]
noncomputable def wo:Fn:=fnW 1 0 xr
@[reducible] noncomputable def jE:List Ds:=[(zx (Jj (z9 vo [(eV 0)]) (eCh (eC (.int 0)) [(.LtE,(eV 0)),(.Lt,(eV 1))])))]
noncomputable def jK:Fn:=fnW 2 0 jE
@[reducible] noncomputable def wZ:List Ds:=[(sIf (vx (xU (tE (z9 wo [(eV 1)])) (xU (tE (z9 wo [(eV 2)])) (tE (z9 wo [(eV 3)]))))) [(uZ 12 [(eC (.str "a shape has three whole numbers from 1 on"))])] []),(uR (eV 0) 0 (eV 1)),(uR (eV 0) 1 (eV 2)),(uR (eV 0) 2 (eV 3))]
noncomputable def qI:Fn:=fnW 4 0 wZ
@[reducible] noncomputable def jk:List Ds:=[(zx (za .Mult (za .Mult (Vp (eV 0) 0) (Vp (eV 0) 1)) (Vp (eV 0) 2)))]
noncomputable def qW:Fn:=fnW 1 0 jk
@[reducible] noncomputable def xv:List Ds:=[(zx (z9 jK [(eV 1),(z9 qW [(eV 0)])]))]
noncomputable def j8:Fn:=fnW 2 0 xv
@[reducible] noncomputable def wY:List Ds:=[(zf 1 (eC (.int 1))),(zf 2 (eC (.int 32))),(jX (tE (zI .Lt (eV 2) (eV 0))) [(zf 2 (za .Mult (eV 2) (eC (.int 32)))),(zf 1 (za .Add (eV 1) (eC (.int 1))))]),(zx (eV 1))]
noncomputable def qF:Fn:=fnW 1 2 wY
@[reducible] noncomputable def Q5:List Ds:=[(zx (z9 qF [(z9 qW [(eV 0)])]))]
noncomputable def width:Fn:=fnW 1 0 Q5
@[reducible] noncomputable def vP:List Ds:=[(sIf (tE (zI .Lt (eV 1) (eB1 wO (eV 0)))) [(zx (eIx (eV 0) (eV 1)))] []),(zx (eC (.int 0)))]
noncomputable def qt:Fn:=fnW 2 0 vP
@[reducible] noncomputable def xf:List Ds:=[(zx (Qu [(za .Mult (za .FloorDiv (eV 0) (eC (.int 2))) (za .Sub (eC (.int 1)) (za .Mod (eV 0) (eC (.int 2))))),(za .Mod (eV 0) (eC (.int 2147483647))),(eC (.int 0))]))]
noncomputable def qB:Fn:=fnW 1 0 xf
@[reducible] noncomputable def yr:List Ds:=[(sIf (tE (zI .Gt (eIx (eV 0) (eC (.int 0))) (eC (.int 0)))) [(zf 2 (za .Mod (eIx (eV 0) (eC (.int 0))) (eV 1))),(ur (eV 0) (eC (.int 0)) (za .FloorDiv (eIx (eV 0) (eC (.int 0))) (eV 1))),(zx (eV 2))] []),(ur (eV 0) (eC (.int 2)) (za .Add (eIx (eV 0) (eC (.int 2))) (eC (.int 1)))),(zf 3 (za .Mod (za .Mult (za .Add (za .Add (eIx (eV 0) (eC (.int 1))) (za .Mult (eC (.int 7919)) (eIx (eV 0) (eC (.int 2))))) (eC (.int 1))) (eC (.int 48271))) (eC (.int 2147483647)))),(zf 3 (za .Mod (za .Mult (eV 3) (za .Add (za .FloorDiv (eV 3) (eC (.int 1009))) (eC (.int 69621)))) (eC (.int 2147483647)))),(zf 3 (za .Mod (za .Mult (eV 3) (za .Add (za .FloorDiv (eV 3) (eC (.int 2003))) (eC (.int 40692)))) (eC (.int 2147483399)))),(zx (za .Mod (za .FloorDiv (eV 3) (eC (.int 7))) (eV 1)))]
noncomputable def zk:Fn:=fnW 2 2 yr
@[reducible] noncomputable def Qq:List Ds:=[(zf 1 (za .Add (za .Mult (z9 zk [(eV 0),(za .Pow (eC (.int 10)) (eC (.int 6)))]) (za .Pow (eC (.int 10)) (eC (.int 6)))) (z9 zk [(eV 0),(za .Pow (eC (.int 10)) (eC (.int 6)))]))),(zx (eIx (qy [(z9 zk [(eV 0),(eC (.int 40))]),(z9 zk [(eV 0),(za .Pow (eC (.int 10)) (eC (.int 6)))]),(eV 1)]) (z9 zk [(eV 0),(eC (.int 3))])))]
noncomputable def vg:Fn:=fnW 1 1 Qq
@[reducible] noncomputable def xw:List Ds:=[(zf 1 (qy [(za .Add (eC (.int 1)) (z9 vg [(eV 0)])),(za .Add (eC (.int 1)) (z9 vg [(eV 0)])),(za .Add (eC (.int 1)) (z9 vg [(eV 0)]))])),(sIf (tE (zI .Eq (z9 zk [(eV 0),(eC (.int 5))]) (eC (.int 0)))) [(zf 1 (qy [(eIx (qy [(eC (.int 1)),(eC (.int 32)),(eC (.int 1024)),(eC (.int 32768))]) (z9 zk [(eV 0),(eC (.int 4))])),(eIx (qy [(eC (.int 1)),(eC (.int 32))]) (z9 zk [(eV 0),(eC (.int 2))])),(eC (.int 1))]))] []),(zx (eV 1))]
noncomputable def jg:Fn:=fnW 1 1 xw
@[reducible] noncomputable def um:List Ds:=[(zf 2 (za .Mult (za .Mult (eIx (eV 1) (eC (.int 0))) (eIx (eV 1) (eC (.int 1)))) (eIx (eV 1) (eC (.int 2))))),(zf 3 (z9 zk [(eV 0),(eC (.int 5))])),(sIf (tE (zI .Lt (eV 3) (eC (.int 2)))) [(zx (eIx (qy [(eC (.int 0)),(za .Sub (eV 2) (eC (.int 1)))]) (eV 3)))] []),(zx (za .Mod (za .Add (za .Add (za .Mult (z9 vg [(eV 0)]) (za .Pow (eC (.int 10)) (eC (.int 24)))) (za .Mult (z9 vg [(eV 0)]) (za .Pow (eC (.int 10)) (eC (.int 12))))) (z9 vg [(eV 0)])) (eV 2)))]
noncomputable def k7:Fn:=fnW 2 2 um
end NH.P
namespace NH
open PySem PySem.Spec PyProof.Rows L2
section
variable {X:Cx}{D:DP}{W:XW}{Γ:Cn}{k:Nat}{pins:List (Addr×Obj)}{s:Shared}{σ:St}{H:Hp}{φ α:List Addr}{τ:Sl}{μ:Mem}{f g h:De}{a b c:Expr}{pos:Pos}{es:List Expr}
noncomputable abbrev JZ(c:Str->Str->Prop)(r:Str->Str->T)(o f:De):De:=λτ μ=>(o τ μ).bind λot μ1=>match ot with
 |.str x=>(f τ μ1).bind λt μ2=>match t with
  |.str y=>.grd (c x y) (.ok (r x y) μ2)
  |_=>.st
 |_=>.st
abbrev xO(x y:Str):Prop:=x.length<=room/\(y.length == 0)=false
noncomputable abbrev vL(x y:Str):T:=.lst ((Txt.split x y).map T.str)
noncomputable def M1R (X:Cx)(D:DP)(id:String)(c:Str->Str->Prop)(r:Str->Str->T):Prop:=
 ∀(pins:List (Addr×Obj)) (s:Shared) (σ:St) (H:Hp) (φ α:List Addr) (μ:Mem) (x y:Str) (t u:Tok) (Q:VK),Inv X pins σ H s->MRel D φ α H μ->c x y->(∀v H',vc H H'->Den D φ α H' (r x y) v->Q v H')->
  wpAny (model X.prog X.w) X.A (call (.builtin id) [.str x t,.str y u]) (EP X pins σ Q) X.xe s
theorem XF {o:Expr} {pa pc:Pos} {go:De} {nm:Str} {id:String} {cc:Str->Str->Prop} {rr:Str->Str->T} (slot:Slot "str" nm id) (hty:typeOf (.builtin id)=pure (.type "method_descriptor")) (hM:M1R X D id cc rr) (hp:zJ o=true) (hs:noStar a=true) (hline:(pa.endLine == pc.line)=true) (ho:PE X o (rdE D W go)) (ha:PE X a (rdE D W f)) :
  PE X (.Call (.Attribute o nm pa) [a] [] pc) (rdE D W (JZ cc rr go f)):=by
 have hb:starEach [a] X.env=[(false,eval a X.env)]:=z5 hs
 have mt:MtR X id (λx vs H Q=>∃i j φ α μ,x=.str i/\vs=[.str j]/\MRel D φ α H μ/\cc i j/\∀v H',vc H H'->Den D φ α H' (rr i j) v->Q v H'):=by
  intro pins s σ H x vs v us Q I rx rv h
  obtain⟨i,j,φ,α,μ,rfl,rfl,mr,hc,h⟩:=h
  obtain⟨t0,rfl⟩:=rx
  obtain⟨u,rfl,t1,rfl⟩:=rv.one
  exact hM pins s σ H φ α μ i j t0 t1 Q I mr hc h
 refine PE.mono (ZT PySem.F.plainAttrs_str slot hty mt ho (zm ha zH (z5 hs)) (z_ hp) (by rw[hb];rfl) hline (z5 hs) rfl) ?_
 rintro σ H Q ⟨φ,α,τ,μ,sr,mr,p⟩
 refine⟨φ,α,τ,μ,sr,mr,p.bind.mono λot μ1 α1 H1 st1 m1 q ov dv=>?_⟩
 split at q
 case h_2=>exact q.elim
 have dv:ov=.str _:=dv
 subst dv
 refine⟨rfl,φ,α1,τ,μ1,sr.step st1,m1,q.bind.mono λt μ2 α2 H2 st2 m2 q2 v d=>?_⟩
 split at q2
 case h_2=>exact q2.elim
 obtain⟨hc,q2⟩:=q2.grd
 have d:v=.str _:=d
 subst d
 exact⟨_,_,φ,α2,μ2,rfl,rfl,m2,hc,λw H' sm dw=>q2.fresh m2 sm dw⟩
theorem k_:∀(l:List (Str×Tok)),Vals ((l.map (·.1)).map V.str) (strValues l)
 |[]=>.nil
 |(x,t)::r=>.cons ⟨t,rfl⟩ (k_ r)
open Builtin Builtin.Str in
theorem Qz{A:Around}{P:Program}{w:World}{E:Value->Shared->Prop}{x y:Str}{t u:Tok}{Q:Value->Shared->Prop}(hy:(y.length == 0)=false)(hsz:x.length+2<=sizeLine)
  (h:∀l tk,l.map (·.1)=Txt.split x y->l.length<=sizeLine->Q (.ref s.heap.objs.size) {s with heap:=s.heap.push {cls:=.type "list",data:=.seq (strValues l).toArray},toks:=tk}):wpAny (model P w) A (call (.builtin "str.split") [.str x t,.str y u]) Q E s:=by
 have ho:=StrLaws.occ_length_le x y 0 x.length (x.length+1)
 have hn:(partsBetween x (occurrences x y 0 x.length (x.length+1)) y.length).length<=sizeLine:=by
  rw[length_partsBetween]
  omega
 have one:∀z:Str×Tok,[z].length<=sizeLine:=λz=>by show 1<=sizeLine;decide
 by_cases h1:(decide (x.length<y.length) || decide (strKind x<strKind y))=true
 ·refine call_meets (F.slot_str_split) (typeIs_str s x t) (F.entry_str_split) (F.args_str_split_2 _ _) (meets_str_split_cannot_occur x y t u h1) ?_
  exact h [(x,t)] s.toks (if_pos h1).symm (one _)
 ·have h1:=Bool.eq_false_iff.mpr h1
  by_cases hf:(occurrences x y 0 x.length (x.length+1)).isEmpty=true
  ·refine call_meets (F.slot_str_split) (typeIs_str s x t) (F.entry_str_split) (F.args_str_split_2 _ _) (meets_str_split_not_found x y t u h1 hy hf) ?_
   exact h [(x,t)] s.toks ((if_neg (ne_true_of_eq_false h1)).trans (if_pos hf)).symm (one _)
  ·have hf:=Bool.eq_false_iff.mpr hf
   refine call_meets (F.slot_str_split) (typeIs_str s x t) (F.entry_str_split) (F.args_str_split_2 _ _) (meets_str_split_sep x y t u h1 hy hf (by omega) hn) ?_
   have e:(numbered s.toks (partsBetween x (occurrences x y 0 x.length (x.length+1)) y.length)).map (·.1)=Txt.split x y:=(numbered_texts s.toks (partsBetween x (occurrences x y 0 x.length (x.length+1)) y.length)).trans ((if_neg (ne_true_of_eq_false h1)).trans (if_neg (ne_true_of_eq_false hf))).symm
   have k:=h (numbered s.toks _) (s.toks+(partsBetween x (occurrences x y 0 x.length (x.length+1)) y.length).length) e (by
    have:=congrArg List.length (numbered_texts s.toks (partsBetween x (occurrences x y 0 x.length (x.length+1)) y.length))
    rw[List.length_map] at this
    omega)
   rw[←strsFrom_eq] at k
   exact k
theorem m_split:M1R X D "str.split" xO vL:=by
 intro pins s σ H φ α μ x y t u Q I mr hc h
 refine Qz hc.2 (Nat.le_trans (Nat.add_le_add_right hc.1 2) (by unfold room;decide)) λl tk hl hz=>?_
 have hp:H s.heap.objs.size=none:=I.hok.fresh (Nat.le_refl _)
 refine⟨.ref _,upd H s.heap.objs.size (.lst ((l.map (·.1)).map V.str)),I.laid (t':=tk) (λb u e=>Heap.get?_push_of_some _ e) (Nat.le_refl _) ⟨by simpa using hz,_,0,k_ l,Heap.get?_push_size _ rfl⟩,rfl,h _ _ (zd hp) ?_⟩
 show Den D φ α _ (.lst ((Txt.split x y).map T.str)) _
 rw[←hl]
 exact⟨_,_,rfl,zj mr hp,zh mr hp,.inl z7,ug⟩
noncomputable def Jl:ER:=rM1 "split" (JZ xO vL)
theorem QK{D:DP}:EOk D Jl:=Zr λC hp hs hl ho ha=>XF PySem.F.slot_str_split PySem.F.type_str_split m_split hp hs hl ho ha
end
section
variable {prog:Program}{w:World}{A:Around}{E:Value->Shared->Prop}{h:Heap}{g:Array GenState}{d:Drawn}{t:Nat}{os:OsState}
variable {nm q:Str}{C N:Addr}{bs bm bmB:List Value}{hdct:Bool}{sn:List Str}{sub:List Value}{ab:Bool}{col:Option Bool}{dd:Option Addr}{k0 k1 k2 k3 k5:Option Value}{B newId initId:String}
theorem QJ(F:ExcBaseFacts B newId initId bmB)(T0:OwnTail h bmB bm){mN:Str->Option Value}{us:List Value}{fI:Addr}{oI:Obj}{Q:Fin->Shared->Prop}
  (gC:h.get? C=some (excClassObj nm q C N bs bm hdct sn sub ab col dd k0 k1 k2 k3 k5 newId)) (gN:h.Ns N mN) (gI:mN "__init__"=some (.ref fI)) (gf:h.get? fI=some oI) (gc:oI.cls=.type "function")
  (go:∀h1 x,Heap.MadeExcOf h h1 x (.ref C) us->wpAny (model prog w) A (call (.ref fI) (.ref x::us)) (λr s1=>r=.none/\Q (.done (.ret (.ref x))) s1) E ⟨h1,g,d,t,os⟩) (hus:us.length<=sizeLine) :
  wpAny (model prog w) A (Builtin.«type.__call__» ⟨.ref C::us,[]⟩) Q E ⟨h,g,d,t,os⟩:=by
 repeat (first|(with_reducible refine wpAny_loadPart_at gC ?_)|(with_reducible refine wpAny_madeBy_exc gC ?_)|wp_step)
 refine codeAny_call_builtin_code (Code.quiet_builtin _ F.quiet) (wpAny_check_new_subT F T0 gC (codeAny_exc_new_subT F T0 gC ?_ hus))
 show wpAny _ _ _ _ _ _
 let tu:Obj:={cls:=.type "tuple",data:=.seq us.toArray}
 let xo:Obj:={cls:=.ref C,data:=.fields #[.ref h.objs.size,.none,.none,.none,.bool false,.none]}
 have up:∀b o,h.get? b=some o->((h.push tu).push xo).get? b=some o:=λb o e=>Heap.get?_push_of_some _ (Heap.get?_push_of_some _ e)
 have gC1:=up _ _ gC
 have gf1:=up _ _ gf
 have gN1:((h.push tu).push xo).Ns N mN:=by
  obtain⟨o,es,ep,e,r⟩:=gN
  exact⟨o,es,ep,up _ _ e,r⟩
 have gx:((h.push tu).push xo).get? (h.objs.size+1)=some xo:=by
  have:=Heap.get?_push_size (h.push tu) (o:=xo) rfl
  rw[Heap.size_push] at this
  exact this
 have own:(Value.ref C::bm).contains (.ref C)=true:=by simp
 have T1:OwnTail ((h.push tu).push xo) bmB bm:=T0.keeps up
 unfold isInstance
 repeat (first|(with_reducible refine wpAny_loadPart_at gx ?_)|(with_reducible refine wpAny_isSubtype_exc gC1 ?_;rw[own])|wp_step)
 show wpAny _ _ (typeLookup (.ref C) _) _ _ _
 refine wpAny_typeLookup_tail gC1 gN1 T1 F.mroIs F.init.lookup ?_
 rw[gI]
 refine wpAny_holding (wpAny_bind ?_)
 unfold bindSpecial
 refine wpAny_bind (wpAny_typeOf (T:="function") ⟨_,gf1,gc⟩ ?_)
 rw[if_pos (by decide)]
 have mk:Heap.MadeExcOf h ((h.push tu).push xo) (h.objs.size+1) (.ref C) us:=⟨up,Heap.get?_none_of_le (Nat.le_succ _),h.objs.size,gx,Heap.get?_none_of_le (Nat.le_refl _),Heap.get?_push_of_some _ (Heap.get?_push_at rfl rfl)⟩
 refine wpAny_pure (wpAny_bind (wpAny_mono (go _ _ mk) (λr s1 hr=>?_) λ_ _ z=>z))
 obtain⟨rfl,hr⟩:=hr
 wp_walk
 exact hr
theorem kS(F:ExcBaseFacts B newId initId bmB)(T0:OwnTail h bmB bm){mN:Str->Option Value}{us:List Value}{fI:Addr}{oI:Obj}{Q:Value->Shared->Prop}
  (gC:h.get? C=some (excClassObj nm q C N bs bm hdct sn sub ab col dd k0 k1 k2 k3 k5 newId)) (gN:h.Ns N mN) (gI:mN "__init__"=some (.ref fI)) (gf:h.get? fI=some oI) (gc:oI.cls=.type "function")
  (go:∀h1 x,Heap.MadeExcOf h h1 x (.ref C) us->wpAny (model prog w) (A.under (.builtin "type.__call__" ⟨.ref C::us,[]⟩)) (call (.ref fI) (.ref x::us)) (λr s1=>r=.none/\Q (.ref x) s1) E ⟨h1,g,d,t,os⟩) (hus:us.length<=sizeLine) :
  wpAny (model prog w) A (call (.ref C) us) Q E ⟨h,g,d,t,os⟩:=by
 have i1:=tc_lookup
 have i2:=tc_bind (.ref C)
 have tp:Shared.TypeIs ⟨h,g,d,t,os⟩ (.ref C) "type":=⟨_,gC,rfl⟩
 refine wpAny_call (codeAny_of_tree ?_)
 show wpAny _ _ (callAny (.ref C) _) _ _ _
 repeat (any_goals (first|assumption|(with_reducible refine wpAny_loadPart_at gC ?_)|wp_step))
 refine⟨rfl,codeAny_call_builtin_at (Code.quiet_builtin _ (by decide +kernel)) entry_typeCall (wpAny_check_type_call_sub gC ?_)⟩
 exact QJ F T0 gC gN gI gf gc (λh1 x mk=>go h1 x mk) hus
theorem jD {M:Model} {env:Env} {s:Shared} {x:Sem Value} {Q:Flow->Shared->Prop} (hbase:bm.contains (.type "BaseException")=true) (hh:A.handled=none)
  (go:wpAny M A x (λv s1=>∃e t dx,v=.ref e/\s1.heap.get? C=some (excClassObj nm q C N bs bm hdct sn sub ab col dd k0 k1 k2 k3 k5 newId)/\
   s1.heap.get? e=some {cls:=.ref C,dict:=dx,data:=.fields #[.ref t,.none,.none,.none,.bool false,.none]}/\E (.ref e) s1) E s) :
  wpAny M A (raiseStmt env (some x) none) Q E s:=by
 have isB:(Value.ref C::bm).contains (.type "BaseException")=true:=by rw[List.contains_cons,hbase];simp
 unfold raiseStmt
 refine wpAny_bind (wpAny_mono go (λv s1 k=>?_) λ_ _ z=>z)
 obtain⟨e,t,dx,rfl,gC,ge,gE⟩:=k
 obtain⟨h1,g1,d1,t1,o1⟩:=s1
 repeat (first|(with_reducible refine wpAny_loadPart_at ge ?_)|(with_reducible refine wpAny_loadPart_at gC ?_)|(with_reducible refine wpAny_isSubtype_exc gC ?_;rw[isB])|wp_step)
 exact wpAny_raiseNew_none hh gE
end
section
variable {prog:Program}{w:World}{A:Around}{E:Value->Shared->Prop}{s:Shared}
variable {nm q:Str}{C N:Addr}{bs bm bmB:List Value}{hdct:Bool}{sn:List Str}{sub:List Value}{ab:Bool}{col:Option Bool}{dd:Option Addr}{k0 k1 k2 k3 k5:Option Value}{B newId initId:String}
theorem VF(F:ExcBaseFacts B newId initId bmB)(T0:OwnTail s.heap bmB bm){e:Addr}{ob:Obj}{vs:Array Value}{t0:Addr}{rest:List Value}{Q:Value->Shared->Prop}
  (gC:s.heap.get? C=some (excClassObj nm q C N bs bm hdct sn sub ab col dd k0 k1 k2 k3 k5 newId)) (he:s.heap.get? e=some ob) (hcls:ob.cls=.ref C) (hd:ob.data=.fields vs) (h0:vs[0]?=some (.ref t0))
  (h:Q .none {s with heap:=(s.heap.push {cls:=.type "tuple",data:=.seq rest.toArray}).update e (Obj.mapFields (·.setIfInBounds 0 (.ref s.heap.objs.size)))}) (hrest:rest.length<=sizeLine) :
  wpAny (model prog w) A (call (.builtin initId) (.ref e::rest)) Q E s:=by
 obtain⟨hh,g,d,t,os⟩:=s
 refine wpAny_call (codeAny_call_builtin F.init.plain F.initEntry (wpAny_check_init_subT F T0 gC he hcls ?_))
 unfold Builtin.«BaseException.__init__»
 dsimp only
 rw[if_neg (by simp)]
 unfold newTuple Builtin.BaseException.bexcPut
 have hsz:0<vs.size:=(Array.getElem?_eq_some_iff.mp h0).1
 have he₁:=Heap.get?_push_of_some (h:=hh) {cls:=.type "tuple",data:=.seq rest.toArray} he
 refine wpAny_bind (wpAny_newObj_type (wpAny_bind (wpAny_bind (wpAny_field he₁ hd h0 (wpAny_bind (wpAny_setField he₁ hd hsz ?_))))) (by show rest.toArray.size<=sizeLine;rw[List.size_toArray];exact hrest))
 exact wpAny_letGo (wpAny_pure h)
end
noncomputable def qH:List Value->Bool
 |.ref _::r=>qH r
 |l=>l == zz
theorem qP(self:Value):∀{l:List Value},qH l=true->PySem.refuseLoop self "__setattr__" l=pure ()
 |.ref c::r,e=>by rw[refuseLoop_ref];exact qP self e
 |.type n::r,e=>by rw[show Value.type n::r=zz from beq_iff_eq.mp e];exact PySem.F.store_ValueError.passes self
 |[],e=>by cases e
 |v::r,e=>by
  unfold qH at e
  split at e
  ·rename_i h;cases h;rw[refuseLoop_ref];exact qP self e
  ·rw[beq_iff_eq.mp e];exact PySem.F.store_ValueError.passes self
theorem wN:∀{l:List Value},qH l=true->l.contains (.type "object")=true
 |.ref c::r,e=>by rw[List.contains_cons,wN (l:=r) e,Bool.or_true]
 |[],e=>by cases e
 |v::r,e=>by
  unfold qH at e
  split at e
  ·rename_i h;cases h;rw[List.contains_cons,wN (l:=_) e,Bool.or_true]
  ·rw[beq_iff_eq.mp e];decide
section
variable {prog:Program}{w:World}{A:Around}{E:Value->Shared->Prop}{s:Shared}{K:PySem.W.Frag}{C x:Addr}
theorem K6{ox:Obj}{name:Str}{v:Value}{Q:Unit->Shared->Prop}(X:K.In s.heap)(hx:s.heap.get? x=some ox)(hc:ox.cls=.ref C)(hnc:PySem.W.notCls ox=true)(hd:ox.dict=none)
  (hs:PySem.W.findIn K (.ref C) "__setattr__"=some (some (.builtin "object.__setattr__"))) (hp:((PySem.W.clsIn K C).any λcd=>qH cd.mro)=true) (ht:PySem.W.findIn K (.ref C) name=some none) (hh:PySem.W.hasDictIn K C=true)
  (h:∀h' tk,h'.get? x=some {ox with dict:=some s.heap.objs.size}->h'.Ns1 s.heap.objs.size (λy=>if y=name then some v else none)->(∀b o,b≠x->s.heap.get? b=some o->h'.get? b=some o)->Q () {s with heap:=h',toks:=tk}) :
  wpAny (model prog w) A (setAttr (.ref x) name v) Q E s:=by
 have J:PySem.W.InstAt s.heap x ox C none:=⟨hx,hc,hnc,by rw[hd];trivial⟩
 refine PySem.W.set_plain X J hs ?_
 have SF:=PySem.F.store_object
 obtain⟨cd,hcd,ho⟩:=PySem.W.any_some hp
 obtain⟨cd',hcd',hdict⟩:=PySem.W.any_some hh
 rw[hcd] at hcd'
 cases hcd'
 have ne:cd.mro.isEmpty=false:=by cases q:cd.mro with|nil=>rw[q] at ho;cases ho|cons _ _=>rfl
 have sub:PySem.W.Looks (model prog w) s.heap (isInstance (.ref x) (.type "object")) true:=J.type.andThen (PySem.W.looks_mroIn X (by unfold PySem.W.mroIn;rw[hcd,Option.bind_some,if_neg (by rw[ne];decide),wN ho]))
 refine codeAny_call_builtin SF.slot.plain SF.entry (@PySem.W.check_slot (model prog w) _ _ {s with toks:=s.toks+1} "object.__setattr__" "object" "__setattr__" (.ref x) [.str name s.toks,v] [] _ SF.kind SF.split sub (SF.args (.ref x) (.str name s.toks) v) ?_)
 have hm:PySem.W.Looks (model prog w) s.heap (mroOf (.ref C)) cd.mro:=(PySem.W.looks_clsIn X hcd).andThen .now
 rw[PySem.W.osa_eq,refuse_eq]
 refine wpAny_bind (wpAny_bind (PySem.W.Looks.here (s:={s with toks:=s.toks+1}) J.type (wpAny_bind (PySem.W.Looks.here (s:={s with toks:=s.toks+1}) hm ?_))))
 rw[qP _ ho]
 refine wpAny_pure (wpAny_bind (PySem.W.Looks.here (s:={s with toks:=s.toks+1}) J.type (wpAny_bind (PySem.W.Looks.here (s:={s with toks:=s.toks+1}) (PySem.W.looks_findIn X ht) (wpAny_bind (wpAny_pure ?_))))))
 obtain⟨hh0,g,dr,t,os⟩:=s
 obtain⟨oc,odi,oda,osl⟩:=ox
 dsimp only at hc hd hx
 subst hc hd
 have hnc':∀c,oda≠.cls c:=λc z=>by subst z;cases hnc
 refine wpAny_bind (wpAny_pure (wpAny_bind (wpAny_bind (wpAny_loadPart hx (wpAny_bind (PySem.W.Looks.here (s:=⟨hh0,g,dr,t+1,os⟩) (PySem.W.looks_clsIn X hcd) ?_))))))
 rw[hdict]
 have hx₁:(hh0.push {cls:=.type "dict",data:=.dict #[]}).get? x=some ⟨.ref C,none,oda,osl⟩:=Heap.get?_push_of_some _ hx
 have hxs:x≠hh0.objs.size:=Nat.ne_of_lt (Heap.lt_size hx)
 have go:wpAny (model prog w) A.in1 (do
   let d ←alloc {cls:=.type "dict",data:=.dict #[]}
   update x λo=>{o with dict:=some d}
   dictMade (.ref C) x d) (λa s'=>wpAny (model prog w) A.in1 (match a with
    |some d=>Builtin.ObjectAttr.storeInDict d (.str name t) name v
    |none=>Builtin.ObjectAttr.noDictFor (.ref x) (.ref C) name false) (λfin s'=>match fin with|.done f=>(match (Except.ok f:Result) with|.ok (.ret _)=>Q () s'|.ok _=>False|.error e=>E e s')|.again c'=>c'.quiet=true/\codeAny (model prog w) A c' (λr s'=>match r with|.ok (.ret _)=>Q () s'|.ok _=>False|.error e=>E e s') s') (λe s'=>E e s') s') (λe s'=>E e s') ⟨hh0,g,dr,t+1,os⟩:=by
  refine wpAny_bind (wpAny_alloc' ?_)
  refine wpAny_bind (wpAny_update' hx₁ ?_)
  refine wpAny_pure ?_
  have hgd:((hh0.push {cls:=.type "dict",data:=.dict #[]}).update x λo=>{cls:=o.cls,dict:=some hh0.objs.size,data:=o.data,slots:=o.slots}).get? hh0.objs.size
    = some {cls:=.type "dict",data:=.dict #[]}:=
   (Heap.get?_update_ne _ _ _ _ hxs.symm).trans (Heap.get?_push_at rfl rfl)
  have hnd:((hh0.push {cls:=.type "dict",data:=.dict #[]}).update x λo=>{cls:=o.cls,dict:=some hh0.objs.size,data:=o.data,slots:=o.slots}).Ns hh0.objs.size (λ_=>none):=
   ⟨_,#[],_,hgd,rfl,λe he=>absurd he (by simp),λ_=>rfl⟩
  show wpAny _ _ (Builtin.ObjectAttr.storeInDict hh0.objs.size (.str name t) name v) _ _ _
  unfold Builtin.ObjectAttr.storeInDict Builtin.ObjectAttr.newKeyGuard
  refine wpAny_bind (wpAny_pure (wpAny_bind (wpAny_nsSet1 (Heap.Ns1.of_empty hnd) λh' hn' hs=>?_)))
  obtain⟨oD,esD,epD,hoD,hdD,hcD⟩:=hn'.count (Within.cons name v Within.nil)
  refine wpAny_bind (wpAny_lookBehind hoD (by rw[hdD];exact pastItsLine_dict (Nat.le_trans hcD (by rw[List.length_cons,List.length_nil,sizeLine_eq];omega))) ?_)
  refine wpAny_pure (h h' _ ?_ ?_ ?_)
  ·refine (hs.2 x hxs).trans (Heap.get?_update_self _ hx₁ ?_)
   have hfr:=(Heap.get?_some_iff.mp hx).2
   cases oda<;>first|rfl|exact hfr
  ·obtain⟨o',es,ep,e1,e2,e3,eu,e4⟩:=hn'
   exact⟨o',es,ep,e1,e2,e3,eu,λy=>by rw[e4 y]⟩
  ·intro b o hbx hb
   exact (hs.2 b (Nat.ne_of_lt (Heap.lt_size hb))).trans ((Heap.get?_update_ne _ _ _ _ hbx).trans (Heap.get?_push_of_some _ hb))
 cases oda<;>first|exact absurd rfl (hnc' _)|exact go
end
theorem vA{K:PySem.W.Frag}{h:Heap}{N:Addr}{x:Str}{v:Value}(X:K.In h)(e:PySem.W.nsOkIn K N=true)(q:PySem.W.nsIn K N x=some (some v)):h.nsMap N x=some v:=by
 obtain⟨o,es,ep,ho,hd,_,hf⟩:=(Heap.Ns.of_isNs (PySem.W.isNs_of_in X e):h.Ns N (h.nsMap N))
 unfold PySem.W.nsIn at q
 split at q
 ·rename_i c d es' n' sl q'
  have:=X _ _ q'
  rw[ho] at this
  cases this
  cases hd
  split at q
  ·rename_i he
   cases q
   rw[←hf]
   unfold nsFind findBy
   rw[←Array.find?_toList,he]
   rfl
  ·split at q<;>cases q
 ·cases q
theorem XIn.mro{K:PySem.W.Frag}{C HE fI:Addr}{fl:Str}(x:XIn K C HE fI fl):((PySem.W.clsIn K C).any λcd=>qH cd.mro)=true:=by
 obtain⟨N,nm,q,bs,hd,sn,sub,ab,col,dd,k0,k1,k2,k3,k5,h,_⟩:=x.cls
 unfold PySem.W.clsIn
 rw[h]
 show qH (.ref C::.ref HE::zz)=true
 show qH zz=true
 decide
theorem XIn.at_{K:PySem.W.Frag}{C HE fI:Addr}{fl:Str}{h:Heap}(x:XIn K C HE fI fl)(X:K.In h):∃N nm q bs hd sn sub ab col dd k0 k1 k2 k3 k5,h.get? C=some (excClassObj nm q C N bs (.ref HE::zz) hd sn sub ab col dd k0 k1 k2 k3 k5 "ValueError.__new__")/\h.Ns N (h.nsMap N)/\h.nsMap N "__init__"=some (.ref fI)/\OwnTail h zz (.ref HE::zz):=by
 obtain⟨N,nm,q,bs,hd,sn,sub,ab,col,dd,k0,k1,k2,k3,k5,h1,h2,h3⟩:=x.cls
 obtain⟨tl,N',nm',q',bs',hd',sn',sub',ab',col',dd',k0',k1',k2',k3',k5',mN,g1,g2,g3,g4⟩:=yE X x.he
 exact⟨N,nm,q,bs,hd,sn,sub,ab,col,dd,k0,k1,k2,k3,k5,X _ _ h1,.of_isNs (PySem.W.isNs_of_in X h2),vA X h2 h3,.own g1 g2 g3 .base⟩
section
variable {X:Cx}{pins:List (Addr×Obj)}{s:Shared}{σ:St}{H:Hp}{C HE fI:Addr}{fl:Str}
theorem KY {a b par:Str} {ka kb:Nat} {p1 p2 p3 p4 p5:Pos} (hN:X.N[1]?=some par) (hv:Vis X.env.scope par) (hd:(par == ("__debug__":Str))=false) (hcd:(par == ("__classdict__":Str))=false) (ha:a.length<=1000) (hb:b.length<=1000) :
  PE X (.JoinedStr [.Constant (.str a) ka p1,.FormattedValue (.Name par p2) (-1) none p3,.Constant (.str b) kb p4] p5) (λσ H Q=>∃i:Int,σ[1]?=some (some (.int i))/\i.natAbs.log2<1920/\∀z,Q (.str z) H):=by
 rintro pins s σ H Q I ⟨i,hi,hlog,q⟩
 have e:=int_text_length_le (k:=1920) (by decide) hlog
 have e2:(Str.ofString (toString i)).length<=1921:=by rw[PySem.ofString_length];exact e
 refine wpAny_JoinedStr ?_
 refine thn (xT (x:=a) pins s σ H (λv H1=>v=.str a/\H1=H) I ⟨rfl,rfl⟩) ?_
 rintro u s1 ⟨v,H1,I1,r,rfl,rfl⟩
 obtain⟨t1,rfl⟩:=r
 have l0:(Str.empty++a).length<=1000:=by rw[strLen_append];show 0+a.length<=1000;omega
 refine⟨_,_,rfl,by rw[sizeLine_eq];omega,?_⟩
 refine wpAny_FormattedValue_plain (thn (vy (i:=1) hN hv hd hcd pins s1 σ H1 (λv H2=>v=.int i/\H2=H1) I1 ⟨_,hi,rfl,rfl⟩) ?_)
 rintro u s2 ⟨v,H2,I2,r,rfl,rfl⟩
 obtain⟨t2,rfl⟩:=r
 refine wpAny_formatField_int hlog ?_
 have l1:(Str.empty++a++Str.ofString (toString i)).length<=3000:=by rw[strLen_append];omega
 refine⟨_,_,rfl,by rw[sizeLine_eq];omega,?_⟩
 have I3:Inv X pins σ H2 {s2 with toks:=s2.toks+1+1}:=I2.kept (h':=s2.heap) λ_ _ q=>q
 refine thn (xT (x:=b) pins _ σ H2 (λv H1=>v=.str b/\H1=H2) I3 ⟨rfl,rfl⟩) ?_
 rintro u s4 ⟨v,H4,I4,r,rfl,rfl⟩
 obtain⟨t4,rfl⟩:=r
 have l2:(Str.empty++a++Str.ofString (toString i)++b).length<=5000:=by rw[strLen_append];omega
 refine⟨_,_,rfl,by rw[sizeLine_eq];omega,by rw[sizeLine_eq];omega,?_⟩
 exact⟨.str _,H4,I4.kept (h':=s4.heap) λ_ _ q=>q,⟨_,rfl⟩,q _⟩
theorem WX {a par:Str} {ka:Nat} {p1 p2 p3 p5:Pos} (hN:X.N[1]?=some par) (hv:Vis X.env.scope par) (hd:(par == ("__debug__":Str))=false) (hcd:(par == ("__classdict__":Str))=false) (ha:a.length<=1000) :
  PE X (.JoinedStr [.Constant (.str a) ka p1,.FormattedValue (.Name par p2) (-1) none p3] p5) (λσ H Q=>∃i:Int,σ[1]?=some (some (.int i))/\i.natAbs.log2<1920/\∀z,Q (.str z) H):=by
 rintro pins s σ H Q I ⟨i,hi,hlog,q⟩
 have e:=int_text_length_le (k:=1920) (by decide) hlog
 have e2:(Str.ofString (toString i)).length<=1921:=by rw[PySem.ofString_length];exact e
 refine wpAny_JoinedStr ?_
 refine thn (xT (x:=a) pins s σ H (λv H1=>v=.str a/\H1=H) I ⟨rfl,rfl⟩) ?_
 rintro u s1 ⟨v,H1,I1,r,rfl,rfl⟩
 obtain⟨t1,rfl⟩:=r
 have l0:(Str.empty++a).length<=1000:=by rw[strLen_append];show 0+a.length<=1000;omega
 refine⟨_,_,rfl,by rw[sizeLine_eq];omega,?_⟩
 refine wpAny_FormattedValue_plain (thn (vy (i:=1) hN hv hd hcd pins s1 σ H1 (λv H2=>v=.int i/\H2=H1) I1 ⟨_,hi,rfl,rfl⟩) ?_)
 rintro u s2 ⟨v,H2,I2,r,rfl,rfl⟩
 obtain⟨t2,rfl⟩:=r
 refine wpAny_formatField_int hlog ?_
 have l1:(Str.empty++a++Str.ofString (toString i)).length<=3000:=by rw[strLen_append];omega
 refine⟨_,_,rfl,by rw[sizeLine_eq];omega,by rw[sizeLine_eq];omega,?_⟩
 exact⟨.str _,H2,I2.kept (h':=s2.heap) λ_ _ q=>q,⟨_,rfl⟩,q _⟩
noncomputable def uW(par:Str)(parts:List Expr):Prop:=
 (∃(a b:Str) (ka kb:Nat) (p1 p2 p3 p4:Pos),parts=[.Constant (.str a) ka p1,.FormattedValue (.Name par p2) (-1) none p3,.Constant (.str b) kb p4]/\a.length<=1000/\b.length<=1000)\/
 ∃(a:Str) (ka:Nat) (p1 p2 p3:Pos),parts=[.Constant (.str a) ka p1,.FormattedValue (.Name par p2) (-1) none p3]/\a.length<=1000
theorem VL {par:Str} {parts:List Expr} {p5:Pos} (hN:X.N[1]?=some par) (hv:Vis X.env.scope par) (hd:(par == ("__debug__":Str))=false) (hcd:(par == ("__classdict__":Str))=false) (h:uW par parts) :
  PE X (.JoinedStr parts p5) (λσ H Q=>∃i:Int,σ[1]?=some (some (.int i))/\i.natAbs.log2<1920/\∀z,Q (.str z) H):=by
 rcases h with⟨a,b,ka,kb,p1,p2,p3,p4,rfl,h1,h2⟩|⟨a,ka,p1,p2,p3,rfl,h1⟩
 ·exact KY hN hv hd hcd h1 h2
 ·exact WX hN hv hd hcd h1
theorem ZD {par slf B:Str} {parts:List Expr} {p5 q0 q1 q2 q4:Pos} (xi:XIn X.K C HE fI fl) (hN0:X.N[0]?=some slf) (hv0:Vis X.env.scope slf) (hd0:(slf == ("__debug__":Str))=false) (hcd0:(slf == ("__classdict__":Str))=false)
  (hN:X.N[1]?=some par) (hv:Vis X.env.scope par) (hd:(par == ("__debug__":Str))=false) (hcd:(par == ("__classdict__":Str))=false) (hfp:uW par parts)
  (hB:Gl X B) (hm:X.mg B=some (.ref HE)) (hBd:(B == ("__debug__":Str))=false) (hga:PySem.W.specialIn X.K (.ref HE) "__getattribute__"=some (some (.builtin "type.__getattribute__"))) (hr:PySem.W.readsIn X.K HE (.type "type")=true)
  (hf:PySem.W.findCls X.K (.ref HE) (.type "type") "__init__"=some (.val (.builtin "ValueError.__init__"))) (hline:(q1.endLine == q4.line)=true) :
  PE X (.Call (.Attribute (.Name B q0) "__init__" q1) [.Name slf q2,.JoinedStr parts p5] [] q4) (λσ H Q=>∃(x:Addr) (i:Int),σ[0]?=some (some (.ref x))/\σ[1]?=some (some (.int i))/\i.natAbs.log2<1920/\H x=some (.ext (wL x C))/\Q .non (upd H x (.ext (wL x C)))):=by
 rintro pins s σ H Q I ⟨x,i,h0,h1,hlog,hx,q⟩
 rw[arm_eval_Call]
 refine wpAny_bind (qa I hB hm ?_ hBd)
 refine wpAny_bind (wpAny_standAt ?_)
 have hpos:methodCallPos true (.Name B q0) X.env q1 q4=pure q4:=by unfold methodCallPos;simp[hline]
 unfold methodCall
 refine wpAny_bind (wpAny_holding (PySem.W.method_cls I.kIn hga (PySem.W.cls_value I.kIn hr hf rfl ?_)))
 refine wpAny_bind (wpAny_of_eq hpos ?_)
 have I1:Inv X pins σ H {s with toks:=s.toks+1}:=I.kept (h':=s.heap) λ_ _ q=>q
 have pa:PA X [.Name slf q2,.JoinedStr parts p5] _:=zm (vy (i:=0) hN0 hv0 hd0 hcd0) (zm (VL hN hv hd hcd hfp) zH)
 refine PySem.W.callWith_of (P:=λ_=>True) (first:=[]) rfl (λh _=>⟨.machine,.inr (.inl rfl),PySem.W.Looks.of_pure rfl⟩) (Calls.evalArgs_plain (thn (pa q4 pins _ σ H (λvs H1=>∃z,vs=[.ref x,.str z]/\H1=H) I1 ⟨_,h0,i,h1,hlog,λz=>⟨z,rfl,rfl⟩⟩) ?_))
 rintro us s2 ⟨vs,H2,I2,rv,z,rfl,rfl⟩
 obtain⟨u1,rfl⟩:∃u1,us=[.ref x,u1]:=by
  cases rv with
  |cons r1 r2=>cases r2 with
   |cons r3 r4=>cases r4;cases r1;exact⟨_,rfl⟩
 refine⟨trivial,?_⟩
 obtain⟨N,nm,qn,bs,hdd,sn,sub,ab,col,dd,k0,k1,k2,k3,k5,g1,g2,g3,g4⟩:=xi.at_ I2.kIn
 obtain⟨t,ex⟩:wL x C s2.heap:=(show ObjOk X.prog X.w H2 s2.heap x (.ext (wL x C)) from I2.hok _ _ hx).1
 refine VF (rest:=[u1]) PySem.F.excBase_ValueError g4 g1 ex rfl rfl rfl ?_ (by rw[sizeLine_eq];show 1<=_;omega)
 have lt:x<s2.heap.objs.size:=Heap.lt_size ex
 have ex1:=Heap.get?_push_of_some (h:=s2.heap) {cls:=.type "tuple",data:=.seq [u1].toArray} ex
 have k1:∀b u,b≠x->s2.heap.get? b=some u->((s2.heap.push {cls:=.type "tuple",data:=.seq [u1].toArray}).update x (Obj.mapFields (·.setIfInBounds 0 (.ref s2.heap.objs.size)))).get? b=some u:=λb u hb hu=>by
  rw[Heap.get?_update_other _ _ (Ne.symm hb)]
  exact Heap.get?_push_of_some _ hu
 have ex2:((s2.heap.push {cls:=.type "tuple",data:=.seq [u1].toArray}).update x (Obj.mapFields (·.setIfInBounds 0 (.ref s2.heap.objs.size)))).get? x=some {cls:=.ref C,data:=.fields #[.ref s2.heap.objs.size,.none,.none,.none,.bool false,.none]}:=by
  rw[Heap.get?_update_self _ ex1 rfl];rfl
 exact⟨.non,_,I2.write (x:=x) (e:=x) (o:=.ext (wL x C)) (t':=s2.toks) (by rw[hx];exact True.intro) (.inl rfl) k1 ⟨_,ex2⟩ ⟨⟨_,ex2⟩,⟨_,ex2⟩,λh1 h2 ⟨t,e⟩ k=>⟨t,k _ e⟩⟩,rfl,q⟩
theorem yM {par slf:Str} {q0 q1 q2 q3:Pos} (xi:XIn X.K C HE fI fl) (hN0:X.N[0]?=some slf) (hv0:Vis X.env.scope slf) (hd0:(slf == ("__debug__":Str))=false) (hcd0:(slf == ("__classdict__":Str))=false)
  (hN:X.N[1]?=some par) (hv:Vis X.env.scope par) (hd:(par == ("__debug__":Str))=false) (hcd:(par == ("__classdict__":Str))=false) :
  PS X (.Assign [.Attribute (.Name slf q0) fl q1] (.Name par q2) q3) (λD σ H=>∃(x:Addr) (i:Int),σ[0]?=some (some (.ref x))/\σ[1]?=some (some (.int i))/\H x=some (.ext (wL x C))/\∀dx,H dx=none->dx≠x->D.nx σ (upd (upd H x (.ext (wu x C dx))) dx (.xd [(fl,.int i)]))):=by
 rintro pins s σ H D I ⟨x,i,h0,h1,hx,q⟩
 refine plainObj_wpAny_Assign_Attribute (thn (vy (i:=1) hN hv hd hcd pins s σ H (λv H1=>v=.int i/\H1=H) I ⟨_,h1,rfl,rfl⟩) ?_) rfl
 rintro u s1 ⟨v,H1,I1,r,rfl,rfl⟩
 refine thn (vy (i:=0) hN0 hv0 hd0 hcd0 pins s1 σ H1 (λv H2=>v=.ref x/\H2=H1) I1 ⟨_,h0,rfl,rfl⟩) ?_
 rintro ov s2 ⟨v,H2,I2,r2,rfl,rfl⟩
 cases r2
 obtain⟨t,ex⟩:wL x C s2.heap:=(show ObjOk X.prog X.w H2 s2.heap x (.ext (wL x C)) from I2.hok _ _ hx).1
 refine K6 I2.kIn ex rfl rfl rfl xi.sa xi.mro xi.no xi.dct λh' tk e1 e2 e3=>?_
 have lt:x<s2.heap.objs.size:=Heap.lt_size ex
 have hf:H2 s2.heap.objs.size=none:=I2.hok.fresh (Nat.le_refl _)
 have ne:s2.heap.objs.size≠x:=Nat.ne_of_gt lt
 refine⟨σ,_,?_,q _ hf ne⟩
 have ox:XOk X H2 s2.heap.objs.size:=qk I2 (Heap.get?_none_of_le (Nat.le_refl _))
 have hpn:∀p∈pins,p.1≠s2.heap.objs.size:=λp hp z=>by
  have:=(I2.pin p (List.mem_append_right _ hp)).1
  rw[z,Heap.get?_none_of_le (Nat.le_refl _)] at this;cases this
 have I3:Inv X pins σ (upd H2 x (.ext (wu x C s2.heap.objs.size))) {s2 with heap:=h',toks:=tk}:=I2.write (x:=x) (e:=x) (by rw[hx];exact True.intro) (.inl rfl) (λb u hb hu=>e3 b u hb hu) ⟨_,e1⟩ ⟨⟨t,e1⟩,⟨_,e1⟩,λh1 h2 ⟨t,e⟩ k=>⟨t,k _ e⟩⟩
 have ox3:XOk X (upd H2 x (.ext (wu x C s2.heap.objs.size))) s2.heap.objs.size:=⟨by rw[z8 ne];exact ox.free,ox.loc,ox.nfs,ox.new,ox.cel,ox.pin⟩
 refine qA I3 ox3 hpn ⟨_,e2,λf=>?_⟩
 show RelO (List.lookup f [(fl,V.int i)]) (if f=fl then some u else none)
 by_cases z:f=fl
 ·subst z
  rw[if_pos rfl]
  simp only[List.lookup,beq_self_eq_true]
  exact r
 ·rw[if_neg z]
  have:(f == fl)=false:=beq_eq_false_iff_ne.mpr z
  simp only[List.lookup,this]
  exact trivial
end
noncomputable def WY(body:List Stmt)(B slf par fl:Str):Prop:=∃(q0 q1 q2 p5 q4 q5 r0 r1 r2 r3:Pos) (parts:List Expr),
 body=[.Expr (.Call (.Attribute (.Name B q0) "__init__" q1) [.Name slf q2,.JoinedStr parts p5] [] q4) q5,.Assign [.Attribute (.Name slf r0) fl r1] (.Name par r2) r3]/\(q1.endLine == q4.line)=true/\uW par parts
noncomputable def scI(slf par B:Str)(sc:Scope):Bool:=(sc.kind == .function)&&!sc.isCoroutine&&!sc.isGenerator&&(slf != par)&&(sc.names.lookup slf == some .local)&&(sc.names.lookup par == some .local)&&sc.names.all (λy=>y.2 != .free)&&(sc.names.lookup B == some .globalImplicit)&&
 (slf != ("__debug__":Str))&&(slf != ("__classdict__":Str))&&(par != ("__debug__":Str))&&(par != ("__classdict__":Str))&&(B != ("__debug__":Str))
section
variable {P:Program}{w:World}{K:PySem.W.Frag}{mg:Str->Option Value}{base:Heap}{C HE fI:Addr}{fl:Str}{k:Nat}
structure HIn(K:PySem.W.Frag)(mg:Str->Option Value)(HE:Addr)(B:Str):Prop where
 mg:mg B=some (.ref HE)
 ga:PySem.W.specialIn K (.ref HE) "__getattribute__"=some (some (.builtin "type.__getattribute__"))
 rd:PySem.W.readsIn K HE (.type "type")=true
 fc:PySem.W.findCls K (.ref HE) (.type "type") "__init__"=some (.val (.builtin "ValueError.__init__"))
theorem z0h{CX:CXT}{name qual slf par B:Str}{params:Arguments}{body:List Stmt}{scope:Scope}{dV kV doc pm cdv ct oc:Value}{an od:Option Addr}{osl:Array (Option Value)}
  (xi:XIn K C HE fI fl) (hi:HIn K mg HE B) (lk:K.lookup fI=some ⟨oc,od,.func (PySem.W.fnOf name qual params body scope dV kV doc pm an cdv ct),osl⟩) (hcd:PySem.W.codeIn K cdv qual=true) (hf:WY body B slf par fl) (hs:scI slf par B scope=true) :
  FnOk P w K mg base CX (k+1) fI (PySem.W.fnOf name qual params body scope dV kV doc pm an cdv ct) [slf,par] (spI C fl):=by
 simp only[scI,Bool.and_eq_true,List.all_eq_true,beq_iff_eq,Bool.not_eq_true',bne_iff_ne,ne_eq] at hs
 obtain⟨⟨⟨⟨⟨⟨⟨⟨⟨⟨⟨⟨h1,h2⟩,h3⟩,h4⟩,h5⟩,h6⟩,h7⟩,h8⟩,h9⟩,h10⟩,h11⟩,h12⟩,h13⟩:=hs
 have S:FnScope [slf,par] [slf,par] scope:=⟨h1,h2,h3,by simp[h4],rfl,λx hx=>by
  rcases List.mem_cons.mp hx with rfl|hx
  ·exact .inl h5
  ·rw[List.mem_singleton.mp hx];exact .inl h6,h7⟩
 obtain⟨q0,q1,q2,p5,q4,q5,r0,r1,r2,r3,parts,rfl,c5,c6⟩:=hf
 refine Xg (fnb:=λ_=>true) lk hcd S (λvs H Q E q=>by obtain⟨x,i,rfl,_⟩:=q;rfl) λA outer s H vs Q E hr hsp _=>?_
 obtain⟨x,i,rfl,hlog,hx,q⟩:=hsp
 have hd0:(slf == ("__debug__":Str))=false:=beq_eq_false_iff_ne.mpr h9
 have hc0:(slf == ("__classdict__":Str))=false:=beq_eq_false_iff_ne.mpr h10
 have hd1:(par == ("__debug__":Str))=false:=beq_eq_false_iff_ne.mpr h11
 have hc1:(par == ("__classdict__":Str))=false:=beq_eq_false_iff_ne.mpr h12
 have hdB:(B == ("__debug__":Str))=false:=beq_eq_false_iff_ne.mpr h13
 refine⟨_,k9 (xH (ZD (C:=C) (HE:=HE) (fI:=fI) (fl:=fl) xi rfl (.inl h5) hd0 hc0 rfl (.inl h6) hd1 hc1 c6 h8 hi.mg hdB hi.ga hi.rd hi.fc c5)) (Z_ (yM (C:=C) (HE:=HE) (fI:=fI) xi rfl (.inl h5) hd0 hc0 rfl (.inl h6) hd1 hc1)),?_⟩
 refine⟨x,i,rfl,rfl,hlog,hx,x,i,rfl,rfl,z7,λdx hdx ne=>?_⟩
 rw[jd]
 exact q dx (by rw[z8 ne] at hdx;exact hdx) ne
end
section
variable {P:Program}{w:World}{K:PySem.W.Frag}{mg:Str->Option Value}{base:Heap}{C HE fI:Addr}{fl:Str}{k:Nat}
theorem Xz{f:Addr}{name qual:Str}{params:Arguments}{body:List Stmt}{scope:Scope}{dV kV doc pm cdv ct oc:Value}{an od:Option Addr}
  {osl:Array (Option Value)} {N ps:List Str} {sp:Sp} (lk:K.lookup f=some ⟨oc,od,.func (PySem.W.fnOf name qual params body scope dV kV doc pm an cdv ct),osl⟩) (hcd:PySem.W.codeIn K cdv qual=true) (S:FnScope N ps scope)
  (len:∀vs H Q E,sp vs H Q E->vs.length=ps.length)
  (hbody:∀(X:Cx) (H:Hp) (vs:List V) (Q:VK),X.K=K->X.mg=mg->X.N=N->X.env.scope=scope->sp vs H Q (λ_ _ _=>False)->
   ∃t,PSs X body t/\t {nx:=λ_ H'=>Q .non H',rt:=Q} (start N vs) H) :
  jw P w K mg base (k+1) f (PySem.W.fnOf name qual params body scope dV kV doc pm an cdv ct) ps sp:=by
 intro A outer s H args us vs Q hr e0 hb r hsp
 have hl:=len _ _ _ _ hsp
 have KX:K.In s.heap:=e0.mod.kin.keeps λb o e=>(e0.bs b o e).1
 have lim:s.heap.NoLimit:=e0.mod.nolimit.keeps λb o e=>(e0.bs b o e).1
 have hpar:∀y∈ps.zip us,scope.names.lookup y.1=some .local\/(scope.names.lookup y.1=some .cell/\((cellsFrom (s.heap.objs.size+1) scope.names []).lookup y.1).isSome=true):=by
  rintro⟨y,v⟩ hy
  rcases S.par y (List.of_mem_zip hy).1 with z|z
  ·exact .inl z
  ·exact .inr ⟨z,PySem.W.cellsFrom_some _ _ _ (.inl z)⟩
 have hdp:A.depth<recursionLimit:=by have:=hr.dp;omega
 refine codeAny_call_function hdp (KX _ _ lk) rfl S.co S.gen rfl (PySem.W.codeRec_of KX hcd) (hb _ _ _ _ (wpAny_newFunctionEnv_cells S.kind hpar λenv he s1 x=>?_))
 subst he
 refine⟨lim.keeps x.toInCall.keep,codeAny_func ?_⟩
 have e0':Env0 P w K mg base {A with handled:=none} outer s H:=⟨e0.frames,e0.mod,e0.bs,e0.bsz,e0.funs,e0.frf,e0.hok,e0.bare⟩
 have I0:=kT (fnb:=λ_=>true) (CX:=λ_ _ _ _ _ _=>False) (E:=λ_ _ _=>False) (f:=f) (cd:=cdv) (qual:=qual) (A:={A with handled:=none}) S rfl e0' hl r x
 generalize hX:({Zn (λ_ _ _ _ _ _=>False) P w K mg base N qual scope f cdv A outer s H (λ_ _ _=>False) with calm:=false,xe:=λ_ _=>False}:Cx)=X
 have I:Inv X [] (start N vs) H s1:=by
  subst hX
  exact⟨⟨I0.ok.mod,I0.ok.kind,I0.ok.glob,I0.ok.blt,I0.ok.above,I0.ok.inj,I0.ok.has,I0.ok.cab,(λh=>by cases h),Around.frames_deeper e0.frames,I0.ok.stk,I0.ok.exf,I0.ok.bs,I0.ok.bsz,I0.ok.noex,I0.ok.exfs,I0.ok.funs,I0.ok.frf⟩,I0.os,I0.bare,I0.base,I0.loc,I0.cell,I0.free,I0.freeC,I0.pin,I0.hok,I0.len⟩
 obtain⟨t,ht,hq⟩:=hbody X H vs Q (by subst hX;rfl) (by subst hX;rfl) (by subst hX;rfl) (by subst hX;rfl) hsp
 have B:=ht [] s1 (start N vs) H _ I hq
 have XA:X.A=A.deeper (envOfC qual scope s.heap.objs.size f cdv):=by rw[←hX];rfl
 have Xp:X.prog=P/\X.w=w/\X.env=envOfC qual scope s.heap.objs.size f cdv/\(∀e s,X.xe e s->False)/\X.fs=frs outer/\X.H₀=H/\X.s₀=s/\X.ex=[]:=by
  subst hX;exact⟨rfl,rfl,rfl,λ_ _ z=>z,rfl,rfl,rfl,rfl⟩
 obtain⟨x1,x2,x3,x4,x5,x6,x7,x8⟩:=Xp
 rw[XA,x1,x2,x3] at B
 refine wpAny_mono B (λfl s' hs=>?_) λe s' z=>(x4 e s' z).elim
 have fin:∀{σ':St} {H':Hp} {v:V} {u:Value},Inv X [] σ' H' s'->RelV v u->Q v H'->CE outer P w H s Q u s':=λ{σ' H' v u} J rv q=>by
  have b:=J.base
  have o:=J.os
  have h:=J.hok
  rw[x5,x6,x7,x8] at b
  rw[x7] at o
  rw[x1,x2] at h
  exact⟨v,H',o,J.bare,b,h,rv,q⟩
 cases fl with
 |ret u=>obtain⟨v,σ',H',J,rv,q⟩:=hs;exact fin J rv q
 |next=>obtain⟨σ',H',J,q⟩:=hs;exact fin (v:=V.non) (u:=Value.none) J rfl q
 |brk=>obtain⟨_,_,_,q⟩:=hs;exact q.elim
 |cont=>obtain⟨_,_,_,q⟩:=hs;exact q.elim
theorem YV{name qual slf par B:Str}{params:Arguments}{body:List Stmt}{scope:Scope}{dV kV doc pm cdv ct oc:Value}{an od:Option Addr}{osl:Array (Option Value)}
  (xi:XIn K C HE fI fl) (hi:HIn K mg HE B) (lk:K.lookup fI=some ⟨oc,od,.func (PySem.W.fnOf name qual params body scope dV kV doc pm an cdv ct),osl⟩) (hcd:PySem.W.codeIn K cdv qual=true) (hf:WY body B slf par fl) (hs:scI slf par B scope=true) :
  jw P w K mg base (k+1) fI (PySem.W.fnOf name qual params body scope dV kV doc pm an cdv ct) [slf,par] (spI C fl):=by
 simp only[scI,Bool.and_eq_true,List.all_eq_true,beq_iff_eq,Bool.not_eq_true',bne_iff_ne,ne_eq] at hs
 obtain⟨⟨⟨⟨⟨⟨⟨⟨⟨⟨⟨⟨h1,h2⟩,h3⟩,h4⟩,h5⟩,h6⟩,h7⟩,h8⟩,h9⟩,h10⟩,h11⟩,h12⟩,h13⟩:=hs
 have S:FnScope [slf,par] [slf,par] scope:=⟨h1,h2,h3,by simp[h4],rfl,λx hx=>by
  rcases List.mem_cons.mp hx with rfl|hx
  ·exact .inl h5
  ·rw[List.mem_singleton.mp hx];exact .inl h6,h7⟩
 obtain⟨q0,q1,q2,p5,q4,q5,r0,r1,r2,r3,parts,rfl,c5,c6⟩:=hf
 refine Xz lk hcd S (λvs H Q E q=>by obtain⟨x,i,rfl,_⟩:=q;rfl) λX H vs Q e1 e2 e3 e4 hsp=>?_
 obtain⟨x,i,rfl,hlog,hx,q⟩:=hsp
 have hd0:(slf == ("__debug__":Str))=false:=beq_eq_false_iff_ne.mpr h9
 have hc0:(slf == ("__classdict__":Str))=false:=beq_eq_false_iff_ne.mpr h10
 have hd1:(par == ("__debug__":Str))=false:=beq_eq_false_iff_ne.mpr h11
 have hc1:(par == ("__classdict__":Str))=false:=beq_eq_false_iff_ne.mpr h12
 have hdB:(B == ("__debug__":Str))=false:=beq_eq_false_iff_ne.mpr h13
 subst e1 e2 e4
 refine⟨_,k9 (xH (ZD (C:=C) (HE:=HE) (fI:=fI) (fl:=fl) xi (by rw[e3];rfl) (.inl h5) hd0 hc0 (by rw[e3];rfl) (.inl h6) hd1 hc1 c6 h8 hi.mg hdB hi.ga hi.rd hi.fc c5)) (Z_ (yM (C:=C) (HE:=HE) (fI:=fI) xi (by rw[e3];rfl) (.inl h5) hd0 hc0 (by rw[e3];rfl) (.inl h6) hd1 hc1)),?_⟩
 refine⟨x,i,rfl,rfl,hlog,hx,x,i,rfl,rfl,z7,λdx hdx ne=>?_⟩
 rw[jd]
 exact q dx (by rw[z8 ne] at hdx;exact hdx) ne
theorem XI{CX:CXT}{name qual slf par B:Str}{params:Arguments}{body:List Stmt}{scope:Scope}{dV kV doc pm cdv ct oc:Value}{an od:Option Addr}{osl:Array (Option Value)}
  (xi:XIn K C HE fI fl) (hi:HIn K mg HE B) (lk:K.lookup fI=some ⟨oc,od,.func (PySem.W.fnOf name qual params body scope dV kV doc pm an cdv ct),osl⟩) (hcd:PySem.W.codeIn K cdv qual=true) (hf:WY body B slf par fl) (hs:scI slf par B scope=true) :
  FnOk P w K mg base CX (k+1) fI (PySem.W.fnOf name qual params body scope dV kV doc pm an cdv ct) [slf,par] (spI C fl)/\jw P w K mg base (k+1) fI (PySem.W.fnOf name qual params body scope dV kV doc pm an cdv ct) [slf,par] (spI C fl):=⟨z0h xi hi lk hcd hf hs,YV xi hi lk hcd hf hs⟩
end
section
variable {X:Cx}{pins:List (Addr×Obj)}{s:Shared}{σ:St}{H:Hp}
theorem vM{x:Addr}{φ:Heap->Prop}(I:Inv X pins σ (upd H x (.ext φ)) s)(hx:H x=none):Inv X pins σ H s:=by
 have nn:∀b,upd H x (.ext φ) b=none->H b=none:=λb e=>by
  by_cases z:b=x
  ·rw[z];exact hx
  ·rw[z8 z] at e;exact e
 have so:∀b o,upd H x (.ext φ) b=some o->(∀ψ,o≠.ext ψ)->H b=some o:=λb o e n=>by
  by_cases z:b=x
  ·rw[z,z7] at e;cases e;exact absurd rfl (n φ)
  ·rw[z8 z] at e;exact e
 refine⟨I.ok,I.os,I.bare,⟨I.base.keep,I.base.slot,λb o e n hx'=>nn b (I.base.free b o e n hx'),I.base.there,λb xs e=>so b _ (I.base.tups b xs e) (λψ z=>by cases z),λb o u e=>so b _ (I.base.frzs b o u e) (λψ z=>by cases z),λb ps e=>?_⟩,I.loc,I.cell,nn _ I.free,λy c e=>(I.freeC y c e).imp (nn _) λ⟨n,o,u,f⟩=>⟨n,o,u,so c _ f (λψ z=>by cases z)⟩,λp hp=>?_,λb ob e=>?_,I.len⟩
 ·obtain⟨more,q⟩:=I.base.tbls b ps e
  exact⟨more,so b _ q (λψ z=>by cases z)⟩
 ·obtain⟨e,n,r⟩:=I.pin p hp
  exact⟨e,nn _ n,r⟩
 ·have ne:b≠x:=λz=>by rw[z,hx] at e;cases e
  have q:=I.hok b ob (by rw[z8 ne];exact e)
  exact q.stay (λ_ _ _ q=>q) (λc q=>so c _ q (λψ z=>by cases z)) λc xs q=>so c _ q (λψ z=>by cases z)
end
section
variable {X:Cx}{D:DP}{W:XW}{Γ:Cn}{k:Nat}{pins:List (Addr×Obj)}{s:Shared}{σ:St}{H:Hp}{φ α:List Addr}{τ:Sl}{μ:Mem}{a:Expr}{pos:Pos}{E:Ends}{g:De}
theorem yC{H:Hp}{x y:Addr}{a b:HO}(h:x≠y):upd (upd H x a) y b=upd (upd H y b) x a:=by
 funext c
 by_cases z:c=y
 ·subst z;rw[z7,z8 (Ne.symm h),z7]
 ·rw[z8 z]
  by_cases z2:c=x
  ·subst z2;rw[z7,z7]
  ·rw[z8 z2,z8 z2,z8 z]
theorem JR{C HE fI:Addr}{fl:Str}{fd:FuncData}{ps:List Str}{kk:Nat}{u:Value}{i:Int}{Q:Value->Shared->Prop}(xi:XIn X.K C HE fI fl)(hb:Binds X.K fd ps [])(hr:Room (kk+1) X.A)
  (F:FnOk X.prog X.w X.K X.mg X.base (CX1 X.prog X.w) kk fI fd ps (spI C fl)) (I:Inv X pins σ H s) (r:RelV (.int i) u) (hlog:i.natAbs.log2<1920)
  (q:∀x dx t s',Inv X pins σ (upd H dx (.xd [(fl,.int i)])) s'->H dx=none->XOk X H x->dx≠x->s'.heap.get? x=some {cls:=.ref C,dict:=some dx,data:=.fields #[.ref t,.none,.none,.none,.bool false,.none]}->Q (.ref x) s') :
  wpAny (model X.prog X.w) X.A (call (.ref C) [u]) Q X.xe s:=by
 obtain⟨N,nm,qn,bs,hdd,sn,sub,ab,col,dd,k0,k1,k2,k3,k5,g1,g2,g3,g4⟩:=xi.at_ I.kIn
 obtain⟨oI,gf,gc⟩:∃oI,s.heap.get? fI=some oI/\oI.cls=.type "function":=by
  obtain⟨o,ho,e⟩:=Option.map_eq_some_iff.mp xi.fn
  exact⟨o,I.kIn _ _ ho,e⟩
 obtain⟨hh,gg,d,tk,os⟩:=s
 refine kS PySem.F.excBase_ValueError g4 g1 g2 g3 gf gc (λh1 x mk=>?_) (by rw[sizeLine_eq];show 1<=_;omega)
 have J:Inv X pins σ H ⟨h1,gg,d,tk,os⟩:=I.kept (t':=tk) mk.keeps
 have ox:XOk X H x:=qk I mk.new
 have hpn:∀p∈pins,p.1≠x:=λp hp z=>by
  have:=(I.pin p (List.mem_append_right _ hp)).1
  rw[z,mk.new] at this;cases this
 obtain⟨t,ho,_,_⟩:=mk.there
 have I2:Inv X pins σ (upd H x (.ext (wL x C))) ⟨h1,gg,d,tk,os⟩:=qA J ox hpn ⟨⟨t,ho⟩,⟨_,ho⟩,λh1 h2 ⟨t,e⟩ k=>⟨t,k _ e⟩⟩
 have rv:Vals [.ref x,.int i] [.ref x,u]:=.cons rfl (.cons r .nil)
 have hl:([Value.ref x,u]++[]).length=ps.length:=by
  have:=F.len [.ref x,.int i] (upd H x (.ext (wL x C))) (λ_ _=>True) (λ_ _ _=>False) ⟨x,i,rfl,hlog,z7,λ_ _ _=>trivial⟩
  exact this
 refine wpAny_call (codeAny_mono (F.run _ X.stack ⟨h1,gg,d,tk,os⟩ (upd H x (.ext (wL x C))) ⟨[.ref x,u],[]⟩ [.ref x,u] [.ref x,.int i] (λv H'=>v=.non/\∃dx,H dx=none/\dx≠x/\H'=upd (upd H x (.ext (wu x C dx))) dx (.xd [(fl,.int i)])) (λ_ _ _=>False) (hr.make C [u] []) (I2.env0.make C [u] []) (by simpa using hb _ [.ref x,u] I2.kIn hl) rv
  ⟨x,i,rfl,hlog,z7,λdx hdx ne=>⟨rfl,dx,by rw[z8 ne] at hdx;exact hdx,ne,by rw[jd]⟩⟩) λres s' hq=>?_)
 cases res with
 |error e=>
  obtain⟨_,_,_,_,_,_,_,_,_,_,_,_,_,_,_,z⟩:=hq
  exact z.elim
 |ok flw=>
  cases flw with
  |ret v=>
   obtain⟨v',H',I3,rv',⟨rfl,dx,hdx,ne,rfl⟩⟩:=I2.after hq
   refine⟨rv',?_⟩
   obtain⟨t',e'⟩:wu x C dx s'.heap:=(show ObjOk X.prog X.w _ s'.heap x (.ext (wu x C dx)) from I3.hok x _ (by rw[z8 (Ne.symm ne),z7])).1
   rw[yC (Ne.symm ne)] at I3
   have I4:=vM I3 (by rw[z8 (Ne.symm ne)];exact ox.free)
   exact q x dx t' s' I4 hdx ox ne e'
  |next=>exact False.elim hq
  |brk=>exact False.elim hq
  |cont=>exact False.elim hq
noncomputable def hash(m:Str):Str:=⟨#[35]++m.cps⟩
theorem QX(C:Sk D W Γ X k)(hc:Γ.calm=true){x fl:Str}{n f:Nat}{p0 p1:Pos}(hx:x∈Γ.G)(hU:hash x∈Γ.U)(hg:Γ.gl (hash x)=.xin n f x fl)(hst:noStar a=true)(ha:PE X a (rdE D W g)) :
  PS X (.Raise (some (.Call (.Name x p0) [a] [] p1)) none pos) (rdS D W (qZ n f g)):=by
 rintro pins s σ H E I ⟨φ,α,τ,μ,sr,mr,p⟩
 have q:=(C.glU _ hU).1
 rw[hg] at q
 obtain⟨C0,HE,fI,fd,ps,kk,ad,hm,hfl,xi,hb,hkk,F,_⟩:=q
 have hr:=(C.rom hc).mono hkk
 obtain⟨N,nm,qn,bs,hdd,sn,sub,ab,col,dd,k0,k1,k2,k3,k5,g1,g2,g3,g4⟩:=xi.at_ I.ok.mod.kin
 have hbase:(Value.ref HE::zz).contains (.type "BaseException")=true:=g4.hasType PySem.F.excBase_ValueError.hasBase
 have body:wpAny (model X.prog X.w) X.A (eval (.Call (.Name x p0) [a] [] p1) X.env) (λv s1=>∃e t dx,v=.ref e/\s1.heap.get? C0=some (excClassObj nm qn C0 N bs (.ref HE::zz) hdd sn sub ab col dd k0 k1 k2 k3 k5 "ValueError.__new__")/\
   s1.heap.get? e=some {cls:=.ref C0,dict:=dx,data:=.fields #[.ref t,.none,.none,.none,.bool false,.none]}/\X.xe (.ref e) s1) X.xe s:=by
  refine wpAny_Call_ofName (qa I (C.glb x hx) hm ?_ (C.dbG x hx))
  refine PySem.W.callWith_K (K:=X.K) (first:=[]) (h₀:=X.base) I.ok.mod.kin xi.kp (thn (zm ha zH (z5 hst) p1 pins s σ H (λvs H1=>∃v t μ1 α1,vs=[v]/\Stp α H α1 H1/\SRel D φ α1 H1 τ σ/\MRel D φ α1 H1 μ1/\Den D φ α1 H1 t v/\PostS D W φ α1 H1 E ((match t with
   |.int i=>.grd (i.natAbs.log2<1920) (.ex n [(f,.int i)] τ μ1)
   |_=>.st:Out))) I ⟨φ,α,τ,μ,sr,mr,(PostS.out sr p).mono λt μ' α' H' st m q v d=>⟨v,t,μ',α',rfl,st,sr.step st,m,d,q⟩⟩) ?_) (z5 hst) rfl
  rintro us s1 ⟨vs,H1,I1,rv,v,t,μ1,α1,rfl,st1,sr1,mr1,d1,p1⟩
  obtain⟨u,rfl,r⟩:∃u,us=[u]/\RelV v u:=by
   cases rv with
   |cons r1 r2=>cases r2;exact⟨_,rfl,r1⟩
  refine⟨I1.kIn,?_⟩
  cases t<;>first|(obtain⟨Q,q,_⟩:=p1;exact q.elim)|skip
  rename_i i
  obtain⟨hlog,p2⟩:=PostS.grd p1
  cases d1
  refine JR xi hb hr F I1 r hlog λe dx t s' I2 hdx oe ne he=>?_
  refine⟨e,t,some dx,rfl,I2.bk _ _ g1,he,C.xe _ _ ?_⟩
  have sm:vc H1 (upd H1 dx (.xd [(fl,.int i)])):=zd hdx
  have st2:Stp α1 H1 α1 (upd H1 dx (.xd [(fl,.int i)])):=Stp.new sm
  refine⟨e,.ref C0,some dx,σ,_,none,.none,rfl,I2.pins_of (λp hp=>absurd hp (by simp)),⟨by rw[z8 (Ne.symm ne)];exact oe.free,oe.loc,oe.nfs,oe.new,oe.cel,oe.pin⟩,λt ht=>absurd ht (by simp),⟨⟨_,_,.ref t,he,⟨rfl,rfl⟩,rfl,rfl,rfl,λ_ _=>rfl⟩,rfl⟩,.inl rfl,?_⟩
  refine PostS.ex p2 st2 (mr1.new sm) (sr1.step st2) ad ⟨_,zj mr1 hdx,zh mr1 hdx,z7,?_⟩
  exact⟨fl,.int i,[],hfl,rfl,rfl,rfl⟩
 rw[arm_exec_Raise]
 first
  |exact wpAny_bind (wpAny_standAt (jD hbase (I.ok.hd (C.clm hc)) (wpAny_bind (wpAny_mono body (λv s₃ h₃=>wpAny_bind (wpAny_standAt (wpAny_pure h₃))) λ_ _ x=>x))))
  |(simp only[evalOpt,Option.map];exact wpAny_bind (wpAny_standAt (jD hbase (I.ok.hd (C.clm hc)) (wpAny_bind (wpAny_mono body (λv s₃ h₃=>wpAny_bind (wpAny_standAt (wpAny_pure h₃))) λ_ _ x=>x)))))
end
noncomputable def z0C:List Expr->Option Expr
 |[a]=>some a
 |_=>none
noncomputable def uH:SR:=λr Γ s=>(KJ s).bind λe=>(yS e).bind λq=>(z0C q.2).bind λa=>gd (Γ.calm&&(idx Γ.N q.1).isNone&&Γ.G.contains q.1&&Γ.U.contains (hash q.1)&&noStar a) ((r.e Γ a).bind λg=>(match Γ.gl (hash q.1) with
  |.xin c f nm _=>gd (nm == q.1) (some (qZ c f g))
  |_=>none))
theorem Qy{D:DP}:SOk D uH:=by
 intro r H X W Γ k e d C h
 unfold uH at h
 obtain⟨e',z0,z1⟩:=bnd h
 obtain⟨⟨x,as⟩,z2,z3⟩:=bnd z1
 obtain⟨a,ha,z4⟩:=bnd z3
 clear h z1 z3
 obtain⟨p2,rfl⟩:=ZE z0
 obtain⟨p0,p1,rfl⟩:=jN z2
 obtain⟨hb,h⟩:=zo z4
 simp only[Bool.and_eq_true] at hb
 obtain⟨⟨⟨⟨h0,h2⟩,h3⟩,h4⟩,h5⟩:=hb
 obtain⟨g,h6,h⟩:=bnd h
 have ea:as=[a]:=by
  cases as with
  |nil=>cases ha
  |cons b r=>cases r with
   |nil=>cases ha;rfl
   |cons _ _=>cases ha
 subst ea
 cases hl:Γ.gl (hash x) with
 |xin c f nm fl=>
  simp only[hl] at h
  obtain⟨h7,h8⟩:=zo h
  have h7:=beq_iff_eq.mp h7
  subst h7
  cases h8
  exact QX C h0 (by simpa using h3) (by simpa using h4) hl h5 (H.e C.toCk h6)
 |_=>simp[hl] at h
section
open PySem.W
theorem QB{prog:Program}{w:World}{A:Around}{E:Value->Shared->Prop}{s:Shared}{K:Frag}{x D:Addr}{ox:Obj}{od:Option Obj}{name:Str}{v:Value}{expr:Bool}{Q:Value->Shared->Prop}(X:K.In s.heap)(I:InstAt s.heap x ox D od)
 (hga:findIn K (.ref D) "__getattribute__"=some (some (.builtin "BaseException.__getattribute__"))) (hk:findIn K (.ref D) "__getattr__"=some none)
 (hf:findObj K D od name=some (.value v)) (hb:mroIn K D (.type "BaseException")=some true) (hh:handedIn v=true)
 (h:Q v {s with toks:=s.toks+1}):wpAny (model prog w) A (getAttr (.ref x) name expr) Q E s:=by
 obtain⟨hh0,g,d,t,os⟩:=s
 have L0:=I.type (M:=model prog w)
 have L1:=looks_findIn (M:=model prog w) X hga
 have L2:=looks_findIn (M:=model prog w) X hk
 have L3:=looks_find (M:=model prog w) X I hf
 have L4:=looks_mroIn (M:=model prog w) X hb
 have f3:=PySem.F.attr_ValueError.ga.bind (.ref x)
 unfold getAttr getAttrBy
 refine wpAny_bind (wpAny_mkText (wpAny_holding (wpAny_bind (L0.at (wpAny_bind (L1.at ?_))))))
 show wpAny _ _ (getAttrByItsOwn (.ref x) _ (.ref D) (.builtin "BaseException.__getattribute__") true expr) _ _ _
 unfold getAttrByItsOwn hookBefore
 refine wpAny_bind ?_
 show wpAny _ _ (typeLookup (.ref D) "__getattr__") _ _ _
 refine L2.at ?_
 refine wpAny_bind (wpAny_attempt (wpAny_holding ?_))
 unfold callGetattribute boundAndCalled
 have hx0:(expr&&onTheHeap (Value.builtin "BaseException.__getattribute__"))=false:=by cases expr<;>rfl
 rw[hx0,if_neg Bool.false_ne_true]
 show wpAny _ _ (bindSpecial (.builtin "BaseException.__getattribute__") (.ref x) >>= _) _ _ _
 rw[f3]
 refine wpAny_bind (wpAny_pure ?_)
 show wpAny _ _ (call (.builtin "BaseException.__getattribute__") [.ref x,.str name _]) _ _ _
 refine wpAny_call (codeAny_call_builtin PySem.F.attr_ValueError.ga.plain PySem.F.entry_bexc_ga ?_)
 have hkd:builtinKind "BaseException.__getattribute__"=some .slot:=by decide +kernel
 have hsp:splitId "BaseException.__getattribute__"=some ("BaseException","__getattribute__"):=by decide +kernel
 have ha:=PySem.F.args_bexc_ga (.ref x) (.str name t)
 have LI:Looks (model prog w) hh0 (isInstance (.ref x) (.type "BaseException")) true:=L0.andThen L4
 simp only[checkBuiltinCall,hkd,hsp]
 refine wpAny_bind (LI.at ?_)
 simp only[Bool.not_true,Bool.false_eq_true,if_false]
 refine wpAny_of_eq (a:=()) ha ?_
 unfold Builtin.«object.__getattribute__»
 refine wpAny_bind (m:=slotArgs _ _ _) (wpAny_pure ?_)
 dsimp only
 refine wpAny_bind ?_
 show wpAny _ _ (Builtin.ObjectAttr.attrName (.str name t)) _ _ _
 first
  |exact wpAny_pure (wpAny_bind (L0.at (wpAny_bind (L3.at ?_))))
  |(refine wpAny_pure (wpAny_bind (L0.at (wpAny_bind (L3.at ?_)))))
  |(unfold Builtin.ObjectAttr.attrName;refine wpAny_pure (wpAny_bind (L0.at (wpAny_bind (L3.at ?_)))))
 dsimp only
 refine wpAny_pure ?_
 exact handed_on hh h
end
noncomputable abbrev Xm(c n:Nat)(t:T)(μ:Mem):RE T:=match t with
 |.exc c' fs=>.grd (c'=c) (match yw fs n with|some v=>.ok v μ|none=>.st)
 |_=>.st
noncomputable abbrev Q2(c n:Nat)(f:De):De:=λτ μ=>(f τ μ).bind λt μ1=>Xm c n t μ1
section
variable {X:Cx}{D:DP}{W:XW}{Γ:Cn}{k:Nat}{pins:List (Addr×Obj)}{s:Shared}{σ:St}{H:Hp}{φ α:List Addr}{τ:Sl}{μ:Mem}{a:Expr}{pos:Pos}{f:De}
theorem JY(C:Ck D W Γ X k){x nm:Str}{c n:Nat}(hp:zJ a=true)(hU:hash x∈Γ.U)(hg:Γ.gl (hash x)=.xin c n nm x)(ha:PE X a (rdE D W f)):PE X (.Attribute a x pos) (rdE D W (Q2 c n f)):=by
 have q:=(C.glU _ hU).1
 rw[hg] at q
 obtain⟨C0,HE,fI,fd,ps,kk,ad,hm,hfl,xi,hb,hkk,F,_⟩:=q
 rintro pins s σ H Q I ⟨φ,α,τ,μ,sr,mr,p⟩
 refine ZA (z_ hp) (thn (sub ha I sr mr p) ?_)
 rintro u s1 ⟨v,H1,t,μ1,α1,I1,r1,st1,sr1,mr1,d1,p1⟩
 unfold Xm at p1
 split at p1
 ·rename_i c' fs
  have hh:=p1.grd
  clear p1
  obtain⟨hc,p1⟩:=hh
  subst hc
  obtain⟨e,Ce,d,rfl,n1,n2,ad',he,hd⟩:=d1
  rw[ad] at ad'
  cases ad'
  cases r1
  split at p1
  ·rename_i w hw
   cases d with
   |none=>rw[show fs=[] from hd] at hw;cases hw
   |some dx=>
    obtain⟨gs,m1,m2,hdx,l⟩:=hd
    obtain⟨y,z,hy,hz,dz⟩:=l.look hw
    rw[hfl] at hy
    cases hy
    obtain⟨oe,vs,g1,g2,g3,g4⟩:XcAt e C0 (some dx) s1.heap:=(show ObjOk X.prog X.w H1 s1.heap e (.ext (XcAt e C0 (some dx))) from I1.hok _ _ he).1
    obtain⟨mA,ns,rel⟩:=(show ObjOk X.prog X.w H1 s1.heap dx (.xd gs) from I1.hok _ _ hdx)
    obtain⟨uu,hu,ru⟩:=RelO.some_of (v:=z) (o:=mA x) (by rw[←hz];exact rel x)
    obtain⟨od,ho,hl⟩:=xh ns
    have xc:=C.xcx _ _ ad
    have J:PySem.W.InstAt s1.heap e oe C0 (some od):=⟨g1,g2,by unfold PySem.W.notCls;rw[g3],by rw[g4];exact ho⟩
    exact QB I1.kIn J xc.ga xc.hk (PySem.W.findObj_own xi.dct xi.no rfl (by rw[hl,hu])) xc.bx (kI ru) ⟨z,H1,I1.tok _,ru,p1.here mr1 dz⟩
  ·exact p1.elim
 ·exact p1.elim
end
noncomputable def KI:Expr->Bool
 |.Name x _=>x != "self"
 |_=>true
noncomputable def VG:ER:=λr Γ e=>match e with
 |.Attribute a x _=>gd (zJ a&&KI a&&Γ.U.contains (hash x)) ((r.e Γ a).bind λf=>(match Γ.gl (hash x) with
  |.xin c n _ fl=>gd (fl == x) (some (Q2 c n f))
  |_=>none))
 |_=>none
theorem V_{D:DP}:EOk D VG:=by
 intro r H X W Γ k e d C h
 unfold VG at h
 split at h
 ·rename_i a x p0
  have hh:=zo h
  clear h
  obtain⟨hb,h⟩:=hh
  simp only[Bool.and_eq_true] at hb
  obtain⟨⟨h0,h2⟩,h3⟩:=hb
  obtain⟨f,h6,h⟩:=bnd h
  cases hl:Γ.gl (hash x) with
  |xin c n nm fl=>
   simp only[hl] at h
   obtain⟨h7,h8⟩:=zo h
   have h7:=beq_iff_eq.mp h7
   subst h7
   cases h8
   exact JY C h0 (by simpa using h3) hl (H.e C h6)
  |_=>simp[hl] at h
 ·cases h
end NH
namespace NH.P
open PySem L2 NH
@[reducible] noncomputable def kX:List Ds:=[(sIf (tOr (vx (tE (jF [3] (eV 0)))) (tE (zI .NotEq (eB1 wO (eV 0)) (eV 1)))) [(zx (eC (.bl false)))] []),(zx (eB1 Jm (wt 1 [] (.one 0) (iE (eV 0)) [] (zI .In (eV 0) (eC (.str "0123456789abcdefghjkmnpqrstvwxyz"))))))]
noncomputable def j9:Fn:=fnW 2 0 kX
@[reducible] noncomputable def vV:List Ds:=[(zf 1 (eC (.int 0))),(uy (.one 2) (iE (eV 0)) [(zf 1 (za .Add (za .Mult (eV 1) (eC (.int 32))) (Zv (eC (.str "0123456789abcdefghjkmnpqrstvwxyz")) (eV 2))))]),(zx (eV 1))]
noncomputable def wj:Fn:=fnW 1 2 vV
@[reducible] noncomputable def j0:List Ds:=[(sIf (vx (tE (z9 j9 [(eV 1),(z9 width [(eV 0)])]))) [(qZ 14 28 (eC (.int 0)))] []),(zf 2 (z9 wj [(eV 1)])),(sIf (vx (tE (z9 j8 [(eV 0),(eV 2)]))) [(qZ 14 28 (eC (.int 0)))] []),(zx (eV 2))]
noncomputable def w8:Fn:=fnW 2 1 j0
@[reducible] noncomputable def kM:List Ds:=[(zf 1 (za .Sub (za .Mult (za .Mult (eIx (eV 0) (eC (.int 0))) (eIx (eV 0) (eC (.int 1)))) (eIx (eV 0) (eC (.int 2)))) (eC (.int 1)))),(zf 2 (eC (.int 1))),(jX (tE (zI .GtE (eV 1) (eC (.int 32)))) [(zf 1 (za .FloorDiv (eV 1) (eC (.int 32)))),(zf 2 (za .Add (eV 2) (eC (.int 1))))]),(zx (eV 2))]
noncomputable def je:Fn:=fnW 1 2 kM
@[reducible] noncomputable def jH:List Ds:=[(zf 2 (eC (.str "0123456789abcdefghjkmnpqrstvwxyz"))),(zf 3 (eC (.str ""))),(uy (.one 4) (uU (z9 je [(eV 0)])) [(zf 3 (za .Add (eIx (eV 2) (za .BitAnd (za .RShift (eV 1) (za .Mult (eC (.int 5)) (eV 4))) (eC (.int 31)))) (eV 3)))]),(zx (eV 3))]
noncomputable def zX:Fn:=fnW 2 3 jH
end NH.P
namespace NH
open PySem PySem.Spec PyProof.Rows L2
section
variable {X:Cx}{D:DP}{W:XW}{Γ:Cn}{k:Nat}{pins:List (Addr×Obj)}{s:Shared}{σ:St}{H:Hp}{φ α:List Addr}{τ:Sl}{μ:Mem}{f g:De}{a b:Expr}{pos:Pos}
noncomputable abbrev z1x(is:List Nat)(t:T)(τ:Sl):Option Sl:=match t with
 |.lst ts=>yh is ts τ
 |_=>none
noncomputable abbrev Xj(x y:T)(μ:Mem):RE T:=match x,y with
 |.lst xs,.lst ys=>.grd (xs.length+ys.length<=room) (.ok (.mut μ.length) (μ++[.lst (xs++ys)]))
 |.mut i,.lst ys=>λK _=>∃xs,μ[i]?=some (.lst xs)/\xs.length+ys.length<=room/\K (.mut μ.length) (μ++[.lst (xs++ys)])
 |_,_=>.st
noncomputable abbrev ZP(f g:De):De:=λτ μ=>(f τ μ).bind λx μ1=>(g τ μ1).bind λy μ2=>Xj x y μ2
theorem K4(ha:PE X a (rdE D W f))(hb:PE X b (rdE D W g)):PE X (.BinOp a .Add b pos) (rdE D W (ZP f g)):=by
 rintro pins s σ H Q I ⟨φ,α,τ,μ,sr,mr,p⟩
 refine wpAny_BinOp (thn (sub ha I sr mr p) ?_)
 rintro u s1 ⟨v,H1,t,μ1,α1,I1,r1,st1,sr1,mr1,d1,p1⟩
 refine thn (sub hb I1 sr1 mr1 p1) ?_
 rintro u' s2 ⟨v',H2,t',μ2,α2,I2,r2,st2,sr2,mr2,d2,p2⟩
 have d1:=d1.step st2
 have cat:∀{a b:Addr} {vs ws:List V} {xs ys:List T},Rd H2 a (.lst vs)->Rd H2 b (.lst ws)->DenL D φ α2 H2 xs vs->DenL D φ α2 H2 ys ws->v=.ref a->v'=.ref b->xs.length+ys.length<=room->Post D W φ α2 H2 σ (RV D φ Q) (RE.ok (.mut μ2.length) (μ2++[.lst (xs++ys)]))->wpAny (model X.prog X.w) X.A (binaryOp .Add u u') (EP X pins σ Q) X.xe s2:=λ{a b vs ws xs ys} q1 q2 l1 l2 e1 e2 h p=>by
  subst e1 e2
  exact ym pins s2 σ H2 _ _ _ _ Q I2 r1 r2 ⟨a,b,vs,ws,rfl,rfl,q1,q2,by rw[←l1.length,←l2.length];exact zp h,λz hz=>p.lay mr2 hz (l1.append l2)⟩
 unfold Xj at p2
 split at p2
 ·obtain⟨h,p2⟩:=p2.grd
  obtain⟨a,vs,rfl,n1,n2,q1,l1⟩:=d1
  obtain⟨b,ws,rfl,m1,m2,q2,l2⟩:=d2
  exact cat q1 q2 l1 l2 rfl rfl h p2
 ·obtain⟨xs,hi,p2⟩:=p2.ex1
  obtain⟨h,p2⟩:=Post.grd p2
  obtain⟨a,ha,rfl⟩:=d1
  obtain⟨vs,q1,l1⟩:=mr2.ob _ a _ ha hi
  obtain⟨b,ws,rfl,m1,m2,q2,l2⟩:=d2
  exact cat (.inl q1) q2 l1 l2 rfl rfl h p2
 ·exact p2.elim
end
noncomputable def Jn:ER:=λr Γ e=>match e with
 |.BinOp a .Add b _=>(r.e Γ a).bind λf=>(r.e Γ b).bind λg=>some (ZP f g)
 |_=>none
theorem Vl{D:DP}:EOk D Jn:=by
 intro r H X W Γ k e d C h
 unfold Jn at h
 split at h
 ·obtain⟨f,h1,h⟩:=bnd h
  obtain⟨g,h2,h⟩:=bnd h
  cases h
  exact K4 (H.e C h1) (H.e C h2)
 ·cases h
noncomputable abbrev z1v(n:Nat)(o f:De):De:=λτ μ=>(o τ μ).bind λt μ1=>(Z7 t n μ1).bind λw μ2=>.grd (z0d w) ((f τ μ2).bind λ_ μ3=>.ok .non μ3)
noncomputable abbrev z1w(j:Nat):De:=λ_ (μ:Mem) K _=>(∃i:Nat,μ[i]?=some (MO.tab j))/\K (.clo (2 * j) [.clo (100+j) []]) μ
noncomputable def z1y:Str:=⟨#[37]⟩
noncomputable def z1t(i:Nat)(t:T)(μ:Mem)(zs:List T):Prop:=t=.lst zs\/∃j,t=.mut j/\j≠i/\μ[j]?=some (.lst zs)
noncomputable abbrev vU(o f:De):De:=λτ μ=>(o τ μ).bind λot μ1=>match ot with
 |.str sep=>(f τ μ1).bind λt μ2=>match t with
  |.lst ts=>λK _=>∃ys,strsOf ts=some ys/\JoinOk sep ys=true/\K (.str (Txt.join sep ys)) μ2
  |.mut i=>λK _=>∃ts,μ2[i]?=some (.lst ts)/\∃ys,strsOf ts=some ys/\JoinOk sep ys=true/\K (.str (Txt.join sep ys)) μ2
  |_=>.st
 |_=>.st
section
variable {X:Cx}{D:DP}{W:XW}{Γ:Cn}{k:Nat}{f:De}{a:Expr}
theorem Ka:MtR X "str.join" (λx vs H Q=>∃(sep:Str) (l:Addr) (ws:List V) (ys:List Str),x=.str sep/\vs=[.ref l]/\Rd H l (.lst ws)/\ws=ys.map V.str/\JoinOk sep ys=true/\Q (.str (Txt.join sep ys)) H):=by
 intro pins s σ H x vs v us Q I rx rv h
 obtain⟨sep,l,ws,ys,rfl,rfl,hH,rfl,hok,q⟩:=h
 obtain⟨t0,rfl⟩:=rx
 obtain⟨u1,rfl,r1⟩:=vals1 rv
 cases r1
 obtain⟨its,r,pl,_⟩:=I.list (.inl hH)
 have key:∀{ys:List Str} {us:List Value},Vals (ys.map V.str) us->∃ls:List (Str×Tok),strValues ls=us/\ls.map (·.1)=ys:=by
  intro ys
  induction ys with
  |nil=>intro us r;cases r;exact⟨[],rfl,rfl⟩
  |cons y ys ih=>
   intro us r
   cases r with
   |cons r1 r2=>
    obtain⟨t,rfl⟩:=r1
    obtain⟨ls,rfl,e⟩:=ih r2
    exact⟨(y,t)::ls,rfl,by simp[e]⟩
 obtain⟨ls,e1,e2⟩:=key r
 have hl:=pl.isList
 rw[←e1] at hl
 exact SC.join hl e2 hok λt' k=>⟨.str _,H,I.tok _,⟨_,rfl⟩,q⟩
noncomputable def jOb (o:Expr):Bool:=zJ o || (match o with|.Constant _ _ _=>true|_=>false)
theorem Ua{o:Expr}{f:Str}{env:Env}(h:jOb o=true):attributeBase o f env (eval o env)=eval o env:=by
 cases hp:zJ o with
 |true=>exact z_ hp
 |false=>
  unfold jOb at h
  rw[hp] at h
  cases o with
  |Constant _ _ _=>rfl
  |_=>cases h
theorem KN{o:Expr}{pa pc:Pos}{go:De}(hp:jOb o=true)(hs:noStar a=true)(hline:(pa.endLine == pc.line)=true)(ho:PE X o (rdE D W go))(ha:PE X a (rdE D W f)) :
  PE X (.Call (.Attribute o "join" pa) [a] [] pc) (rdE D W (vU go f)):=by
 have hb2:starEach [a] X.env=[(false,eval a X.env)]:=z5 hs
 refine PE.mono (ZT PySem.F.plainAttrs_str PySem.F.slot_str_join PySem.F.type_str_join Ka ho (zm ha zH (z5 hs)) (Ua hp) (by rw[hb2];rfl) hline (z5 hs) rfl) ?_
 rintro σ H Q ⟨φ,α,τ,μ,sr,mr,p⟩
 refine⟨φ,α,τ,μ,sr,mr,p.bind.mono λot μ1 α1 H1 st1 m1 q ov dv=>?_⟩
 split at q
 case h_2=>exact q.elim
 have dv:ov=.str _:=dv
 subst dv
 refine⟨rfl,φ,α1,τ,μ1,sr.step st1,m1,q.bind.mono λt μ2 α2 H2 st2 m2 q2 v d=>?_⟩
 split at q2
 ·obtain⟨K,Z,⟨ys,h1,h2,q3⟩,hk,hz⟩:=q2
  obtain⟨ad,xs,rfl,_,_,rd,l⟩:=d
  exact⟨_,ad,xs,ys,rfl,rfl,rd,wH h1 l,h2,hk _ _ q3 α2 H2 (Stp.refl _ _) m2 _ rfl⟩
 ·obtain⟨K,Z,⟨ts,hj,ys,h1,h2,q3⟩,hk,hz⟩:=q2
  obtain⟨ad,hi,rfl⟩:=d
  obtain⟨xs,rd,l⟩:=m2.ob _ ad _ hi hj
  exact⟨_,ad,xs,ys,rfl,rfl,.inl rd,wH h1 l,h2,hk _ _ q3 α2 H2 (Stp.refl _ _) m2 _ rfl⟩
 ·exact q2.elim
end
noncomputable def rJoin:ER:=λr Γ e=>match e with
 |.Call (.Attribute o m pa) [a] [] pc=>gd (m == ("join":Str)&&jOb o&&noStar a&&pa.endLine == pc.line) ((r.e Γ o).bind λf=>(r.e Γ a).bind λg=>some (vU f g))
 |_=>none
theorem J7{D:DP}:EOk D rJoin:=by
 intro r H X W Γ k e d C h
 unfold rJoin at h
 split at h
 ·have hh:=zo h
  clear h
  obtain⟨hb,h⟩:=hh
  simp only[Bool.and_eq_true] at hb
  obtain⟨⟨⟨h0,h2⟩,h3⟩,h4⟩:=hb
  have h0:=beq_iff_eq.mp h0
  subst h0
  obtain⟨f,h1,h⟩:=bnd h
  obtain⟨g,h5,h⟩:=bnd h
  cases h
  exact KN h2 h3 h4 (H.e C h1) (H.e C h5)
 ·cases h
end NH
namespace NH.P
open PySem L2 NH
@[reducible] noncomputable def vt:List Ds:=[(sIf (vx (tE (jF [3] (eV 0)))) [(qZ 14 28 (eC (.int 0)))] [])]
noncomputable def zR:Fn:=fnW 1 0 vt
@[reducible] noncomputable def jJ:List Ds:=[(zf 1 (eC (.str "abcdefghijklmnopqrstuvwxyz"))),(zf 2 (z9 zk [(eV 0),(eC (.int 4))])),(sIf (tE (zI .Eq (eV 2) (eC (.int 0)))) [(zf 3 (qy [(eC (.str "any")),(eC (.str "lease")),(eC (.str "ask")),(eC (.str "store")),(eC (.str "take")),(eC (.str "back")),(eC (.str "fall")),(eC (.str "bare")),(eC (.str "runs")),(eC (.str "stands")),(eC (.str "world")),(eC (.str "judge"))])),(zx (eIx (za .Add (eV 3) (qy [(eC (.str "who")),(eC (.str "tell")),(eC (.str "book")),(eC (.str "z"))])) (z9 zk [(eV 0),(eC (.int 16))])))] []),(sIf (tE (zI .Eq (eV 2) (eC (.int 1)))) [(zf 4 (eSl (eC (.str "bcdefghi")) pN (pS (za .Add (eC (.int 1)) (z9 zk [(eV 0),(eC (.int 8))]))))),(zf 5 (z9 zk [(eV 0),(eB1 wO (eV 4))])),(zx (za .Add (za .Add (eSl (eV 4) pN (pS (eV 5))) (eIx (eC (.str "axz")) (z9 zk [(eV 0),(eC (.int 3))]))) (eSl (eV 4) (pS (za .Add (eV 5) (eC (.int 1)))) pN)))] []),(zx (vU (eC (.str "")) (wt 1 [1,0] (.one 0) (uU (za .Add (eC (.int 1)) (z9 zk [(eV 0),(eC (.int 8))]))) [] (eIx (eV 1) (z9 zk [(eV 2),(eC (.int 26))])))))]
noncomputable def vq:Fn:=fnW 1 5 jJ
end NH.P
namespace NH
open PySem PySem.Spec PyProof.Rows L2 PySem.W
noncomputable def zS (K:Frag)(x:Str)(st:Stmt):Prop:=∃f fd,nsIn K mainGlobals x=some (some (.ref f))/\Fun K x x st f fd
noncomputable def Uh (K:Frag)(C:Addr)(x q:Str)(st:Stmt):Prop:=∃f fd,nsIn K mainGlobals x=some (some (.ref C))/\findIn K (.ref C) "__init__"=some (some (.ref f))/\isFn K (.ref f)=true/\Fun K "__init__" q st f fd/\makesIn K C=true/\keepIn K (.ref C)=true
theorem dfp{K:Frag}{x:Str}{st:Stmt}{f:Addr}{oc:Value}{od an:Option Addr}{osl:Array (Option Value)}{kV doc pm cdv ct:Value}(a:nsIn K mainGlobals x=some (some (.ref f)))(l:K.lookup f=some ⟨oc,od,.func (fnOf x x (zU st) (zb st) (zB st) .none kV doc pm an cdv ct),osl⟩)(c:codeIn K cdv x=true)(k:keepIn K (.ref f)=true):zS K x st:=⟨f,_,a,xY l c k⟩
theorem clp {K:Frag} {x q:Str} {st:Stmt} {f C:Addr} {oc:Value} {od an:Option Addr} {osl:Array (Option Value)} {kV doc pm cdv ct:Value} (a:nsIn K mainGlobals x=some (some (.ref C))) (i:findIn K (.ref C) "__init__"=some (some (.ref f))) (j:isFn K (.ref f)=true) (l:K.lookup f=some ⟨oc,od,.func (fnOf "__init__" q (zU st) (zb st) (zB st) .none kV doc pm an cdv ct),osl⟩) (c:codeIn K cdv q=true) (k:keepIn K (.ref f)=true) (m:makesIn K C=true) (kk:keepIn K (.ref C)=true):Uh K C x q st:=⟨f,_,a,i,j,xY l c k,m,kk⟩
noncomputable def PL:Nat->(List Value->Prop)->Prop
 |0,P=>P []
 |n+1,P=>∀a,PL n λl=>P (a::l)
theorem PL.all:∀{n:Nat} {P:List Value->Prop},PL n P->∀us:List Value,us.length=n->P us
 |0,_,h,[],_=>h
 |_+1,_,h,a::l,e=>PL.all (h a) l (Nat.succ.inj e)
abbrev BdP(x q:Str)(st:Stmt)(ps:List Str):Prop:=∀(kV doc pm:Value) (an:Option Addr) (cdv ct:Value),PL ps.length λus=>bindArgs (fnOf x q (zU st) (zb st) (zB st) .none kV doc pm an cdv ct) ⟨us,[]⟩=pure (ps.zip us)
abbrev GsB(l:OpenLaw)(w:World)(K:Frag)(mg:Str->Option Value)(base:Heap)(k:Nat)(gs:List (Str×GM)){A:Ads}{clo:Nat->Addr->Option HO->List V->Prop}{tabs:Nat->Option (Addr×List Pos×Str)}:Prop:=GsOk l.prog w K mg base A clo k gs tabs
structure Pk(R:Rules)(K:Frag)(mg:Str->Option Value)(base:Heap)(A:Ads)(cls fld:List (Str×Nat)):Prop where
 r:∀{D},RulesOk D R
 i:K.In base
 n:base.Ns mainGlobals mg
 c:chk K A cls fld=true
section
variable {R:Rules}{P:Program}{w:World}{K:Frag}{mg:Str->Option Value}{base:Heap}{A:Ads}{cls fld:List (Str×Nat)}{clo:Nat->Addr->Option HO->List V->Prop}{gs:List (Str×GM)}{tabs:Nat->Option (Addr×List Pos×Str)}{k:Nat}{x qu:Str}{st:Stmt}{f C:Addr}{fd:FuncData}{ps N G cel own:List Str}{m n:Nat}{ds:List Ds}
theorem Pk.ok(Z:Pk R K mg base A cls fld)(F:Fun K x qu st f fd)(q:GsOk P w K mg base A clo k gs tabs)(hds:zt ((comp R n).s (cn cls fld gs N G cel own none)) (zb st)=some ds)(hs:W7 (cn cls fld gs N G cel own none) ps (zB st)=true)(hm:N.length=ps.length+m) :
  FnOk P w K mg base (CX1 P w) (k+1) f fd ps (spN (mkD K A clo tabs) ps.length (fnW ps.length m ds)):=by
 obtain⟨oc,od,kV,doc,pm,an,cdv,ct,osl,rfl,lk,hcd⟩:=F.ex
 exact ZC Z.r (Xi Z.i Z.n Z.c q) lk hcd hs hm hds
theorem Pk.fn (Z:Pk R K mg base A cls fld) (p:zS K x st) (q:GsOk P w K mg base A clo k gs tabs) (hds:zt ((comp R n).s (cn cls fld gs N G cel own none)) (zb st)=some ds) (hs:W7 (cn cls fld gs N G cel own none) ps (zB st)=true) (hm:N.length=ps.length+m) (hb:BdP x x st ps) (hx:(x == ("__debug__":Str))=false) :
  GsOk P w K mg base A clo (k+1) ((x,GM.fn (fnW ps.length m ds))::gs) tabs:=by
 obtain⟨f,fd,a,F⟩:=p
 exact GsOk.add (q.mono (Nat.le_succ k)) ⟨f,mg_of Z.i Z.n a,fd,ps,k+1,F.kp,F.binds λkV dc pm an cd ct=>(hb kV dc pm an cd ct).all,Nat.le_refl _,Z.ok F q hds hs hm,Qg⟩ hx
theorem Pk.cl {c:Nat} {b:Bool} (Z:Pk R K mg base A cls fld) (p:Uh K C x qu st) (q:GsOk P w K mg base A clo k gs tabs) (hds:zt ((comp R n).s (cn cls fld gs N G cel own none)) (zb st)=some ds) (hc:A.cs.lookup c=some C) (hs:W7 (cn cls fld gs N G cel own none) ps (zB st)=true) (hm:N.length=ps.length+m) (hb:BdP "__init__" qu st ps) (hx:(x == ("__debug__":Str))=false) :
  GsOk P w K mg base A clo (k+2) ((x,GM.mk c b (fnW ps.length m ds))::gs) tabs:=by
 obtain⟨f,fd,a,i,j,F,mk,kk⟩:=p
 exact GsOk.add (q.mono (Nat.le_add_right k 2)) ⟨C,f,fd,ps,k+1,hc,mg_of Z.i Z.n a,⟨mk,i,j,kk⟩,F.binds λkV dc pm an cd ct=>(hb kV dc pm an cd ct).all,Nat.le_refl _,Z.ok F q hds hs hm,Qg⟩ hx
end
end NH
namespace NH
open PySem PySem.Spec PyProof.Rows L2
noncomputable abbrev yq(t:T)(μ:Mem):RE T:=match t with
 |.int i=>.ok (.int i) μ
 |.bl b=>.ok (.int (if b then 1 else 0)) μ
 |.str x=>.grd (x.length<=640) (.som (intText? x) λn=>.ok (.int n) μ)
 |_=>.st
section
variable {X:Cx}{D:DP}{W:XW}{Γ:Cn}{k:Nat}{pins:List (Addr×Obj)}{s:Shared}{σ:St}{H:Hp}{φ α:List Addr}{τ:Sl}{μ:Mem}{f g:De}{a b:Expr}{pos:Pos}
theorem Y8:B1 X D W (.type "int") yq:=by
 intro pins s σ H φ α μ t v u Q I mr d r p
 unfold yq at p
 split at p
 ·cases d;exact kE pins s σ H _ _ Q I (.cons r .nil) (.inl ⟨_,rfl,p.here mr rfl⟩)
 ·cases d;exact kE pins s σ H _ _ Q I (.cons r .nil) (.inr ⟨_,rfl,p.here mr rfl⟩)
 ·rename_i x
  obtain⟨hl,p1⟩:=p.grd
  obtain⟨n,hn,p2⟩:=p1.som
  have d:v=.str x:=d
  subst d
  obtain⟨t0,rfl⟩:=r
  exact PySem.W.KIN.call_text hn hl ⟨.int n,H,I.tok _,⟨_,rfl⟩,p2.here mr rfl⟩
 ·exact p.elim
noncomputable def X5:ER:=rB1 "int" yq false
theorem VC{D:DP}:EOk D X5:=xI λC hx hg _ hs ha=>X6 C hx hg (by decide +kernel) (by decide) hs Y8 ha
end
theorem ky:entryFor table "proto.unchain"=some Builtin.«proto.unchain»:=entryFor_of_tree (by kernel_rfl)
section
variable {prog:Program}{w:World}{A:Around}{E:Value->Shared->Prop}{s:Shared}
theorem yJ{α:Type}{e hx:Addr}{oe oh:Obj}{vs vh:Array Value}{Q:α->Shared->Prop}(hh:A.handled=some (.ref hx))(ne:e≠hx)(ge:s.heap.get? e=some oe)(de:oe.data=.fields vs)(sz:2<vs.size)
  (gh:s.heap.get? hx=some oh) (dh:oh.data=.fields vh) (h2:vh[2]?=some .none) (q:E (.ref e) {s with heap:=s.heap.update e (Obj.mapFields (·.setIfInBounds 2 (.ref hx)))}):wpAny (model prog w) A (raiseNew (.ref e):Sem α) Q E s:=by
 unfold raiseNew
 refine wpAny_bind (wpAny_handled ?_)
 rw[hh]
 dsimp only
 have nb:((Value.ref hx) != Value.ref e)=true:=by simp;exact λz=>ne z.symm
 rw[if_pos nb]
 refine wpAny_bind (wpAny_holding (wpAny_runValue (codeAny_builtin ky ?_)))
 unfold Builtin.«proto.unchain»
 dsimp only
 refine wpAny_bind (wpAny_field gh dh h2 ?_)
 rw[if_pos (by rfl)]
 refine wpAny_bind (wpAny_pure ?_)
 refine wpAny_pure ?_
 refine wpAny_bind ?_
 show wpAny (model prog w) A (setField (.ref e) 2 (.ref hx)) _ _ _
 exact wpAny_setField ge de sz (wpAny_throw q)
variable {nm q:Str}{C N:Addr}{bs bm:List Value}{hdct:Bool}{sn:List Str}{sub:List Value}{ab:Bool}{col:Option Bool}{dd:Option Addr}{k0 k1 k2 k3 k5:Option Value}{newId:String}
theorem yK {env:Env} {x c:Sem Value} {hx:Addr} {Q:Flow->Shared->Prop} (hbase:bm.contains (.type "BaseException")=true) (hh:A.handled=some (.ref hx)) (hc:∀(R:Value->Shared->Prop) s',R .none s'->wpAny (model prog w) A c R E s')
  (go:wpAny (model prog w) A x (λv s1=>∃e t dx oh vh,v=.ref e/\e≠hx/\e≠C/\s1.heap.get? C=some (excClassObj nm q C N bs bm hdct sn sub ab col dd k0 k1 k2 k3 k5 newId)/\
   s1.heap.get? e=some {cls:=.ref C,dict:=dx,data:=.fields #[.ref t,.none,.none,.none,.bool false,.none]}/\s1.heap.get? hx=some oh/\oh.data=.fields vh/\vh[2]?=some .none/\
   ∀h',h'.get? e=some {cls:=.ref C,dict:=dx,data:=.fields #[.ref t,.none,.ref hx,.none,.bool true,.none]}->(∀b o,b≠e->s1.heap.get? b=some o->h'.get? b=some o)->E (.ref e) {s1 with heap:=h'}) E s) :
  wpAny (model prog w) A (raiseStmt env (some x) (some c)) Q E s:=by
 have isB:(Value.ref C::bm).contains (.type "BaseException")=true:=by rw[List.contains_cons,hbase];simp
 unfold raiseStmt
 refine wpAny_bind (wpAny_mono go (λv s1 k=>?_) λ_ _ z=>z)
 obtain⟨e,t,dx,oh,vh,rfl,nex,neC,gC,ge,gh,dh,h2,gE⟩:=k
 refine wpAny_bind (wpAny_holding (hc _ _ (wpAny_bind (wpAny_pure ?_))))
 dsimp only
 obtain⟨h1,g1,d1,t1,o1⟩:=s1
 repeat (first|(with_reducible refine wpAny_loadPart_at ge ?_)|(with_reducible refine wpAny_loadPart_at gC ?_)|(with_reducible refine wpAny_isSubtype_exc gC ?_;rw[isB])|wp_step)
 have ge1:=Heap.get?_update_self (Obj.mapFields λx=>x.setIfInBounds 3 Value.none) ge rfl
 have ge2:=Heap.get?_update_self (Obj.mapFields λx=>x.setIfInBounds 4 (Value.bool true)) ge1 rfl
 have ge3:=Heap.get?_update_self (Obj.mapFields λx=>x.setIfInBounds 2 (Value.ref hx)) ge2 rfl
 have oth:∀b o,b≠e->h1.get? b=some o->((h1.update e (Obj.mapFields λx=>x.setIfInBounds 3 Value.none)).update e (Obj.mapFields λx=>x.setIfInBounds 4 (Value.bool true))).get? b=some o:=λb o hb ho=>by
  rw[Heap.get?_update_other _ _ (Ne.symm hb),Heap.get?_update_other _ _ (Ne.symm hb)];exact ho
 refine yJ hh nex ge2 rfl (by show 2<6;omega) (oth hx oh (Ne.symm nex) gh) dh h2 (gE _ ge3 λb o hb ho=>?_)
 rw[Heap.get?_update_other _ _ (Ne.symm hb)]
 exact oth b o hb ho
end
theorem RoomH.make{k:Nat}{A:Around}(r:RoomH (k+1) A)(C:Addr)(us:List Value)(kw:List (Str×Value)):RoomH k (A.under (.builtin "type.__call__" ⟨.ref C::us,kw⟩)):=
 ⟨by have:=r.dp;rw[jy];omega,by have:=r.un;rw[jG];omega⟩
section
variable {X:Cx}{D:DP}{W:XW}{Γ:Cn}{k:Nat}{pins:List (Addr×Obj)}{s:Shared}{σ:St}{H:Hp}{φ α:List Addr}{τ:Sl}{μ:Mem}{a:Expr}{pos:Pos}{E:Ends}{g:De}
theorem Va{C HE fI:Addr}{fl:Str}{fd:FuncData}{ps:List Str}{kk:Nat}{u:Value}{i:Int}{Q:Value->Shared->Prop}(xi:XIn X.K C HE fI fl)(hb:Binds X.K fd ps [])(hr:RoomH (kk+1) X.A)
  (F0:FnOk X.prog X.w X.K X.mg X.base (CX1 X.prog X.w) kk fI fd ps (spI C fl)) (F:jw X.prog X.w X.K X.mg X.base kk fI fd ps (spI C fl)) (I:Inv X pins σ H s) (r:RelV (.int i) u) (hlog:i.natAbs.log2<1920)
  (q:∀x dx t s',Inv X pins σ (upd H dx (.xd [(fl,.int i)])) s'->H dx=none->XOk X H x->dx≠x->s'.heap.get? x=some {cls:=.ref C,dict:=some dx,data:=.fields #[.ref t,.none,.none,.none,.bool false,.none]}->Q (.ref x) s') :
  wpAny (model X.prog X.w) X.A (call (.ref C) [u]) Q X.xe s:=by
 obtain⟨N,nm,qn,bs,hdd,sn,sub,ab,col,dd,k0,k1,k2,k3,k5,g1,g2,g3,g4⟩:=xi.at_ I.kIn
 obtain⟨oI,gf,gc⟩:∃oI,s.heap.get? fI=some oI/\oI.cls=.type "function":=by
  obtain⟨o,ho,e⟩:=Option.map_eq_some_iff.mp xi.fn
  exact⟨o,I.kIn _ _ ho,e⟩
 obtain⟨hh,gg,d,tk,os⟩:=s
 refine kS PySem.F.excBase_ValueError g4 g1 g2 g3 gf gc (λh1 x mk=>?_) (by rw[sizeLine_eq];show 1<=_;omega)
 have J:Inv X pins σ H ⟨h1,gg,d,tk,os⟩:=I.kept (t':=tk) mk.keeps
 have ox:XOk X H x:=qk I mk.new
 have hpn:∀p∈pins,p.1≠x:=λp hp z=>by
  have:=(I.pin p (List.mem_append_right _ hp)).1
  rw[z,mk.new] at this;cases this
 obtain⟨t,ho,_,_⟩:=mk.there
 have I2:Inv X pins σ (upd H x (.ext (wL x C))) ⟨h1,gg,d,tk,os⟩:=qA J ox hpn ⟨⟨t,ho⟩,⟨_,ho⟩,λh1 h2 ⟨t,e⟩ k=>⟨t,k _ e⟩⟩
 have rv:Vals [.ref x,.int i] [.ref x,u]:=.cons rfl (.cons r .nil)
 have hl:([Value.ref x,u]++[]).length=ps.length:=by
  have:=F0.len [.ref x,.int i] (upd H x (.ext (wL x C))) (λ_ _=>True) (λ_ _ _=>False) ⟨x,i,rfl,hlog,z7,λ_ _ _=>trivial⟩
  exact this
 refine wpAny_call (codeAny_mono (F _ X.stack ⟨h1,gg,d,tk,os⟩ (upd H x (.ext (wL x C))) ⟨[.ref x,u],[]⟩ [.ref x,u] [.ref x,.int i] (λv H'=>v=.non/\∃dx,H dx=none/\dx≠x/\H'=upd (upd H x (.ext (wu x C dx))) dx (.xd [(fl,.int i)])) (hr.make C [u] []) (I2.env0.make C [u] []) (by simpa using hb _ [.ref x,u] I2.kIn hl) rv
  ⟨x,i,rfl,hlog,z7,λdx hdx ne=>⟨rfl,dx,by rw[z8 ne] at hdx;exact hdx,ne,by rw[jd]⟩⟩) λres s' hq=>?_)
 cases res with
 |error e=>exact hq.elim
 |ok flw=>
  cases flw with
  |ret v=>
   obtain⟨v',H',I3,rv',⟨rfl,dx,hdx,ne,rfl⟩⟩:=I2.after hq
   refine⟨rv',?_⟩
   obtain⟨t',e'⟩:wu x C dx s'.heap:=(show ObjOk X.prog X.w _ s'.heap x (.ext (wu x C dx)) from I3.hok x _ (by rw[z8 (Ne.symm ne),z7])).1
   rw[yC (Ne.symm ne)] at I3
   have I4:=vM I3 (by rw[z8 (Ne.symm ne)];exact ox.free)
   exact q x dx t' s' I4 hdx ox ne e'
  |next=>exact False.elim hq
  |brk=>exact False.elim hq
  |cont=>exact False.elim hq
theorem uK{M:Model}{v:Option Value}{F0:Value->Shared->Prop}{e0:Env}{out:List Env}{L:Addr}(F:Frm X e0 out L)(hfr:X.A.frames=some X.stack)(hE:∀e s,XP X W e s->F0 e s){e:Value}(p:XP X W e s) :
  notedBy M (X.A.mark v) X.env (cameBackBy M X.A X.env F0) e s:=by
 unfold notedBy
 refine wk (A:=X.A.mark v) F hfr p λx cls d σ H T h' ee I ox oT tr w=>?_
 subst ee
 unfold cameBackBy
 obtain⟨oe,vs,a0,oT',ts,ho,hc,hd,hv0,hv1,hT,hoT,hdT,h3,_⟩:=id tr
 refine wpAny_bind (wpAny_field ho hd hv1 ?_)
 rw[if_neg (show ¬((Value.ref T == Value.none)=true) from by simp)]
 rw[F.fe]
 have go:wpAny M X.A (setFlight (.ref x) (some L)) (λ_ s''=>F0 (.ref x) s'') F0 {s with heap:=h'}:=
  zF (s:={s with heap:=h'}) I ox oT tr λh2 I2 tr2=>hE _ _ ⟨x,cls,d,σ,H,some T,rawInt L,rfl,I2,ox,λt ht=>by
   have:t=T:=by simpa using ht
   rw[this];exact oT,tr2,.inr ⟨L,F.fe,rfl⟩,w⟩
 first|exact go|exact wpAny_bind (wpAny_pure go)
end
noncomputable abbrev RE.clm{β:Type}(r:RE β):RE β:=λK _=>r K λ_ _ _=>False
noncomputable abbrev jb(c f:Nat)(g:De):Ds:=λτ μ=>(g τ μ).clm.out τ λt μ1=>match t with
 |.int i=>.grd (i.natAbs.log2<1920) (.ex c [(f,.int i),(f,.int i)] τ μ1)
 |_=>.st
noncomputable abbrev Jq(b:List Ds)(c n f:Nat)(g:De):Ds:=λτ μ E=>zY b τ μ (E.tri λk fs τ1 μ1=>(Out.br (qb k c) (.grd (fs.length<=1) (jb n f g τ1 μ1)) (.ex k fs τ1 μ1)) E)
section
variable {X:Cx}{pins:List (Addr×Obj)}{s:Shared}{σ:St}{H:Hp}
theorem UH{x:Addr}{a b:List (Str×V)}(I:Inv X pins σ (upd H x (.xd a)) s)(ab:∀y,b.lookup y=a.lookup y):Inv X pins σ (upd H x (.xd b)) s:=by
 have nn:∀c,upd H x (.xd a) c=none->upd H x (.xd b) c=none:=λc e=>by
  by_cases z:c=x
  ·rw[z,z7] at e;cases e
  ·rw[z8 z] at e ⊢;exact e
 have so:∀c o,upd H x (.xd a) c=some o->(∀g,o≠.xd g)->upd H x (.xd b) c=some o:=λc o e n=>by
  by_cases z:c=x
  ·rw[z,z7] at e;cases e;exact absurd rfl (n a)
  ·rw[z8 z] at e ⊢;exact e
 refine⟨I.ok,I.os,I.bare,⟨I.base.keep,I.base.slot,λb o e n hx'=>nn b (I.base.free b o e n hx'),I.base.there,λb xs e=>so b _ (I.base.tups b xs e) (λψ z=>by cases z),λb o u e=>so b _ (I.base.frzs b o u e) (λψ z=>by cases z),λb ps e=>?_⟩,I.loc,I.cell,nn _ I.free,λy c e=>(I.freeC y c e).imp (nn _) λ⟨n,o,u,f⟩=>⟨n,o,u,so c _ f (λψ z=>by cases z)⟩,λp hp=>?_,λc ob e=>?_,I.len⟩
 ·obtain⟨more,q⟩:=I.base.tbls b ps e
  exact⟨more,so b _ q (λψ z=>by cases z)⟩
 ·obtain⟨e,n,r⟩:=I.pin p hp
  exact⟨e,nn _ n,r⟩
 ·by_cases z:c=x
  ·subst z
   rw[z7] at e
   cases e
   obtain⟨mA,ns,rel⟩:=(show ObjOk X.prog X.w _ s.heap c (.xd a) from I.hok _ _ z7)
   exact⟨mA,ns,λy=>by rw[ab y];exact rel y⟩
  ·rw[z8 z] at e
   have q:=I.hok c ob (by rw[z8 z];exact e)
   exact q.stay (λ_ _ _ q=>q) (λc q=>so c _ q (λψ z=>by cases z)) λc xs q=>so c _ q (λψ z=>by cases z)
end
noncomputable def vp(x:Addr):Heap->Prop:=λh=>∃o vs,h.get? x=some o/\o.data=.fields vs/\vs[2]?=some .none
section
variable {X:Cx}{D:DP}{W:XW}{Γ:Cn}{k:Nat}{pins:List (Addr×Obj)}{s:Shared}{σ:St}{H:Hp}{φ α:List Addr}{τ:Sl}{μ:Mem}{a:Expr}{pos:Pos}{E:Ends}{g:De}
theorem VR(C:Sk D W Γ X k){x:Addr}:Sk D noW {Γ with calm:=false} (Cx.han (Cx.pin' X pins) x) k:=by
 obtain⟨e0,out,L,F⟩:=C.frm
 exact {hK:=C.hK,hN:=C.hN,nd:=C.nd,vis:=C.vis,dbg:=C.dbg,dbG:=C.dbG,glb:=C.glb,glo:=C.glo,glU:=C.glU,cel:=C.cel,isi:=C.isi,fld:=C.fld,xcx:=C.xcx,ocx:=C.ocx,clv:=C.clv,clm:=(λz=>by cases z),rom:=(λz=>by cases z),rmh:=⟨C.rmh.dp,C.rmh.un⟩,xe:=(λe s p=>by obtain⟨_,_,_,_,_,_,_,_,_,_,_,_,_,z⟩:=p;exact z),frm:=⟨e0,out,L,F.stk,F.f0,F.fe⟩,lam:=C.lam,kfz:=C.kfz,sto:=C.sto,lcl:=C.lcl,pso:=PassesOwn.never,xmt:=C.xmt}
theorem u_(C:Sk D W Γ X k){x:Addr}{y fl:Str}{n f ck:Nat}{p1 p2 p3 p4:Pos}(hy:y∈Γ.G)(hU:hash y∈Γ.U)(hg:Γ.gl (hash y)=.xin n f y fl)(hst:noStar a=true)(ha:PE (Cx.han (Cx.pin' X pins) x) a (rdE D noW g))
  (I:Inv (Cx.pin' X pins) [] σ H s) (ox:XOk (Cx.pin' X pins) H x) (hx:vp x s.heap) (sr:SRel D φ α H τ σ) (mr:MRel D φ α H μ) (p:PostS D W φ α H E (jb n f g τ μ)) {F0:Value->Shared->Prop} (hE:∀e s,XP X W e s->F0 e s) {R:Flow->Shared->Prop} :
  wpAny (model X.prog X.w) (X.A.mark (some (.ref x))) (exec (.Raise (some (.Call (.Name y p1) [a] [] p2)) (some (.Constant .none ck p3)) p4) X.env) R F0 s:=by
 have C2:=VR (pins:=pins) (x:=x) C
 have q:=(C.glU _ hU).1
 rw[hg] at q
 obtain⟨C0,HE,fI,fd,ps,kk,ad,hm,hfl,xi,hb,hkk,Fk,FH⟩:=q
 have hr:=C2.rmh.mono hkk
 have ok0:(Cx.pin' X pins).Ok:=I.ok
 have J:=vd (x:=x) (qA (o:=.ext (vp x)) I ox (λp hp=>absurd hp (by simp)) ⟨hx,let ⟨o,_,e,_⟩:=hx;⟨o,e⟩,λh1 h2 ⟨o,vs,e,q⟩ k=>⟨o,vs,k _ e,q⟩⟩)
 have st0:Stp α H α (upd H x (.ext (vp x))):=Stp.new (zd ox.free)
 have m0:=mr.new (zd (o:=HO.ext (vp x)) ox.free)
 have sr0:=sr.step st0
 have p0:=PostS.step p st0
 obtain⟨N,nm,qn,bs,hdd,sn,sub,ab,col,dd,k0,k1,k2,k3,k5,g1,g2,g3,g4⟩:=xi.at_ I.ok.mod.kin
 have hbase:(Value.ref HE::zz).contains (.type "BaseException")=true:=g4.hasType PySem.F.excBase_ValueError.hasBase
 generalize hH:upd H x (.ext (vp x))=H0 at J st0 m0 sr0 p0
 have hxt:H0 x=some (.ext (vp x)):=by rw[←hH];exact z7
 have body:wpAny (model X.prog X.w) (X.A.mark (some (.ref x))) (eval (.Call (.Name y p1) [a] [] p2) X.env) (λv s1=>∃e t dx oh vh,v=.ref e/\e≠x/\e≠C0/\s1.heap.get? C0=some (excClassObj nm qn C0 N bs (.ref HE::zz) hdd sn sub ab col dd k0 k1 k2 k3 k5 "ValueError.__new__")/\
   s1.heap.get? e=some {cls:=.ref C0,dict:=dx,data:=.fields #[.ref t,.none,.none,.none,.bool false,.none]}/\s1.heap.get? x=some oh/\oh.data=.fields vh/\vh[2]?=some .none/\
   ∀h',h'.get? e=some {cls:=.ref C0,dict:=dx,data:=.fields #[.ref t,.none,.ref x,.none,.bool true,.none]}->(∀b o,b≠e->s1.heap.get? b=some o->h'.get? b=some o)->F0 (.ref e) {s1 with heap:=h'}) F0 s:=by
  refine wpAny_mono (E:=(Cx.han (Cx.pin' X pins) x).xe) ?_ (λ_ _ z=>z) (λ_ _ z=>z.elim)
  refine wpAny_Call_ofName (qa (X:=Cx.han (Cx.pin' X pins) x) J (C2.glb y hy) hm ?_ (C2.dbG y hy))
  refine PySem.W.callWith_K (K:=X.K) (first:=[]) (h₀:=X.base) I.ok.mod.kin xi.kp (thn (zm ha zH (z5 hst) p2 [] s σ H0 (λvs H1=>∃v t μ1 α1,vs=[v]/\Stp α H0 α1 H1/\SRel D φ α1 H1 τ σ/\MRel D φ α1 H1 μ1/\Den D φ α1 H1 t v/\PostS D W φ α1 H1 E ((match t with
   |.int i=>.grd (i.natAbs.log2<1920) (.ex n [(f,.int i),(f,.int i)] τ μ1)
   |_=>.st:Out))) J ⟨φ,α,τ,μ,sr0,m0,?_⟩) ?_) (z5 hst) rfl
  ·obtain⟨Q,q,hQ⟩:=p0
   exact⟨_,_,q,λt μ' z α' H' st m v d=>⟨v,t,μ',α',rfl,st,sr0.step st,m,d,PostS.step ⟨Q,z,hQ⟩ st⟩,λ_ _ _ z=>z.elim⟩
  rintro us s1 ⟨vs,H1,I1,rv,v,t,μ1,α1,rfl,st1,sr1,mr1,d1,pp⟩
  obtain⟨u,rfl,r⟩:∃u,us=[u]/\RelV v u:=by
   cases rv with
   |cons r1 r2=>cases r2;exact⟨_,rfl,r1⟩
  refine⟨I1.kIn,?_⟩
  cases t<;>first|(obtain⟨Q,q,_⟩:=pp;exact q.elim)|skip
  rename_i i
  obtain⟨hlog,pp⟩:=PostS.grd pp
  cases d1
  refine Va (X:=Cx.han (Cx.pin' X pins) x) xi hb hr Fk FH I1 r hlog λe dx t s' I2 hdx oe ne he=>?_
  have hx1:H1 x=some (.ext (vp x)):=st1.keep x _ (zh mr ox.free) hxt
  have nx:e≠x:=λz=>by
   have:=oe.free
   rw[z,hx1] at this;cases this
  have nC:e≠C0:=λz=>by
   have:=I2.bk _ _ g1
   rw[←z,he] at this;cases this
  have ndx:x≠dx:=λz=>by rw[←z,hx1] at hdx;cases hdx
  obtain⟨oh,vh,hh1,hh2,hh3⟩:vp x s'.heap:=(show ObjOk X.prog X.w _ s'.heap x (.ext (vp x)) from I2.hok x _ (by rw[z8 ndx];exact hx1)).1
  refine⟨e,t,some dx,oh,vh,rfl,nx,nC,I2.bk _ _ g1,he,hh1,hh2,hh3,λh' he' hk=>hE _ _ ?_⟩
  have I3:Inv (Cx.han (Cx.pin' X pins) x) [] σ (upd H1 dx (.xd [(fl,.int i),(fl,.int i)])) s':=UH I2 λy=>by
   simp only[List.lookup]
   cases hy:(y == fl)<;>rfl
  have sm:vc H1 (upd H1 dx (.xd [(fl,.int i),(fl,.int i)])):=zd hdx
  have st2:Stp α1 H1 α1 (upd H1 dx (.xd [(fl,.int i),(fl,.int i)])):=Stp.new sm
  have oe2:XOk (Cx.han (Cx.pin' X pins) x) (upd H1 dx (.xd [(fl,.int i),(fl,.int i)])) e:=⟨by rw[z8 (Ne.symm ne)];exact oe.free,oe.loc,oe.nfs,oe.new,oe.cel,oe.pin⟩
  have I4:Inv (Cx.han (Cx.pin' X pins) x) [] σ (upd H1 dx (.xd [(fl,.int i),(fl,.int i)])) {s' with heap:=h'}:=jx (ch:=[e]) I3 (λb hb=>by rw[List.mem_singleton.mp hb];exact⟨oe2,λp hp=>absurd hp (by simp)⟩) (λb o _ hc e1=>hk b o (λz=>hc (by simp[z])) e1) λb o _ hc e1=>⟨o.slots,hk b o (λz=>hc (by simp[z])) e1⟩
  have I5:=(zi (wc ok0 I4)).pins_of (pins':=[]) (λp hp=>absurd hp (by simp))
  refine⟨e,cvF [(f,.int i),(f,.int i)] C0,some dx,σ,_,none,.none,rfl,I5,⟨oe2.free,oe2.loc,oe2.nfs,oe2.new,oe2.cel,λp hp=>oe2.pin p (List.mem_append_left _ hp)⟩,λt ht=>absurd ht (by simp),⟨⟨_,_,.ref t,he',⟨Q0.symm,rfl⟩,rfl,rfl,rfl,λa z=>by cases z⟩,rfl⟩,.inl rfl,?_⟩
  exact PostS.ex pp st2 (mr1.new sm) (sr1.step st2) ad ⟨_,zj mr1 hdx,zh mr1 hdx,z7,fl,.int i,_,hfl,rfl,rfl,fl,.int i,[],hfl,rfl,rfl,rfl⟩
 rw[arm_exec_Raise]
 simp only[evalOpt,Option.map]
 refine wpAny_bind (wpAny_standAt (yK (hx:=x) hbase rfl (λR s' q=>?_) (wpAny_bind (wpAny_mono body (λv s₃ h₃=>wpAny_bind (wpAny_standAt (wpAny_pure h₃))) λ_ _ x=>x))))
 exact wpAny_bind (wpAny_Constant_none (wpAny_bind (wpAny_standAt (wpAny_pure q))))
theorem JQ(C:Sk D W Γ X k)(hc:Γ.calm=true){body:List Stmt}{us:List Ds}{x0 y fl:Str}{c n f ck:Nat}{p0 p1 p2 p3 p4 pp:Pos}(hb:∀X' W',Sk D W' Γ X' k->j4 X' D W' body us)(hcx:HcOk Γ x0 c)
  (hy:y∈Γ.G) (hU:hash y∈Γ.U) (hg:Γ.gl (hash y)=.xin n f y fl) (hst:noStar a=true) (ha:∀X',Sk D noW {Γ with calm:=false} X' k->PE X' a (rdE D noW g)) :
  PS X (.Try body [.ExceptHandler (some (.Name x0 p0)) none [.Raise (some (.Call (.Name y p1) [a] [] p2)) (some (.Constant .none ck p3)) p4] pp] [] [] pos) (rdS D W (Jq us c n f g)):=by
 rintro pins s σ H E I ⟨φ,α,τ,μ,sr,mr,Q,q,h1,h2,h3,h4,h5⟩
 obtain⟨e0,out,L,F⟩:=C.frm
 have F0:Frm (Cx.pin' X pins) e0 out L:=⟨F.stk,F.f0,F.fe⟩
 generalize hW:(λ(cls:Value) (d:Option Addr) (σ':St) (H':Hp)=>∃kk fs τ1 μ1 α1 Ck,(Out.br (qb kk c) (.grd (fs.length<=1) (jb n f g τ1 μ1)) (.ex kk fs τ1 μ1)) Q/\D.adr kk=some Ck/\cls=cvF fs Ck/\Stp α H α1 H'/\MRel D φ α1 H' μ1/\SRel D φ α1 H' τ1 σ'/\XDict D φ α1 H' fs d:XW)=W1
 have C1:Sk D W1 Γ ((Cx.pin' X pins).wish (XP (Cx.pin' X pins) W1)) k:={hK:=C.hK,hN:=C.hN,nd:=C.nd,vis:=C.vis,dbg:=C.dbg,dbG:=C.dbG,glb:=C.glb,glo:=C.glo,glU:=C.glU,cel:=C.cel,isi:=C.isi,fld:=C.fld,xcx:=C.xcx,ocx:=C.ocx,clv:=C.clv,clm:=C.clm,rom:=C.rom,rmh:=⟨C.rmh.dp,C.rmh.un⟩,xe:=λe s p=>we p,frm:=⟨e0,out,L,F.stk,F.f0,F.fe⟩,lam:=C.lam,kfz:=C.kfz,sto:=C.sto,lcl:=C.lcl,pso:=vF F0 I.ok.frames,xmt:=C.xmt}
 have B:=zW (hb _ W1 C1) [] s σ H E ((jo I).wish _) ⟨φ,α,τ,μ,sr,mr,_,q,h1,h2,h3,h4,λkk fs τ1 μ1 z α' H' σ' Ck d st m sr' ad xd=>by rw[←hW];exact⟨kk,fs,τ1,μ1,α',Ck,z,ad,rfl,st,m,sr',xd⟩⟩
 refine wpAny_Try_except (wpAny_mono B (λf s1 h1=>?_) (λe1 s1 hx=>?_))
 ·cases f with
  |next=>obtain⟨σ',H',I',q⟩:=h1;exact yd pins s1 σ' H' E (zi I'.unwish) q
  |brk=>obtain⟨σ',H',I',q⟩:=h1;exact⟨σ',H',zi I'.unwish,q⟩
  |cont=>obtain⟨σ',H',I',q⟩:=h1;exact⟨σ',H',zi I'.unwish,q⟩
  |ret w=>obtain⟨y,σ',H',I',r,q⟩:=h1;exact⟨y,σ',H',zi I'.unwish,r,q⟩
 have hx:XP (Cx.pin' X pins) W1 e1 s1:=hx
 refine wk (X:=Cx.pin' X pins) F0 I.ok.frames hx λx cls d σ1 H1 Tt h' ee I1 ox oT tr w=>?_
 subst ee
 refine zF (X:=Cx.pin' X pins) (s:={s1 with heap:=h'}) I1 ox oT tr λh2' I2 tr2=>?_
 rw[←hW] at w
 obtain⟨kk,fs,τ1,μ1,α1,Ck,z,ad,rfl,st1,m1,sr1,xd⟩:=w
 have p:PostS D W φ α1 H1 E (Out.br (qb kk c) (.grd (fs.length<=1) (jb n f g τ1 μ1)) (.ex kk fs τ1 μ1)):=PostS.step ⟨Q,z,h1,h2,h3,h4,h5⟩ st1
 obtain⟨Cc,hmc⟩:=hcx.mg C
 have IX:=vd (x:=x) I2
 have hexm:=C.xmt kk x0 c hcx.2.1 hcx.2.2.2 Ck Cc ad hmc
 refine wpAny_handleBy_cons (codeAny_handlers_test (qa (X:=Cx.han (Cx.pin' X pins) x) IX (C.glb x0 hcx.1) hmc ?_ (C.dbG x0 hcx.1))) (λq=>by cases q)
 refine (PySem.W.exm_one (M:=model X.prog X.w) IX.kIn (XcAt.ty (XTr.at tr2)) hexm).at ?_
 rcases PostS.br p with⟨hb,p⟩|⟨hb,p⟩
 ·rw[hb]
  obtain⟨hle,p⟩:=PostS.grd p
  refine codeAny_handlers_suite (zF (X:=Cx.pin' X pins) I2 ox oT tr2 λh3' I3 tr3=>?_)
  obtain⟨oe,vs',a0,oT',ts,ho,hcc,hd,hv0,hv1,hT,hoT,hdT,h3,hv2⟩:=id tr3
  have cv:cvF fs Ck=.ref Ck:=by unfold cvF;rw[if_pos hle]
  refine wpAny_execs_cons (u_ C hy hU hg hst (ha _ (VR C)) I3 ox ⟨oe,vs',ho,hd,hv2 _ cv⟩ sr1 m1 p λe s6 xp=>?_)
  exact uK F I.ok.frames (λe s q=>C.xe e s q) xp
 ·rw[hb]
  exact uE C ad (hs:=[]) (r:=[]) trivial I2 ox oT tr2 xd m1 sr1 p
end
noncomputable def Yq:List ExceptHandler->Option (Str×Str×Expr)
 |[.ExceptHandler (some (.Name x _)) none [.Raise (some e) (some (.Constant .none _ _)) _] _]=>(yS e).bind λq=>(z0C q.2).bind λa=>some (x,q.1,a)
 |_=>none
theorem Kh{hs:List ExceptHandler}{x y:Str}{a:Expr}(h:Yq hs=some (x,y,a)):∃p0 p1 p2 p3 p4 pp ck,hs=[.ExceptHandler (some (.Name x p0)) none [.Raise (some (.Call (.Name y p1) [a] [] p2)) (some (.Constant .none ck p3)) p4] pp]:=by
 unfold Yq at h
 split at h
 ·obtain⟨⟨y',as⟩,z2,z3⟩:=bnd h
  obtain⟨b,hb,z4⟩:=bnd z3
  cases z4
  obtain⟨p0,p1,rfl⟩:=jN z2
  have ea:as=[a]:=by
   cases as with
   |nil=>cases hb
   |cons b r=>cases r with
    |nil=>cases hb;rfl
    |cons _ _=>cases hb
  subst ea
  exact⟨_,_,_,_,_,_,_,rfl⟩
 ·cases h
noncomputable def hcB(Γ:Cn)(x:Str)(c:Nat):Bool:=Γ.G.contains x&&Nat.blt c 40&&(match Γ.gl x with
 |.xcl c'=>Nat.beq c' c
 |.xcf c' _=>Nat.beq c' c
 |_=>false)
theorem Uv{Γ:Cn}{x:Str}{c:Nat}(hl:Γ.cls.lookup x=some c)(h:hcB Γ x c=true):HcOk Γ x c:=by
 unfold hcB at h
 simp only[Bool.and_eq_true] at h
 refine⟨by simpa using h.1.1,lookup_mem hl,?_,Nat.blt_eq.mp h.1.2⟩
 have h4:=h.2
 cases hg:Γ.gl x with
 |xcl c'=>simp only[hg] at h4;have:=Nat.eq_of_beq_eq_true h4;rw[this];exact .inr rfl
 |xcf c' f=>simp only[hg] at h4;have:=Nat.eq_of_beq_eq_true h4;rw[this];exact .inl ⟨f,rfl⟩
 |_=>rw[hg] at h4;cases h4
noncomputable def Vz:SR:=λr Γ s=>match s with
 |.Try b hs els fin _=>(Yq hs).bind λq=>gd (Γ.calm&&els.isEmpty&&fin.isEmpty&&Γ.G.contains q.2.1&&Γ.U.contains (hash q.2.1)&&noStar q.2.2) ((Γ.cls.lookup q.1).bind λc=>gd (hcB Γ q.1 c) ((zt (r.s Γ) b).bind λus=>(r.e {Γ with calm:=false} q.2.2).bind λg=>(match Γ.gl (hash q.2.1) with
  |.xin n f nm _=>gd (nm == q.2.1) (some (Jq us c n f g))
  |_=>none)))
 |_=>none
theorem QZ{D:DP}:SOk D Vz:=by
 intro r H X W Γ k e d C h
 cases e with
 |Try b hs els fin p=>
  obtain⟨⟨x,y,a⟩,z0,w1⟩:=bnd h
  obtain⟨hb,w2⟩:=zo w1
  simp only[Bool.and_eq_true] at hb
  obtain⟨c,hl,w3⟩:=bnd w2
  obtain⟨hcb,w4⟩:=zo w3
  obtain⟨us,h1,w5⟩:=bnd w4
  obtain⟨g,h2,w6⟩:=bnd w5
  dsimp only at w6 h2 hb hl hcb
  clear h w1 w2 w3 w4 w5
  obtain⟨p0,p1,p2,p3,p4,pp,ck,rfl⟩:=Kh z0
  cases els with
  |cons _ _=>simp at hb
  |nil=>
   cases fin with
   |cons _ _=>simp at hb
   |nil=>
    cases hx:Γ.gl (hash y) with
    |xin n f nm fl=>
     simp only[hx] at w6
     obtain⟨h7,h8⟩:=zo w6
     have h7:=beq_iff_eq.mp h7
     subst h7
     cases h8
     exact JQ C hb.1.1.1.1.1 (λX' W' C'=>zP H C' h1) (Uv hl hcb) (by simpa using hb.1.1.2) (by simpa using hb.1.2) hx hb.2 (λX' C'=>H.e C'.toCk h2)
    |_=>simp[hx] at w6
 |_=>cases h
end NH
namespace NH.P
open PySem L2 NH
@[reducible] noncomputable def zO:List Ds:=[(zf 3 (JZ xO vL (eV 1) (eC (.str " ")))),(sIf (tOr (tE (zI .NotEq (eB1 wO (eV 3)) (eC (.int 2)))) (vx (tE (z9 qw [(eIx (eV 3) (eC (.int 0)))])))) [(qZ 14 28 (eV 2))] []),(Jq [(zx (Vf [(eIx (eV 3) (eC (.int 0))),(z9 w8 [(eV 0),(eIx (eV 3) (eC (.int 1)))])]))] 14 14 28 (eV 2))]
noncomputable def zG:Fn:=fnW 3 1 zO
@[reducible] noncomputable def qp:List Ds:=[(ji (z9 zR [(eV 1)])),(sIf (tE (zI .Eq (eV 1) (eC (.str "")))) [(zx (Qu []))] []),(zf 2 (JZ xO vL (eV 1) (eC (.str "\n")))),(zx (qX 1 [2,0] (.one 0) (uU (eB1 wO (eV 2))) [] (z9 zG [(eV 2),(eIx (eV 1) (eV 0)),(eV 0)])))]
noncomputable def zC:Fn:=fnW 2 1 qp
@[reducible] noncomputable def xk:List Ds:=[(zf 2 (z9 zX [(eV 1),(z9 k7 [(eV 0),(eV 1)])])),(zf 3 (za .Mult (za .Mult (eIx (eV 1) (eC (.int 0))) (eIx (eV 1) (eC (.int 1)))) (eIx (eV 1) (eC (.int 2))))),(zf 4 (Qu [(eC (.str "")),(eC (.str " ")),(eC (.str "anna")),(eC (.str "anna ")),(eV 2),(za .Add (eC (.str " ")) (eV 2)),(za .Add (eC (.str "anna  ")) (eV 2)),(za .Add (za .Add (eC (.str "anna ")) (eV 2)) (eC (.str " "))),(za .Add (eC (.str " anna ")) (eV 2))])),(zf 4 (ZP (eV 4) (qy [(za .Add (eC (.str "Anna ")) (eV 2)),(za .Add (eC (.str "abcdefghi ")) (eV 2)),(za .Add (eC (.str "a1 ")) (eV 2)),(za .Add (za .Add (eC (.str "anna ")) (eV 2)) (eC (.str "0"))),(za .Add (eC (.str "anna ")) (eSl (eV 2) (pS (eC (.int 1))) pN))]))),(zf 4 (ZP (eV 4) (qy [(za .Add (za .Add (eC (.str "anna ")) (eSl (eV 2) pN (pS (kj (eC (.int 1)))))) (eC (.str "u"))),(za .Add (za .Add (eC (.str "anna ")) (eSl (eV 2) pN (pS (kj (eC (.int 1)))))) (eC (.str "!"))),(za .Add (za .Add (za .Add (eC (.str "anna ")) (eV 2)) (eC (.str " "))) (eV 2)),(za .Add (eC (.str "5 ")) (eV 2))]))),(ji (J6 (eV 4) (za .Add (za .Add (eC (.str "anna ")) (eSl (eV 2) pN (pS (kj (eC (.int 1)))))) (eC (.str "I"))))),(ji (J6 (eV 4) (za .Add (eC (.str "anna ")) (z9 zX [(qy [(za .Add (eV 3) (eC (.int 1))),(eC (.int 1)),(eC (.int 1))]),(eV 3)])))),(zx (eIx (eV 4) (z9 zk [(eV 0),(eC (.int 20))])))]
noncomputable def qK:Fn:=fnW 2 3 xk
@[reducible] noncomputable def jS:List Ds:=[(zf 2 (kj (eC (.int 1)))),(UA [(ji (z9 zC [(eV 0),(eV 1)]))] [([10],some 3,[(zf 2 (kj (eC (.int 2)))),(zf 4 (jF [15,17,13,25,12,16] (eV 3))),(sIf (xU (tE (jF [14] (eV 3))) (xU (tE (jF [11] (eV 3))) (xU (vx (tE (eV 4))) (vx (tE (jF [1] (Q2 14 28 (eV 3)))))))) [(zf 2 (Q2 14 28 (eV 3)))] [])])]),(zx (eV 2))]
noncomputable def zr:Fn:=fnW 2 3 jS
@[reducible] noncomputable def xj:List Ds:=[(zf 1 (z9 jg [(z9 qB [(z9 qt [(eV 0),(eC (.int 0))])])])),(zf 2 (eMk 40 qI [(eIx (eV 1) (eC (.int 0))),(eIx (eV 1) (eC (.int 1))),(eIx (eV 1) (eC (.int 2)))])),(zf 3 (Qu [])),(uy (.one 4) (iE (eSl (eV 0) (pS (eC (.int 1))) (pS (eC (.int 9))))) [(zf 5 (z9 qB [(eV 4)])),(ji (J6 (eV 3) (za .Add (za .Add (z9 vq [(eV 5)]) (eC (.str " "))) (z9 zX [(eV 1),(z9 k7 [(eV 5),(eV 1)])]))))]),(sIf (tE (zI .NotEq (z9 zr [(eV 2),(vU (eC (.str "\n")) (eV 3))]) (kj (eC (.int 1))))) [(zx (eC (.bl false)))] []),(uy (.one 4) (iE (za .Add (qy [(eC (.int 0)),(z9 qt [(eV 0),(eC (.int 0))])]) (eSl (eV 0) (pS (eC (.int 9))) (pS (eC (.int 19)))))) [(zf 5 (z9 qB [(eV 4)])),(zf 6 (za .Add (eV 3) (qy [(za .Add (eC (.str "z ")) (z9 zX [(eV 1),(eC (.int 0))]))]))),(zf 7 (eB1 WQ (eV 6))),(zf 8 (z9 zk [(eV 5),(eB1 wO (eV 7))])),(zf 9 (z9 zk [(eV 5),(eB1 wO (eV 7))])),(ur (eV 7) (eV 8) (z9 qK [(eV 5),(eV 1)])),(sIf (tE (zI .Eq (z9 zk [(eV 5),(eC (.int 2))]) (eC (.int 0)))) [(ur (eV 7) (eV 9) (z9 qK [(eV 5),(eV 1)])),(zf 8 (eB2 uf (eV 8) (eV 9)))] []),(zf 10 (vU (eC (.str "\n")) (eV 7))),(uy (.one 11) (uU (za .Mult (eC (.int 2)) (eB1 yq (zI .NotEq (eV 10) (eC (.str "")))))) [(sIf (tE (zI .NotEq (z9 zr [(eV 2),(eV 10)]) (eV 8))) [(zx (eC (.bl false)))] [])]),(zf 10 (vU (eC (.str "\n")) (eV 6))),(sIf (tOr (tE (zI .NotEq (z9 zr [(eV 2),(za .Add (eV 10) (eC (.str "\n")))]) (eB1 wO (eV 6)))) (tE (zI .NotEq (z9 zr [(eV 2),(za .Add (eC (.str "\n")) (eV 10))]) (eC (.int 0))))) [(zx (eC (.bl false)))] []),(zf 12 (eIx (qy [(eC .non),(eC (.int 5)),(eC (.bl true)),(qy [(eV 10)]),(Vf [(eV 10)]),ZG]) (z9 zk [(eV 5),(eC (.int 6))]))),(sIf (tOr (tE (zI .NotEq (z9 zr [(eV 2),(eV 12)]) (eC (.int 0)))) (tE (zI .NotEq (z9 zr [(eV 2),(eV 10)]) (kj (eC (.int 1)))))) [(zx (eC (.bl false)))] [])]),(zx (eC (.bl true)))]
noncomputable def vf:Fn:=fnW 1 12 xj
end NH.P
namespace NH.K84
open PySem PySem.Spec PyProof.Rows L2 NH NH.P
noncomputable def st(i:Nat):Stmt:=PySem.Challenge.pw_namehouses_k84_lines_of_no_book.main.body.getD i (.Pass ⟨0,0,0,0⟩)
noncomputable def cls:List (Str×Nat):=[("HouseError",10),("NoClock",15),("NoHolder",17),("NoName",13),("NoRow",25),("NoShape",12),("NoText",14),("NoTime",16),("ValueError",11),("bool",1),("int",2),("str",3)]
noncomputable def fld:List (Str×Nat):=[("moments",0),("houses",1),("counts",2),("line",28)]
noncomputable def RU:Rules:=⟨[X5,VG,UN,Yz,z06,rUn,X8,z0s,UL,U2,z0u,YX,z0O,UJ,Uj,z0v,V5,rJoin,WN,Xn,WV,Jl],[Xt],[WS],[Je,riE],[Xd,Ji,uA,Jn],[X4,Xv,z0I,X3,Xq,X9,V4,uH,Vz,Xf]⟩
theorem X2{D:DP}:RulesOk D RU:=⟨⟨VC,V_,Kx,Jw,Kf,YD,Wo,Kk,JS,JX,K3,JU,JI,KG,Jx,Ju,Wb,J7,VZ,V2,Wu,QK,trivial⟩,⟨Jc,trivial⟩,⟨W9,trivial⟩,⟨WO,Uu,trivial⟩,⟨Vv,Wi,W8,Vl,trivial⟩,⟨VV,J8,JB,VB,VO,WZ,Vd,Qy,QZ,Vk,trivial⟩⟩
noncomputable def gs0:List (Str×GM):=Qm ["ValueError","all","bool","int","isinstance","len","list","min","range","str"] [("HouseError",10),("NoShape",12),("NoName",13),("NoClock",15),("NoTime",16),("NoHolder",17),("NoRow",25)] [("NoText",14,28)]
noncomputable def zV:=inClass (st 4) 0
noncomputable def gs1:List (Str×GM):=(hash "NoText",GM.xin 14 28 "NoText" "line")::gs0
noncomputable def gs2:List (Str×GM):=(hash "line",GM.xin 14 28 "NoText" "line")::gs1
noncomputable def jz:=st 10
noncomputable def Zm:Cn:=cn cls fld gs2 ["thing"] ["isinstance","int","bool"] [] []
theorem uP:zt ((comp RU 60).s Zm) (zb jz)=some jr:=by kernel_rfl
noncomputable def gs3:List (Str×GM):=("is_whole",GM.fn vo)::gs2
noncomputable def xq:=st 11
noncomputable def QF:Cn:=cn cls fld gs3 ["thing"] ["is_whole"] [] []
theorem QE:zt ((comp RU 60).s QF) (zb xq)=some xr:=by kernel_rfl
noncomputable def gs4:List (Str×GM):=("is_size",GM.fn wo)::gs3
noncomputable def j_:=st 12
noncomputable def Z9:Cn:=cn cls fld gs4 ["thing","bound"] ["is_whole"] [] []
theorem uX:zt ((comp RU 60).s Z9) (zb j_)=some jE:=by kernel_rfl
noncomputable def gs5:List (Str×GM):=("is_below",GM.fn jK)::gs4
noncomputable def vb:=inClass (st 13) 0
noncomputable def xQ:Cn:=cn cls fld gs5 ["self","moments","houses","counts"] ["is_size","NoShape"] [] []
theorem xZ:zt ((comp RU 60).s xQ) (zb vb)=some wZ:=by kernel_rfl
noncomputable def gs6:List (Str×GM):=("Shape",GM.mk 40 true qI)::gs5
noncomputable def jP:=st 14
noncomputable def Zh:Cn:=cn cls fld gs6 ["shape"] [] [] []
theorem Zf:zt ((comp RU 60).s Zh) (zb jP)=some jk:=by kernel_rfl
noncomputable def gs7:List (Str×GM):=("names_in",GM.fn qW)::gs6
noncomputable def kJ:=st 15
noncomputable def W3:Cn:=cn cls fld gs7 ["shape","thing"] ["is_below","names_in"] [] []
theorem W5:zt ((comp RU 60).s W3) (zb kJ)=some xv:=by kernel_rfl
noncomputable def gs8:List (Str×GM):=("is_name",GM.fn j8)::gs7
noncomputable def gs9:List (Str×GM):=("LETTERS",GM.cst (.str "abcdefghijklmnopqrstuvwxyz"))::gs8
noncomputable def Yy:List (Str×GM):=("LONGEST_HOLDER",GM.cst (.int 8))::gs9
noncomputable def vY:=st 19
noncomputable def yp:Cn:=cn cls fld Yy ["thing"] ["isinstance","str","len","LONGEST_HOLDER","all"] [] []
theorem ua:zt ((comp RU 60).s yp) (zb vY)=some vN:=by kernel_rfl
noncomputable def z0S:List (Str×GM):=("is_holder",GM.fn qw)::Yy
noncomputable def z0H:List (Str×GM):=("SIGNS",GM.cst (.str "0123456789abcdefghjkmnpqrstvwxyz"))::z0S
noncomputable def XH:List (Str×GM):=("BASE",GM.cst (.int 32))::z0H
noncomputable def wX:=st 23
noncomputable def yb:Cn:=cn cls fld XH ["many","length","room"] ["BASE"] [] []
theorem y9:zt ((comp RU 60).s yb) (zb wX)=some wY:=by kernel_rfl
noncomputable def Ur:List (Str×GM):=("length_for",GM.fn qF)::XH
noncomputable def xm:=st 24
noncomputable def Wh:Cn:=cn cls fld Ur ["thing","length"] ["isinstance","str","len","all"] [] []
theorem QO:zt ((comp RU 60).s Wh) (zb xm)=some kX:=by kernel_rfl
noncomputable def Yt:List (Str×GM):=("is_word",GM.fn j9)::Ur
noncomputable def vW:=st 25
noncomputable def yZ:Cn:=cn cls fld Yt ["word","number","sign"] ["BASE","SIGNS"] [] []
theorem yR:zt ((comp RU 60).s yZ) (zb vW)=some vV:=by kernel_rfl
noncomputable def XQ:List (Str×GM):=("number_of",GM.fn wj)::Yt
noncomputable def Qj:=st 27
noncomputable def Ko:Cn:=cn cls fld XQ ["shape"] ["length_for","names_in"] [] []
theorem KH:zt ((comp RU 60).s Ko) (zb Qj)=some Q5:=by kernel_rfl
noncomputable def XJ:List (Str×GM):=("width",GM.fn width)::XQ
noncomputable def vT:=st 28
noncomputable def yz:Cn:=cn cls fld XJ ["shape","text","name"] ["is_word","width","NoText","number_of","is_name"] [] []
theorem yo:zt ((comp RU 60).s yz) (zb vT)=some j0:=by kernel_rfl
noncomputable def z01:List (Str×GM):=("read_name",GM.fn w8)::XJ
noncomputable def z0R:List (Str×GM):=("BLANK",GM.cst (.str " "))::z01
noncomputable def UC:List (Str×GM):=("BETWEEN_LINES",GM.cst (.str "\n"))::z0R
noncomputable def vi:=st 32
noncomputable def yj:Cn:=cn cls fld UC ["thing"] ["isinstance","str","NoText"] [] []
theorem yg:zt ((comp RU 60).s yj) (zb vi)=some vt:=by kernel_rfl
noncomputable def XG:List (Str×GM):=("check_text",GM.fn zR)::UC
noncomputable def qR:=st 33
noncomputable def jL:Cn:=cn cls fld XG ["shape","text","line","words"] ["BLANK","len","is_holder","NoText","read_name"] [] []
theorem jI:zt ((comp RU 60).s jL) (zb qR)=some zO:=by kernel_rfl
noncomputable def Yl:List (Str×GM):=("read_entry",GM.fn zG)::XG
noncomputable def wq:=st 34
noncomputable def kq:Cn:=cn cls fld Yl ["shape","text","lines"] ["check_text","BETWEEN_LINES","range","len"] ["shape","lines"] ["return"]
theorem km:zt ((comp RU 60).s kq) (zb wq)=some qp:=by kernel_rfl
noncomputable def XN:List (Str×GM):=("read_book",GM.fn zC)::Yl
noncomputable def vS:=st 36
noncomputable def yY:Cn:=cn cls fld XN ["_law_script","_law_k"] ["len"] [] []
theorem yy:zt ((comp RU 60).s yY) (zb vS)=some vP:=by kernel_rfl
noncomputable def Yv:List (Str×GM):=("_law_cell_at",GM.fn qt)::XN
noncomputable def kL:=st 37
noncomputable def QM:Cn:=cn cls fld Yv ["_law_cell"] [] [] ["return"]
theorem QS:zt ((comp RU 60).s QM) (zb kL)=some xf:=by kernel_rfl
noncomputable def Yh:List (Str×GM):=("_law_begin",GM.fn qB)::Yv
noncomputable def yI:=st 38
noncomputable def Vn:Cn:=cn cls fld Yh ["_law_state","_law_base","_law_found","_law_number"] [] [] []
theorem VE:zt ((comp RU 60).s Vn) (zb yI)=some yr:=by kernel_rfl
noncomputable def Yg:List (Str×GM):=("_law_next",GM.fn zk)::Yh
noncomputable def jn:=st 39
noncomputable def uB:Cn:=cn cls fld Yg ["_law_state","_law_letters","_law_way","_law_some","_law_word","_law_at"] ["_law_next","len","range"] ["_law_state","_law_letters"] []
theorem Zc:zt ((comp RU 60).s uB) (zb jn)=some jJ:=by kernel_rfl
noncomputable def YE:List (Str×GM):=("_law_holder",GM.fn vq)::Yg
noncomputable def Q1:=st 40
noncomputable def Kz:Cn:=cn cls fld YE ["_law_state","_law_far"] ["_law_next"] [] []
theorem Ki:zt ((comp RU 60).s Kz) (zb Q1)=some Qq:=by kernel_rfl
noncomputable def Uy:List (Str×GM):=("_law_big",GM.fn vg)::YE
noncomputable def xy:=st 41
noncomputable def W2:Cn:=cn cls fld Uy ["_law_state","_law_sizes"] ["_law_big","_law_next"] [] []
theorem QW:zt ((comp RU 60).s W2) (zb xy)=some xw:=by kernel_rfl
noncomputable def Xx:List (Str×GM):=("_law_shape",GM.fn jg)::Uy
noncomputable def yQ:=st 42
noncomputable def VM:Cn:=cn cls fld Xx ["_law_state","_law_sizes","_law_many","_law_way"] ["_law_next","_law_big"] [] []
theorem WR:zt ((comp RU 60).s VM) (zb yQ)=some um:=by kernel_rfl
noncomputable def YQ:List (Str×GM):=("_law_name",GM.fn k7)::Xx
noncomputable def kD:=st 43
noncomputable def Qw:Cn:=cn cls fld YQ ["_law_sizes","_law_many","_law_found"] [] [] []
theorem Qs:zt ((comp RU 60).s Qw) (zb kD)=some kM:=by kernel_rfl
noncomputable def XT:List (Str×GM):=("_law_width",GM.fn je)::YQ
noncomputable def ki:=st 44
noncomputable def Zy:Cn:=cn cls fld XT ["_law_sizes","_law_name_here","_law_signs","_law_text_here","_law_place"] ["range","_law_width"] [] []
theorem Z5:zt ((comp RU 60).s Zy) (zb ki)=some jH:=by kernel_rfl
noncomputable def YY:List (Str×GM):=("_law_text",GM.fn zX)::XT
noncomputable def kZ:=st 45
noncomputable def QA:Cn:=cn cls fld YY ["_law_state","_law_sizes","_law_text_here","_law_many","_law_some"] ["_law_text","_law_name","_law_next"] [] ["_law_some"]
theorem Wm:zt ((comp RU 60).s QA) (zb kZ)=some xk:=by kernel_rfl
noncomputable def Uk:List (Str×GM):=("_law_bad",GM.fn qK)::YY
noncomputable def js:=st 46
noncomputable def Zq:Cn:=cn cls fld Uk ["_law_shape_here","_law_text_here","_law_found","e","_law_others"] ["read_book","HouseError","isinstance","NoClock","NoHolder","NoName","NoRow","NoShape","NoTime","NoText","ValueError","bool"] [] []
theorem Zo:zt ((comp RU 60).s Zq) (zb js)=some jS:=by kernel_rfl
noncomputable def z0r:List (Str×GM):=("_law_told",GM.fn zr)::Uk
noncomputable def zL:=st 47
noncomputable def Wk:Cn:=cn cls fld z0r ["_law_script","_law_sizes","_law_shape_here","_law_lines","_law_cell","_law_state","_law_good","_law_spoilt","_law_at","_law_other","_law_text_here","_law_turn","_law_odd"] ["_law_shape","_law_begin","_law_cell_at","Shape","_law_holder","_law_text","_law_name","_law_told","list","_law_next","len","_law_bad","min","range","int"] [] ["_law_lines","_law_spoilt"]
theorem Qv:zt ((comp RU 60).s Wk) (zb zL)=some xj:=by kernel_rfl
end NH.K84
namespace NH
open PySem PySem.Spec PyProof.Rows L2
theorem zT{p:Prop}{i:Decidable p}{A B:Prop}(h1:p->A)(h2:¬p->B):brW (decide p) A B:=by
 cases i with
 |isTrue h=>exact h1 h
 |isFalse h=>exact h2 h
theorem jV{p:Prop}{i:Decidable p}{A B:Prop}(h:p)(a:A):brW (decide p) A B:=zT (λ_=>a) λn=>absurd h n
theorem y0{p:Prop}{i:Decidable p}{A B:Prop}(h:¬p)(b:B):brW (decide p) A B:=zT (λy=>absurd y h) λ_=>b
theorem yf{p:Prop}{i:Decidable p}{A B:Prop}(h1:p->B)(h2:¬p->A):brW (!decide p) A B:=by
 cases i with
 |isTrue h=>exact h1 h
 |isFalse h=>exact h2 h
theorem w9{p:Prop}{i:Decidable p}{A B:Prop}(h:p)(b:B):brW (!decide p) A B:=yf (λ_=>b) λn=>absurd h n
theorem Zl{tg:Tg}{g:Sl->Mem->RE (Option T)}{lv:Mem->Prop}{τ:Sl}{μ:Mem}{Z:Xp}(f:T->Option T){xs:List T}{K:List T->Mem->Prop}
  (h:∀x∈xs,∀k:Option T->Mem->Prop,k (f x) μ->∃τ',asg tg x τ=some τ'/\g τ' μ k Z) (k:K (xs.filterMap f) μ) (hl:lv μ:=by trivial):zN tg g lv τ xs μ K Z:=by
 induction xs generalizing K with
 |nil=>exact k
 |cons x r ih=>
  unfold zN
  obtain⟨τ',e,hg⟩:=h x List.mem_cons_self (λo μ1=>lv μ1/\(match o with
   |some y=>(zN tg g lv τ r μ1).bind λys μ2=>RE.ok (y::ys) μ2
   |none=>zN tg g lv τ r μ1) K Z) (by
    refine⟨hl,?_⟩
    cases q:f x with
    |none=>
     rw[List.filterMap_cons_none q] at k
     exact ih (λy hy=>h y (List.mem_cons_of_mem _ hy)) k
    |some y=>
     rw[List.filterMap_cons_some q] at k
     exact ih (K:=λys μ2=>K (y::ys) μ2) (λy hy=>h y (List.mem_cons_of_mem _ hy)) k)
  exact⟨τ',e,hg⟩
theorem xg{tg:Tg}{g:Sl->Mem->RE (Option T)}{lv:Mem->Prop}{τ:Sl}{μ:Mem}{Z:Xp}(f:T->T){xs:List T}{K:List T->Mem->Prop}
  (h:∀x∈xs,∀k:Option T->Mem->Prop,k (some (f x)) μ->∃τ',asg tg x τ=some τ'/\g τ' μ k Z) (k:K (xs.map f) μ) (hl:lv μ:=by trivial):zN tg g lv τ xs μ K Z:=
 Zl (λx=>some (f x)) h (by rw[List.filterMap_eq_map'];exact k) hl
theorem xx{tg:Tg}{g:Sl->Mem->RE (Option T)}{lv:Mem->Prop}{τ:Sl}{Z:Xp}(I:Nat->List T->Mem->Prop){xs:List T}{K:List T->Mem->Prop}{μ:Mem}
  (h0:I 0 [] μ) (h:∀i x ys μ,xs[i]?=some x->I i ys μ->∀k:Option T->Mem->Prop,(∀o μ',I (i+1) (match o with|some y=>ys++[y]|none=>ys) μ'->k o μ')->∃τ',asg tg x τ=some τ'/\g τ' μ k Z)
  (k:∀ys μ',I xs.length ys μ'->K ys μ') (hl:∀i ys μ,I i ys μ->lv μ:=by intros;trivial):zN tg g lv τ xs μ K Z:=by
 have go:∀(rest:List T) (i:Nat) (ys:List T) (μ:Mem) (K:List T->Mem->Prop),xs.drop i=rest->i<=xs.length->I i ys μ->(∀zs μ',I xs.length (ys++zs) μ'->K zs μ')->zN tg g lv τ rest μ K Z:=by
  intro rest
  induction rest with
  |nil=>
   intro i ys μ K hd hi hI hK
   have:i=xs.length:=by
    have:=congrArg List.length hd
    simp at this;omega
   subst this
   exact hK [] μ (by simpa using hI)
  |cons x r ih=>
   intro i ys μ K hd hi hI hK
   have hx:xs[i]?=some x:=by
    have:(xs.drop i)[0]?=some x:=by rw[hd];rfl
    simpa using this
   have hlt:i<xs.length:=(List.getElem?_eq_some_iff.mp hx).1
   have hd':xs.drop (i+1)=r:=by
    have:(xs.drop i).tail=r:=by rw[hd];rfl
    simpa using this
   unfold zN
   refine h i x ys μ hx hI _ λo μ' hI'=>⟨hl _ _ _ hI',?_⟩
   cases o with
   |none=>exact ih (i+1) ys μ' K hd' hlt hI' hK
   |some y=>exact ih (i+1) (ys++[y]) μ' _ hd' hlt hI' λzs μ2 hz=>hK (y::zs) μ2 (by simpa using hz)
 exact go xs 0 [] μ K rfl (Nat.zero_le _) h0 λzs μ' hz=>k zs μ' (by simpa using hz)
theorem qT{tg:Tg}{body:Ds}{lv:Mem->Prop}{xs:List T}{τ:Sl}{μ:Mem}{E:En}(I:Nat->Sl->Mem->Prop)(h0:I 0 τ μ)
  (h:∀i x τ μ,xs[i]?=some x->I i τ μ->∀N:Sl->Mem->Prop,(∀τ μ,I (i+1) τ μ->N τ μ)->∃τ',asg tg x τ=some τ'/\body τ' μ (E.turn N))
  (k:∀τ μ,I xs.length τ μ->E.nx τ μ) (hl:∀i τ μ,I i τ μ->lv μ:=by intros;trivial):forM tg body lv xs τ μ E:=by
 have go:∀(rest:List T) (i:Nat) (τ:Sl) (μ:Mem),xs.drop i=rest->i<=xs.length->I i τ μ->forM tg body lv rest τ μ E:=by
  intro rest
  induction rest with
  |nil=>
   intro i τ μ hd hi hI
   have:i=xs.length:=by
    have:=congrArg List.length hd
    simp at this;omega
   subst this
   exact k τ μ hI
  |cons x r ih=>
   intro i τ μ hd hi hI
   have hx:xs[i]?=some x:=by
    have:(xs.drop i)[0]?=some x:=by rw[hd];rfl
    simpa using this
   have hlt:i<xs.length:=(List.getElem?_eq_some_iff.mp hx).1
   have hd':xs.drop (i+1)=r:=by
    have:(xs.drop i).tail=r:=by rw[hd];rfl
    simpa using this
   exact h i x τ μ hx hI _ λτ2 μ2 z=>⟨hl _ _ _ z,ih (i+1) τ2 μ2 hd' hlt z⟩
 exact go xs 0 τ μ rfl (Nat.zero_le _) h0
theorem xB{c:Dt}{body:List Ds}{τ:Sl}{μ:Mem}{E:En}(I:Nat->Sl->Mem->Prop)(n:Nat)(h0:I n τ μ)
  (h:∀n τ μ,I n τ μ->∀N:Sl->Mem->Prop,(∀m τ μ,m<n->I m τ μ->N τ μ)->c τ μ (λb μ1=>brW b (zY body τ μ1 (E.turn N)) (E.nx τ μ1)) (λk fs μ1=>E.ex k fs τ μ1)):jX c body τ μ E:=
 ⟨I,⟨n,h0⟩,λn τ μ hI=>h n τ μ hI _ λm τ μ hm hi=>⟨m,hm,hi⟩⟩
end NH
namespace NH.P
open PySem L2 NH
section
local macro_rules | `(tactic| walk_at "grd") => `(tactic| first | decide | exact Or.inl (by decide) | exact Or.inr (by decide) | omega | (simp only [big, room]; omega) | fail)
local macro_rules | `(tactic| walk_at "go") => `(tactic| repeat' (first | (with_reducible refine ⟨_, rfl, ?_⟩) | (with_reducible refine ⟨?w, ?h, ?_⟩; case h => exact rfl) | (with_reducible refine And.intro ?_ ?_; walk_at "grd") | (with_reducible refine w9 ?_ ?_; rfl) | (with_reducible refine jV ?_ ?_; rfl) | (with_reducible refine brn_neg ?_ ?_; decide) | (with_reducible refine y0 ?_ ?_; decide) | fail))
variable {μ:Mem}{K:T->Mem->Prop}{Z:Xp}
theorem vm{i:Int}(k:K (.bl true) μ):vo [.int i] μ K Z:=⟨rfl,k⟩
theorem wR{n:Int}{i:Nat}{x:T}(h:(rangeT n)[i]?=some x):x=.int i/\(i:Int)<n:=by
 unfold rangeT at h
 rw[List.getElem?_map] at h
 cases q:(List.range n.toNat)[i]? with
 |none=>rw[q] at h;cases h
 |some j=>
  rw[q] at h
  obtain⟨hl,e⟩:=List.getElem?_eq_some_iff.mp q
  have e:i=j:=by simpa using e
  subst e
  cases h
  simp at hl
  exact⟨rfl,by omega⟩
theorem wK{n:Int}:(rangeT n).length=n.toNat:=by simp[rangeT]
noncomputable def isL(z:Str):Bool:=!(Builtin.Str.occurrences "abcdefghijklmnopqrstuvwxyz" z 0 (Str.length "abcdefghijklmnopqrstuvwxyz") 1).isEmpty
noncomputable def sgn(z:Str):List Str:=z.cps.toList.map λc=>⟨#[c]⟩
theorem wb(z:Str):vI z=(sgn z).map T.str:=by simp[vI,sgn]
theorem Qh(z:Str):(sgn z).length=z.length:=by simp[sgn,Str.length]
noncomputable def zv(z:Str):Bool:=decide (1<=(z.length:Int))&&decide ((z.length:Int)<=8)&&(sgn z).all isL
theorem vD{α:Type}(f:α->Bool):∀xs:List α,bools (xs.map λx=>T.bl (f x))=some (xs.map f)
 |[]=>rfl
 |x::r=>by simp[bools,vD f r]
theorem wz{z:Str}(hz:z.length<=room)(q:K (.bl (zv z)) μ):qw [.str z] μ K Z:=by
 unfold qw
 refine⟨rfl,?_⟩
 unfold zv at q
 refine⟨hz,?_⟩
 refine zT (λh1=>?_) (λh1=>?_)
 ·refine yf (λh2=>?_) (λh2=>?_)
  ·show (vI z).length<=room/\_
   rw[wb]
   refine⟨by rw[List.length_map,Qh];exact hz,?_⟩
   refine xg (λx=>match x with|.str y=>.bl (isL y)|t=>t) (λx hx k hk=>?_) ?_
   ·obtain⟨y,hy,rfl⟩:=List.mem_map.mp hx
    exact⟨_,rfl,hk⟩
   ·rw[List.map_map]
    refine⟨_,vD isL (sgn z),?_⟩
    rw[decide_eq_true h1,decide_eq_true h2] at q
    rw[List.all_map]
    exact q
  ·have q:K (.bl false) μ:=by simpa[h2] using q
   exact q
 ·have q:K (.bl false) μ:=by simpa[h1] using q
  exact q
theorem u9{z:Str}{b:Bool}(hz:z.length<=room)(h:zv z=b)(q:K (.bl b) μ):qw [.str z] μ K Z:=wz hz (by rw[h];exact q)
theorem qU{α:Type}{xs:List α}{k:Int}(h0:0<=k)(h1:k<xs.length):wJ xs k=xs[k.toNat]?:=by
 unfold wJ Ku
 rw[if_pos h0,if_pos h1]
 rfl
theorem J5{α:Type}{xs:List α}{k:Int}{n:Nat}{P:α->Prop}(hl:xs.length=n)(h0:0<=k)(h1:k<n)(q:∀c,xs[k.toNat]?=some c->P c):∃c,wJ xs k=some c/\P c:=by
 rw[qU h0 (by omega)]
 exact⟨xs[k.toNat]'(by omega),by simp,q _ (by simp)⟩
theorem Qk(c:Nat):(⟨#[c]⟩:Str).length=1:=rfl
theorem uj{α:Type}{xs:List α}{lo hi:Option Int}{x:α}(h:x∈j2 xs lo hi):x∈xs:=List.mem_of_mem_drop (List.mem_of_mem_take h)
end
section
local macro_rules | `(tactic| walk_at "grd") => `(tactic| first | decide | exact Or.inl (by decide) | exact Or.inr (by decide) | omega | (simp only [big, room]; omega) | fail)
local macro_rules | `(tactic| walk_at "go") => `(tactic| repeat' (first | (with_reducible refine ⟨_, rfl, ?_⟩) | (with_reducible refine ⟨?w, ?h, ?_⟩; case h => exact rfl) | (with_reducible refine And.intro ?_ ?_; walk_at "grd") | (with_reducible refine w9 ?_ ?_; rfl) | (with_reducible refine jV ?_ ?_; rfl) | (with_reducible refine brn_neg ?_ ?_; decide) | (with_reducible refine y0 ?_ ?_; decide) | fail))
variable {μ μ1 μ2:Mem}{K:T->Mem->Prop}{Z:Xp}
noncomputable def SG:Str:="0123456789abcdefghjkmnpqrstvwxyz"
noncomputable def code (d:Nat):Nat:=SG.cps.toList.getD d 0
noncomputable def sg (d:Nat):Str:=⟨#[code d]⟩
theorem YH:(List.range 32).all (λd=>match Builtin.Str.occurrences SG (sg d) 0 SG.length 1 with|i::_=>i == d | []=>false)=true:=by decide +kernel
theorem U8:SG.cps.toList.length=32:=by decide +kernel
theorem Yr{d:Nat}(h:d<32):∃r,Builtin.Str.occurrences SG (sg d) 0 SG.length 1=d::r:=by
 have q:=List.all_eq_true.mp YH d (List.mem_range.mpr h)
 split at q
 ·rename_i i r e
  rw[e,beq_iff_eq.mp q];exact⟨r,rfl⟩
 ·cases q
theorem z0P{i:Int}(h0:0<=i)(h1:i<32):wJ SG.cps.toList i=some (code i.toNat):=by
 have hl:i<(SG.cps.toList.length:Int):=by rw[U8];exact h1
 rw[qU h0 hl]
 unfold code
 rw[List.getD_eq_getElem?_getD,List.getElem?_eq_getElem (by omega)]
 rfl
noncomputable def qf (n:Int):Nat->List Nat
 |0=>[]
 |L+1=>qf (n / 32) L++[code (n % 32).toNat]
noncomputable def wd (n:Int)(L:Nat):Str:=⟨(qf n L).toArray⟩
theorem qY:∀(L:Nat) (n:Int),(qf n L).length=L
 |0,_=>rfl
 |L+1,n=>by simp[qf,qY L]
theorem vK:∀(L:Nat) (n:Int),qf n (L+1)=code (n / 32 ^ L % 32).toNat::qf n L
 |0,n=>by simp[qf]
 |L+1,n=>by
  have e:qf n (L+2)=qf (n / 32) (L+1)++[code (n % 32).toNat]:=rfl
  rw[e,vK L (n / 32),Int.ediv_ediv_of_nonneg (by decide),show (32:Int) * 32 ^ L=32 ^ (L+1) by rw[Int.pow_succ,Int.mul_comm]]
  rfl
noncomputable def m32(x:Int):0<=x % 32/\x % 32<32:=⟨Int.emod_nonneg _ (by decide),Int.emod_lt_of_pos _ (by decide)⟩
structure Wd(many:Int)(L:Nat):Prop where
 l1:1<=L
 l2:L<=24
 up:many<=32 ^ L
 lo:L=1\/32 ^ (L-1)<many
theorem p32{i j:Nat}(h:i<=j):(32:Int) ^ i<=32 ^ j:=by
 have q:32 ^ i<=32 ^ j:=Nat.pow_le_pow_right (by decide) h
 exact_mod_cast q
theorem Wd.le{many:Int}{L M:Nat}(a:Wd many L)(b:Wd many M):L<=M:=by
 rcases a.lo with h|h
 ·have:=b.l1;omega
 ·by_cases q:L<=M
  ·exact q
  ·have:=p32 (show M<=L-1 by omega)
   have:=b.up
   omega
theorem Wd.eq{many:Int}{L M:Nat}(a:Wd many L)(b:Wd many M):L=M:=Nat.le_antisymm (a.le b) (b.le a)
theorem pow_step(L:Nat):(32:Int) ^ L * 32=32 ^ (L+1):=(Int.pow_succ ..).symm
theorem uv:∀(xs:List Str) (a:Array Nat),xs.foldl (λacc p=>acc++(Str.empty).cps++p.cps) a=a++(xs.map (·.cps.toList)).flatten.toArray
 |[],a=>by simp
 |x::xs,a=>by
  rw[List.foldl_cons,uv xs]
  apply Array.ext'
  simp[Str.empty]
theorem QP:∀(xs:List Str),Txt.join Str.empty xs=⟨((xs.map (·.cps.toList)).flatten).toArray⟩
 |[]=>by
  show (⟨([]:List Str).foldl _ (Str.empty).cps⟩:Str)=_
  simp[Str.empty]
 |x::xs=>by
  show (⟨xs.foldl (λacc p=>acc++(Str.empty).cps++p.cps) x.cps⟩:Str)=_
  rw[uv]
  simp
theorem xD:∀(L:Nat) (n:Int) (c:Nat),c∈qf n L->∃d,d<32/\c=code d
 |0,_,_,h=>by simp[qf] at h
 |L+1,n,c,h=>by
  rcases List.mem_append.mp h with h|h
  ·exact xD L _ c h
  ·refine⟨(n % 32).toNat,?_,List.mem_singleton.mp h⟩
   have:=m32 n
   omega
theorem zK(n:Int)(L:Nat):(wd n L).length=L:=by
 show (qf n L).toArray.size=L
 simp[qY]
theorem ZH(L:Nat):(0:Int)<32 ^ L:=Int.pow_pos (by decide)
noncomputable def St (μ:Mem)(i:Nat):Prop:=∃a b c:Int,μ[i]?=some (.lst [.int a,.int b,.int c])
structure Up(μ:Mem)(i:Nat)(μ':Mem):Prop where
 len:μ'.length=μ.length
 ot:∀j,j≠i->μ'[j]?=μ[j]?
 st:St μ' i
theorem Up.trans{i:Nat}(a:Up μ i μ1)(b:Up μ1 i μ2):Up μ i μ2:=⟨b.len.trans a.len,λj h=>(b.ot j h).trans (a.ot j h),b.st⟩
theorem get_set{i:Nat}{x y:MO}(h:μ[i]?=some x):(μ.set i y)[i]?=some y:=by
 have:=(List.getElem?_eq_some_iff.mp h).1
 simp[this]
theorem Up.set{i:Nat}{x:MO}{a b c:Int}(h:μ[i]?=some x):Up μ i (μ.set i (.lst [.int a,.int b,.int c])):=⟨by simp,λj hj=>by rw[List.getElem?_set_ne (Ne.symm hj)],a,b,c,get_set h⟩
theorem zE{x:MO}:(μ++[x])[μ.length]?=some x:=by rw[List.getElem?_append_right (Nat.le_refl _)];simp
theorem q_{i:Nat}{x o:MO}(h:μ[i]?=some o):(μ++[x])[i]?=some o:=by
 rw[List.getElem?_append_left (List.getElem?_eq_some_iff.mp h).1];exact h
theorem wQ{c:Int}(q:∀x y,K (.mut μ.length) (μ++[.lst [.int x,.int y,.int 0]])):qB [.int c] μ K Z:=by
 unfold qB
 refine⟨rfl,?_⟩
 walk_at "go"
 exact q _ _
theorem zq{i:Nat}{base:Int}(hs:St μ i)(h0:0<base)(h1:base<1073741824)(q:∀v μ',0<=v->v<base->Up μ i μ'->K (.int v) μ'):zk [.mut i,.int base] μ K Z:=by
 obtain⟨a,b,c,h⟩:=hs
 have mn:∀x:Int,0<=x % base/\x % base<base:=λx=>⟨Int.emod_nonneg _ (by omega),Int.emod_lt_of_pos _ h0⟩
 unfold zk
 refine⟨rfl,?_⟩
 refine⟨_,_,h,rfl,?_⟩
 refine zT (λh2=>?_) (λh2=>?_)
 ·refine⟨_,_,h,rfl,h0,?_⟩
  refine⟨_,_,h,rfl,⟨h0,by omega⟩,?_⟩
  refine⟨_,h,by simp,?_⟩
  exact q _ _ (mn _).1 (mn _).2 (Up.set h)
 ·refine⟨_,_,h,rfl,?_⟩
  refine⟨_,h,by simp,?_⟩
  refine⟨_,_,get_set h,rfl,?_⟩
  refine⟨_,_,get_set h,rfl,?_⟩
  walk_at "go"
  exact q _ _ (mn _).1 (mn _).2 (Up.set h)
theorem qv{i:Nat}(hs:St μ i)(q:∀v μ',0<=v->v<1000000000000->Up μ i μ'->K (.int v) μ'):vg [.mut i] μ K Z:=by
 unfold vg
 refine⟨rfl,?_⟩
 walk_at "go"
 refine zq hs (by decide) (by decide) λv1 μ1 a1 b1 u1=>?_
 walk_at "go"
 refine zq u1.st (by decide) (by decide) λv2 μ2 a2 b2 u2=>?_
 walk_at "go"
 refine zq u2.st (by decide) (by decide) λv3 μ3 a3 b3 u3=>?_
 walk_at "go"
 refine zq u3.st (by decide) (by decide) λv4 μ4 a4 b4 u4=>?_
 walk_at "go"
 refine zq u4.st (by decide) (by decide) λv5 μ5 a5 b5 u5=>?_
 have m6:(10:Int) ^ (6:Int).toNat=1000000:=rfl
 rw[m6] at b1 b2 b4
 have U:=(((u1.trans u2).trans u3).trans u4).trans u5
 have:v5=0\/v5=1\/v5=2:=by omega
 rcases this with rfl|rfl|rfl
 ·exact⟨_,rfl,q _ _ a3 (by omega) U⟩
 ·exact⟨_,rfl,q _ _ a4 (by omega) U⟩
 ·exact⟨_,rfl,q _ _ (by rw[m6];omega) (by rw[m6];omega) U⟩
structure Sz(x y z:Int):Prop where
 x1:1<=x
 x2:x<=1000000000000
 y1:1<=y
 y2:y<=1000000000000
 z1:1<=z
 z2:z<=1000000000000
theorem Zk{i:Nat}(hs:St μ i)(q:∀x y z μ',Sz x y z->Up μ i μ'->K (.lst [.int x,.int y,.int z]) μ'):jg [.mut i] μ K Z:=by
 unfold jg
 refine⟨rfl,?_⟩
 walk_at "go"
 refine qv hs λv1 μ1 a1 b1 u1=>?_
 walk_at "go"
 refine qv u1.st λv2 μ2 a2 b2 u2=>?_
 walk_at "go"
 refine qv u2.st λv3 μ3 a3 b3 u3=>?_
 walk_at "go"
 refine zq u3.st (by decide) (by decide) λv4 μ4 a4 b4 u4=>?_
 have U:=((u1.trans u2).trans u3).trans u4
 refine zT (λh=>?_) (λh=>?_)
 ·walk_at "go"
  refine zq u4.st (by decide) (by decide) λv5 μ5 a5 b5 u5=>?_
  have p5:∃x,wJ [T.int 1,.int 32,.int 1024,.int 32768] v5=some (.int x)/\1<=x/\x<=32768:=by
   have:v5=0\/v5=1\/v5=2\/v5=3:=by omega
   rcases this with rfl|rfl|rfl|rfl
   ·exact⟨1,rfl,by decide,by decide⟩
   ·exact⟨32,rfl,by decide,by decide⟩
   ·exact⟨1024,rfl,by decide,by decide⟩
   ·exact⟨32768,rfl,by decide,by decide⟩
  obtain⟨x,ex,x1,x2⟩:=p5
  refine⟨_,ex,?_⟩
  refine zq u5.st (by decide) (by decide) λv6 μ6 a6 b6 u6=>?_
  have p6:∃x,wJ [T.int 1,.int 32] v6=some (.int x)/\1<=x/\x<=32:=by
   have:v6=0\/v6=1:=by omega
   rcases this with rfl|rfl
   ·exact⟨1,rfl,by decide,by decide⟩
   ·exact⟨32,rfl,by decide,by decide⟩
  obtain⟨y,ey,y1,y2⟩:=p6
  refine⟨_,ey,?_⟩
  exact q _ _ _ _ ⟨x1,by omega,y1,by omega,by decide,by decide⟩ ((U.trans u5).trans u6)
 ·exact q _ _ _ _ ⟨by omega,by omega,by omega,by omega,by omega,by omega⟩ U
theorem Sz.pos{x y z:Int}(h:Sz x y z):0<x * y * z:=Int.mul_pos (Int.mul_pos (by have:=h.x1;omega) (by have:=h.y1;omega)) (by have:=h.z1;omega)
theorem Sz.le{x y z:Int}(h:Sz x y z):x * y * z<=1000000000000000000000000000000000000:=by
 have h1:x * y<=1000000000000 * 1000000000000:=Int.mul_le_mul h.x2 h.y2 (by have:=h.y1;omega) (by decide)
 have h2:x * y * z<=1000000000000 * 1000000000000 * 1000000000000:=Int.mul_le_mul h1 h.z2 (by have:=h.z1;omega) (by decide)
 exact h2
theorem kH{i:Nat}{x y z:Int}(hs:St μ i)(s:Sz x y z)(q:∀v μ',0<=v->v<x * y * z->Up μ i μ'->K (.int v) μ'):k7 [.mut i,.lst [.int x,.int y,.int z]] μ K Z:=by
 have hp:=s.pos
 obtain⟨x1,x2,y1,y2,z1,z2⟩:=s
 unfold k7
 refine⟨rfl,?_⟩
 walk_at "go"
 refine zq hs (by decide) (by decide) λv1 μ1 a1 b1 u1=>?_
 refine zT (λh=>?_) (λh=>?_)
 ·have:v1=0\/v1=1:=by omega
  rcases this with rfl|rfl
  ·exact⟨_,rfl,q _ _ (by omega) (by omega) u1⟩
  ·exact⟨_,rfl,q _ _ (by omega) (by omega) u1⟩
 ·walk_at "go"
  refine qv u1.st λv2 μ2 a2 b2 u2=>?_
  walk_at "go"
  refine qv u2.st λv3 μ3 a3 b3 u3=>?_
  walk_at "go"
  refine qv u3.st λv4 μ4 a4 b4 u4=>?_
  refine⟨hp,?_⟩
  exact q _ _ (Int.emod_nonneg _ (by omega)) (Int.emod_lt_of_pos _ hp) (((u1.trans u2).trans u3).trans u4)
noncomputable abbrev shp(x y z:Int):T:=.obj 40 [(0,.int x),(1,.int y),(2,.int z)]
theorem qV{n:Int}(k:K (.bl (decide (1<=n))) μ):wo [.int n] μ K Z:=by
 unfold wo
 refine⟨rfl,?_⟩
 refine vm ?_
 exact k
theorem kr{x y z:Int}(hx:1<=x)(hy:1<=y)(hz:1<=z)(q:K .non [.obj 40 [(0,.int x),(1,.int y),(2,.int z)]]):qI [.mut 0,.int x,.int y,.int z] [.obj 40 []] K Z:=by
 unfold qI
 refine⟨rfl,?_⟩
 refine qV ?_
 refine jV hx ?_
 refine qV ?_
 refine jV hy ?_
 refine qV ?_
 refine w9 hz ?_
 refine⟨_,_,rfl,by decide,?_⟩
 refine⟨_,_,rfl,(by (show (1:Nat)<900);decide),?_⟩
 refine⟨_,_,rfl,(by (show (2:Nat)<900);decide),?_⟩
 exact q
theorem vQ{x y z:Int}(s:Sz x y z)(q:K (.int (x * y * z)) μ):qW [shp x y z] μ K Z:=by
 obtain⟨x1,x2,y1,y2,z1,z2⟩:=s
 unfold qW
 refine⟨rfl,?_⟩
 exact⟨.inl ⟨by unfold big;omega,by unfold big;omega⟩,.inr ⟨by unfold big;omega,by unfold big;omega⟩,q⟩
theorem wy{many:Int}(hm:many<=32 ^ 24)(q:∀L,Wd many L->K (.int L) μ):qF [.int many] μ K Z:=by
 unfold qF
 refine⟨rfl,?_⟩
 refine xB (λn τ μ'=>μ'=μ/\∃L:Nat,τ=[some (.int many),some (.int L),some (.int (32 ^ L))]/\1<=L/\n+L=24/\(L=1\/32 ^ (L-1)<many)) 23 ⟨rfl,1,rfl,by decide,by decide,.inl rfl⟩ ?_
 rintro n τ _ ⟨rfl,L,rfl,h1,h2,h3⟩ N hN
 have hp:(32:Int) ^ L<=32 ^ 24:=p32 (by omega)
 refine zT (λh=>?_) (λh=>?_)
 ·refine⟨.inr (by decide),?_⟩
  have hn:n≠0:=λz=>by
   have:L=24:=by omega
   subst this;omega
  exact hN (n-1) _ _ (by omega) ⟨rfl,L+1,by rw[pow_step];rfl,by omega,by omega,.inr (by simpa using h)⟩
 ·exact q L ⟨h1,by omega,by omega,h3⟩
theorem WA{x y z:Int}{L:Nat}(s:Sz x y z)(w:Wd (x * y * z) L)(q:K (.int L) μ):width [shp x y z] μ K Z:=by
 unfold width
 refine⟨rfl,?_⟩
 refine vQ s ?_
 refine wy (Int.le_trans s.le (by decide)) λM w'=>?_
 rw[w.eq w'] at q
 exact q
theorem Qd{many:Int}(hm:many<=32 ^ 24):∃L,Wd many L:=by
 have h:=wy (μ:=[]) (K:=λt _=>∃L,Wd many L/\t=.int L) (Z:=λ_ _ _=>False) hm λL w=>⟨L,w,rfl⟩
 apply Classical.byContradiction
 intro hn
 have hd:∀n L:Nat,1<=L->n+L=24->(L=1\/32 ^ (L-1)<many)->False:=by
  intro n
  induction n with
  |zero=>
   intro L h1 h2 h3
   have:L=24:=by omega
   subst this
   exact hn ⟨24,by decide,by decide,hm,h3⟩
  |succ n ih=>
   intro L h1 h2 h3
   by_cases q:(32:Int) ^ L<many
   ·exact ih (L+1) (by omega) (by omega) (.inr (by simpa using q))
   ·exact hn ⟨L,h1,by omega,by omega,h3⟩
 exact hd 23 1 (by decide) (by decide) (.inl rfl)
end
end NH.P
namespace NH.P
open PySem L2 NH PyProof.Rows
section
variable {μ μ1 μ2:Mem}{K:T->Mem->Prop}{Z:Xp}
noncomputable def inS (y:Str):Bool:=!(Builtin.Str.occurrences SG y 0 SG.length 1).isEmpty
noncomputable def yG (y:Str):Int:=Txt.find SG y
noncomputable def ko (ys:List Str):Int:=ys.foldl (λa y=>a * 32+yG y) 0
theorem Qi{y:Str}(h:inS y=true):∃i r,Builtin.Str.occurrences SG y 0 SG.length 1=i::r/\yG y=(i:Nat):=by
 unfold inS at h
 unfold yG Txt.find
 cases q:Builtin.Str.occurrences SG y 0 SG.length 1 with
 |nil=>rw[q] at h;cases h
 |cons i r=>exact⟨i,r,rfl,rfl⟩
theorem kN{ys:List Str}{y:Str}:ko (ys++[y])=ko ys * 32+yG y:=by simp[ko]
theorem Jy{ys:List Str}(h:ys.all inS=true):0<=ko ys:=by
 have go:∀(l:List Str) (a:Int),0<=a->l.all inS=true->0<=l.foldl (λa y=>a * 32+yG y) a:=by
  intro l
  induction l with
  |nil=>intro a h _;exact h
  |cons y r ih=>
   intro a ha hl
   simp only[List.all_cons,Bool.and_eq_true] at hl
   obtain⟨i,_,_,e⟩:=Qi hl.1
   exact ih _ (by show 0<=a * 32+yG y;rw[e];omega) hl.2
 exact go ys 0 (by decide) h
theorem uQ{z:Str}{L:Int}(hz:z.length<=room)(q:K (.bl (decide ((z.length:Int)=L)&&(sgn z).all inS)) μ):j9 [.str z,.int L] μ K Z:=by
 unfold j9
 refine⟨rfl,?_⟩
 refine⟨hz,?_⟩
 refine yf (λh1=>?_) (λh1=>?_)
 ·show (vI z).length<=room/\_
  rw[wb]
  refine⟨by rw[List.length_map,Qh];exact hz,?_⟩
  refine xg (λx=>match x with|.str y=>.bl (inS y)|t=>t) (λx hx k hk=>?_) ?_
  ·obtain⟨y,hy,rfl⟩:=List.mem_map.mp hx
   exact⟨_,rfl,hk⟩
  ·rw[List.map_map]
   refine⟨_,vD inS (sgn z),?_⟩
   rw[decide_eq_true h1] at q
   rw[List.all_map]
   exact q
 ·have q:K (.bl false) μ:=by simpa[h1] using q
  exact q
theorem xS{z:Str}(h:(sgn z).all inS=true)(q:K (.int (ko (sgn z))) μ):wj [.str z] μ K Z:=by
 unfold wj
 refine⟨rfl,?_⟩
 refine qT (λi τ μ'=>μ'=μ/\∃o,τ=[some (.str z),some (.int (ko ((sgn z).take i))),o]) ⟨rfl,none,rfl⟩ ?_ ?_
 ·rintro i x τ _ hx ⟨rfl,o,rfl⟩ N hN
  rw[wb,List.getElem?_map] at hx
  cases hy:(sgn z)[i]? with
  |none=>rw[hy] at hx;cases hx
  |some y=>
   rw[hy] at hx
   cases hx
   have hin:inS y=true:=List.all_eq_true.mp h y (List.mem_of_getElem? hy)
   obtain⟨j,r,e1,e2⟩:=Qi hin
   refine⟨_,rfl,?_⟩
   refine⟨.inr (by decide),?_⟩
   refine⟨j,r,e1,?_⟩
   refine hN _ _ ⟨rfl,some (.str y),?_⟩
   rw[List.take_add_one,hy,Option.toList_some,kN,e2]
   rfl
 ·rintro τ _ ⟨rfl,o,rfl⟩
  rw[wb,List.length_map,List.take_of_length_le (Nat.le_refl _)]
  exact q
theorem Ze{x y z n:Int}(s:Sz x y z)(q:K (.bl (decide (0<=n)&&decide (n<x * y * z))) μ):j8 [shp x y z,.int n] μ K Z:=by
 unfold j8
 refine⟨rfl,?_⟩
 refine vQ s ?_
 unfold jK
 refine⟨rfl,?_⟩
 refine vm ?_
 refine zT (λh=>?_) (λh=>?_)
 ·have q:K (.bl (decide (n<x * y * z))) μ:=by simpa[h] using q
  exact q
 ·have q:K (.bl false) μ:=by simpa[h] using q
  exact q
noncomputable def qc(many:Int)(L:Nat)(z:Str):Bool:=decide ((z.length:Int)=(L:Int))&&((sgn z).all inS&&decide (ko (sgn z)<many))
theorem ve{x y z:Int}{L:Nat}{t:Str}(s:Sz x y z)(w:Wd (x * y * z) L)(ht:t.length<=room)(q1:qc (x * y * z) L t=true->K (.int (ko (sgn t))) μ)(q2:qc (x * y * z) L t=false->Z 14 [(28,.int 0)] μ):w8 [shp x y z,.str t] μ K Z:=by
 unfold w8
 refine⟨rfl,?_⟩
 refine WA s w ?_
 refine uQ ht ?_
 unfold qc at q1 q2
 cases h1:decide ((t.length:Int)=(L:Int)) with
 |false=>rw[h1] at q2;exact⟨by decide,q2 rfl⟩
 |true=>
  cases h2:(sgn t).all inS with
  |false=>rw[h1,h2] at q2;exact⟨by decide,q2 rfl⟩
  |true=>
   refine xS h2 ?_
   refine Ze s ?_
   rw[decide_eq_true (Jy h2)]
   rw[h1,h2] at q1 q2
   cases h3:decide (ko (sgn t)<x * y * z) with
   |false=>rw[h3] at q2;exact⟨by decide,q2 rfl⟩
   |true=>rw[h3] at q1;exact q1 rfl
structure Mg(x y z:Int):Prop where
 a:(-big<x/\x<big)\/(-big<y/\y<big)
 b:(-big<x * y/\x * y<big)\/(-big<z/\z<big)
 p:0<x * y * z
theorem Sz.mg{x y z:Int}(s:Sz x y z):Mg x y z:=by
 have hp:=s.pos
 obtain⟨x1,x2,y1,y2,z1,z2⟩:=id s
 exact⟨.inl ⟨by unfold big;omega,by unfold big;omega⟩,.inr ⟨by unfold big;omega,by unfold big;omega⟩,hp⟩
theorem Z3{x y z:Int}{L:Nat}(s:Mg x y z)(w:Wd (x * y * z) L)(q:K (.int L) μ):je [.lst [.int x,.int y,.int z]] μ K Z:=by
 have hp:=s.p
 unfold je
 refine⟨rfl,?_⟩
 refine⟨_,rfl,_,rfl,s.a,_,rfl,s.b,?_⟩
 refine xB (λn τ μ'=>μ'=μ/\∃k:Nat,τ=[some (.lst [.int x,.int y,.int z]),some (.int ((x * y * z-1) / 32 ^ k)),some (.int ((k+1:Nat):Int))]/\n+k=40/\k+1<=L) 40 ⟨rfl,0,by rw[show (x * y * z-1) / 32 ^ 0=x * y * z-1 by simp];rfl,by decide,w.l1⟩ ?_
 rintro n τ _ ⟨rfl,k,rfl,h2,h3⟩ N hN
 have l2:=w.l2
 have pk:=ZH k
 have pk1:=ZH (k+1)
 have e32:(32:Int) ^ (k+1)=32 * 32 ^ k:=by rw[←pow_step,Int.mul_comm]
 have estep:(x * y * z-1) / 32 ^ k / 32=(x * y * z-1) / 32 ^ (k+1):=by
  rw[Int.ediv_ediv_of_nonneg (Int.le_of_lt pk),pow_step]
 refine zT (λh=>?_) (λh=>?_)
 ·refine⟨⟨by decide,by decide⟩,?_⟩
  have hge:(32:Int) ^ (k+1)<=x * y * z-1:=by
   have:=(Int.le_ediv_iff_mul_le pk).mp h
   rw[e32];exact this
  refine hN (n-1) _ _ (by omega) ⟨rfl,k+1,?_,by omega,?_⟩
  ·rw[estep];rfl
  ·have up:=w.up
   by_cases c:k+1=L
   ·rw[←c] at up;omega
   ·omega
 ·have hlt:x * y * z-1<32 ^ (k+1):=by
   have:=Int.lt_of_not_ge h
   have:=(Int.ediv_lt_iff_lt_mul pk).mp this
   rw[e32];exact this
  have:L=k+1:=by
   rcases w.lo with e|e
   ·have:=w.l1;omega
   ·by_cases c:k+1<=L-1
    ·have:=p32 c;omega
    ·omega
  subst this
  exact q
theorem z0B(k:Nat):(2:Int) ^ ((5 * (k:Int)).toNat)=32 ^ k:=by
 rw[show (5 * (k:Int)).toNat=5 * k by omega,Int.pow_mul];rfl
theorem KA(n:Int)(k:Nat):(⟨#[code (n / 32 ^ k % 32).toNat]⟩:Str)++wd n k=wd n (k+1):=by
 show (⟨#[code (n / 32 ^ k % 32).toNat]++(qf n k).toArray⟩:Str)=⟨(qf n (k+1)).toArray⟩
 rw[vK]
 simp
theorem qL{x y z n:Int}{L:Nat}(s:Mg x y z)(w:Wd (x * y * z) L)(q:K (.str (wd n L)) μ):zX [.lst [.int x,.int y,.int z],.int n] μ K Z:=by
 have l2:=w.l2
 unfold zX
 refine⟨rfl,?_⟩
 refine Z3 s w ?_
 refine⟨⟨by omega,by omega⟩,?_⟩
 refine qT (λi τ μ'=>μ'=μ/\i<=24/\∃o,τ=[some (.lst [.int x,.int y,.int z]),some (.int n),some (.str SG),some (.str (wd n i)),o]) ⟨rfl,by decide,none,rfl⟩ ?_ ?_
 ·rintro i x τ _ hx ⟨rfl,hi,o,rfl⟩ N hN
  obtain⟨rfl,hi2⟩:=wR hx
  refine⟨_,rfl,?_⟩
  refine⟨.inl ⟨by decide,by decide⟩,?_⟩
  refine⟨by omega,?_⟩
  have eb:Builtin.bitAnd (n / 2 ^ (5 * (i:Int)).toNat) 31=n / 32 ^ i % 32:=by rw[bitAnd_m5,z0B]
  have hm:=m32 (n / 32 ^ i)
  refine⟨by decide,_,(by rw[eb];exact z0P hm.1 hm.2),?_⟩
  refine⟨?_,?_⟩
  ·rw[zK];show 1+i<=room;unfold room;omega
  ·refine hN _ _ ⟨rfl,by omega,some (.int i),?_⟩
   rw[←KA]
   rfl
 ·rintro τ _ ⟨rfl,hi,o,rfl⟩
  rw[wK]
  exact q
end
end NH.P
namespace NH.P
open PySem L2 NH
section
local macro_rules | `(tactic| walk_at "grd") => `(tactic| first | decide | exact Or.inl (by decide) | exact Or.inr (by decide) | omega | (simp only [big, room]; omega) | fail)
local macro_rules | `(tactic| walk_at "go") => `(tactic| repeat' (first | (with_reducible refine ⟨_, rfl, ?_⟩) | (with_reducible refine ⟨?w, ?h, ?_⟩; case h => exact rfl) | (with_reducible refine And.intro ?_ ?_; walk_at "grd") | (with_reducible refine w9 ?_ ?_; rfl) | (with_reducible refine jV ?_ ?_; rfl) | (with_reducible refine brn_neg ?_ ?_; decide) | (with_reducible refine y0 ?_ ?_; decide) | fail))
variable {μ μ1 μ2:Mem}{K:T->Mem->Prop}{Z:Xp}
theorem vj{ns:List Int}{k:Int}(hk:0<=k)(q:∀c,K (.int c) μ):qt [.lst (ns.map T.int),.int k] μ K Z:=by
 unfold qt
 refine⟨rfl,?_⟩
 refine zT (λh=>?_) (λh=>?_)
 ·have hl:k.toNat<ns.length:=by
   rw[List.length_map] at h;omega
  refine⟨.int ns[k.toNat],?_,q _⟩
  rw[qU hk h,List.getElem?_map,List.getElem?_eq_getElem hl]
  rfl
 ·exact q _
theorem wW:∀zs:List Str,strsOf (zs.map T.str)=some zs
 |[]=>rfl
 |z::r=>by simp[strsOf,wW r]
end
section
variable {μ μ1 μ2:Mem}{K:T->Mem->Prop}{Z:Xp}
noncomputable abbrev cd(z:Str):List Nat:=z.cps.toList
theorem zu(a b:Str):cd (a++b)=cd a++cd b:=by simp[cd,Str.cps_append]
theorem Zp(a:Str):(cd a).length=a.length:=by simp[cd,Str.length]
theorem wB{a b:Str}(h:cd a=cd b):a=b:=by
 apply Str.ext'
 exact Array.toList_inj.mp h
theorem uD(n:Int)(L:Nat):sgn (wd n L)=(qf n L).map λc=>(⟨#[c]⟩:Str):=by simp[sgn,wd]
theorem uh{d:Nat}(h:d<32):inS (⟨#[code d]⟩:Str)=true/\yG (⟨#[code d]⟩:Str)=d:=by
 obtain⟨r,e⟩:=Yr h
 have e:Builtin.Str.occurrences SG ⟨#[code d]⟩ 0 SG.length 1=d::r:=e
 unfold inS yG Txt.find
 rw[e]
 exact⟨rfl,rfl⟩
theorem z0M(n:Int)(L:Nat):(sgn (wd n L)).all inS=true:=by
 rw[uD,List.all_map,List.all_eq_true]
 intro c hc
 obtain⟨d,hd,rfl⟩:=xD L n c hc
 exact (uh hd).1
theorem uz:∀(L:Nat) (n:Int),0<=n->n<32 ^ L->ko (sgn (wd n L))=n
 |0,n,h0,h1=>by
  have:n=0:=by
   have:(32:Int) ^ 0=1:=rfl
   omega
  subst this
  rfl
 |L+1,n,h0,h1=>by
  have e:sgn (wd n (L+1))=sgn (wd (n / 32) L)++[⟨#[code (n % 32).toNat]⟩]:=by
   rw[uD,uD]
   show (qf (n / 32) L++[code (n % 32).toNat]).map _=_
   rw[List.map_append]
   rfl
  have m:=m32 n
  have hd:n / 32<32 ^ L:=by
   rw[Int.ediv_lt_iff_lt_mul (by decide),pow_step]
   exact h1
  rw[e,kN,uz L (n / 32) (Int.ediv_nonneg h0 (by decide)) hd,(uh (d:=(n % 32).toNat) (by omega)).2]
  omega
theorem z0N{many n:Int}{L:Nat}(w:Wd many L)(h0:0<=n)(h1:n<many):qc many L (wd n L)=true:=by
 unfold qc
 have hu:=w.up
 rw[zK,decide_eq_true rfl,z0M,uz L n h0 (by omega),decide_eq_true h1]
 rfl
end
section
variable {μ μ1 μ2:Mem}{K:T->Mem->Prop}{Z:Xp}{x y z:Int}{i:Nat}
theorem join_cons{c:Nat}{a:Str}{r:List Str}(h:r≠[]):cd (Str.join ⟨#[c]⟩ (a::r))=cd a++c::cd (Str.join ⟨#[c]⟩ r):=by
 cases r with
 |nil=>exact absurd rfl h
 |cons b r=>
  show cd (a++⟨#[c]⟩++Str.join ⟨#[c]⟩ (b::r))=_
  rw[zu,zu]
  simp[cd]
theorem J2{c:Nat}:∀{l m x y:List Nat},c∉l->c∉m->l++c::x=m++c::y->l=m/\x=y
 |[],[],x,y,_,_,e=>⟨rfl,(List.cons.inj e).2⟩
 |[],b::m,x,y,_,hm,e=>by
  have:=(List.cons.inj e).1
  exact absurd (by rw[this];simp) hm
 |a::l,[],x,y,hl,_,e=>by
  have:=(List.cons.inj e).1
  exact absurd (by rw[←this];simp) hl
 |a::l,b::m,x,y,hl,hm,e=>by
  obtain⟨e1,e2⟩:=List.cons.inj e
  obtain⟨f1,f2⟩:=J2 (λw=>hl (List.mem_cons_of_mem _ w)) (λw=>hm (List.mem_cons_of_mem _ w)) e2
  exact⟨by rw[e1,f1],f2⟩
theorem uq{c:Nat}:∀{xs ys:List Str},xs≠[]->ys≠[]->(∀a∈xs,c∉cd a)->(∀a∈ys,c∉cd a)->cd (Str.join ⟨#[c]⟩ xs)=cd (Str.join ⟨#[c]⟩ ys)->xs=ys
 |[],_,h,_,_,_,_=>absurd rfl h
 |_::_,[],_,h,_,_,_=>absurd rfl h
 |a::xs,b::ys,_,_,hx,hy,e=>by
  have ha:=hx a List.mem_cons_self
  have hb:=hy b List.mem_cons_self
  by_cases e1:xs=[]
  ·by_cases e2:ys=[]
   ·subst e1 e2
    have e:cd a=cd b:=e
    rw[wB e]
   ·subst e1
    rw[join_cons e2] at e
    have e:cd a=cd b++c::_:=e
    exact absurd (by rw[e];simp) ha
  ·by_cases e2:ys=[]
   ·subst e2
    rw[join_cons e1] at e
    have e:cd a++c::_=cd b:=e
    exact absurd (by rw[←e];simp) hb
   ·rw[join_cons e1,join_cons e2] at e
    obtain⟨f1,f2⟩:=J2 ha hb e
    rw[wB f1,uq e1 e2 (λa h=>hx a (List.mem_cons_of_mem _ h)) (λa h=>hy a (List.mem_cons_of_mem _ h)) f2]
theorem wF{c:Nat}{xs:List Str}(h:xs≠[])(hx:∀a∈xs,c∉cd a):Txt.split (Txt.join ⟨#[c]⟩ xs) ⟨#[c]⟩=xs:=by
 have e:Txt.join ⟨#[c]⟩ xs=Str.join ⟨#[c]⟩ xs:=StrLaws.glued_eq_join _ _
 rw[e]
 have p:=PyProof.Rows.split_pos (Str.join ⟨#[c]⟩ xs) ⟨#[c]⟩
 refine uq (λw=>by rw[w] at p;simp at p) h (λa ha=>StrLaws.split_free _ c a ha) hx ?_
 rw[StrLaws.join_split]
noncomputable abbrev NLs:Str:="\n"
noncomputable abbrev SPs:Str:=" "
theorem ZR:NLs=⟨#[10]⟩:=by decide +kernel
theorem UW:SPs=⟨#[32]⟩:=by decide +kernel
noncomputable abbrev AZ:Str:="abcdefghijklmnopqrstuvwxyz"
noncomputable def gH(h:Str):Bool:=decide (1<=h.length)&&decide (h.length<=8)&&h.cps.toList.all λc=>decide (97<=c)&&decide (c<=122)
theorem Y5:(List.range 123).all (λc=>decide (c<97) || decide (c∈AZ.cps.toList))=true:=by decide +kernel
theorem U9:AZ.cps.toList.all (λc=>decide (97<=c)&&decide (c<=122))=true:=by decide +kernel
theorem z04{c:Nat}(h0:97<=c)(h1:c<=122):c∈AZ.cps.toList:=by
 have:=List.all_eq_true.mp Y5 c (List.mem_range.mpr (by omega))
 simp only[Bool.or_eq_true,decide_eq_true_eq] at this
 rcases this with h|h
 ·omega
 ·exact h
structure GH(h:Str):Prop where
 l1:1<=h.length
 l8:h.length<=8
 az:∀c∈cd h,97<=c/\c<=122
theorem Ve{h:Str}(e:gH h=true):GH h:=by
 unfold gH at e
 simp only[Bool.and_eq_true,decide_eq_true_eq,List.all_eq_true] at e
 exact⟨e.1.1,e.1.2,λc hc=>e.2 c hc⟩
theorem GH.hol{h:Str}(g:GH h):zv h=true:=by
 unfold zv
 rw[decide_eq_true (by have:=g.l1;omega),decide_eq_true (by have:=g.l8;omega)]
 simp only[Bool.true_and,List.all_eq_true]
 intro s hs
 obtain⟨c,hc,rfl⟩:=List.mem_map.mp hs
 have:=g.az c hc
 unfold isL
 rw[StrLaws.found_one]
 exact decide_eq_true (z04 this.1 this.2)
theorem GH.free{h:Str}(g:GH h){c:Nat}(hc:c<97):c∉cd h:=λw=>by have:=g.az c w;omega
noncomputable def w1:List Str:=["any","lease","ask","store","take","back","fall","bare","runs","stands","world","judge","who","tell","book","z"]
theorem z0A:w1.all gH=true:=by decide +kernel
noncomputable abbrev BI:Str:="bcdefghi"
noncomputable abbrev AXZ:Str:="axz"
noncomputable def w2 (n a k:Nat):Str:=Txt.slice (Txt.slice BI none (some (1+(n:Int)))) none (some (a:Int))++⟨#[AXZ.cps.toList.getD k 0]⟩++Txt.slice (Txt.slice BI none (some (1+(n:Int)))) (some ((a:Int)+1)) none
theorem YB:(List.range 8).all (λn=>decide ((Txt.slice BI none (some (1+(n:Int)))).length=n+1))=true:=by decide +kernel
theorem z0D:(List.range 8).all (λn=>(List.range (n+1)).all λa=>(List.range 3).all λk=>gH (w2 n a k))=true:=by decide +kernel
theorem UE{n:Nat}(h:n<8):(Txt.slice BI none (some (1+(n:Int)))).length=n+1:=of_decide_eq_true (List.all_eq_true.mp YB n (List.mem_range.mpr h))
theorem z0x{n a k:Nat}(h:n<8)(ha:a<n+1)(hk:k<3):GH (w2 n a k):=Ve (List.all_eq_true.mp (List.all_eq_true.mp (List.all_eq_true.mp z0D n (List.mem_range.mpr h)) a (List.mem_range.mpr ha)) k (List.mem_range.mpr hk))
theorem k8{i:Nat}{base:Int}(hs:St μ i)(h0:0<base)(h1:base<1073741824)(q:∀(v:Nat) μ',(v:Int)<base->Up μ i μ'->K (.int v) μ'):zk [.mut i,.int base] μ K Z:=
 zq hs h0 h1 λv μ' v0 v1 u=>by
  obtain⟨n,rfl⟩:=Int.eq_ofNat_of_zero_le v0
  exact q n μ' v1 u
theorem z0T:∀v:Nat,v<16->∃h,wJ ([T.str "any",.str "lease",.str "ask",.str "store",.str "take",.str "back",.str "fall",.str "bare",.str "runs",.str "stands",.str "world",.str "judge"]++[T.str "who",.str "tell",.str "book",.str "z"]) (v:Int)=some (.str h)/\GH h:=by
 have mem:∀h∈w1,GH h:=λh hh=>Ve (List.all_eq_true.mp z0A h hh)
 intro v hv
 have hl:w1.length=16:=rfl
 refine⟨w1[v],?_,mem _ (List.getElem_mem _)⟩
 have:v=0\/v=1\/v=2\/v=3\/v=4\/v=5\/v=6\/v=7\/v=8\/v=9\/v=10\/v=11\/v=12\/v=13\/v=14\/v=15:=by omega
 rcases this with rfl|rfl|rfl|rfl|rfl|rfl|rfl|rfl|rfl|rfl|rfl|rfl|rfl|rfl|rfl|rfl<;>rfl
theorem kz{sep:Str}{xs:List Str}(hl:xs.length<=1000)(hx:∀a∈xs,a.length<=1000)(hs:sep.length<=16):JoinOk sep xs=true:=by
 refine PyProof.Rows.joinOk_of_weight ?_ hs
 have:=StrLaws.sumLen_le xs hx
 have h2:xs.length * 1000<=1000 * 1000:=Nat.mul_le_mul_right _ hl
 omega
theorem QI{i:Nat}(hs:St μ i)(q:∀(h:Str) μ',GH h->Up μ i μ'->K (.str h) μ'):vq [.mut i] μ K Z:=by
 unfold vq
 refine⟨rfl,?_⟩
 refine k8 hs (by decide) (by decide) λway μ1 w1' u1=>?_
 refine zT (λe=>?_) (λe=>?_)
 ·refine⟨by decide,?_⟩
  refine k8 u1.st (by decide) (by decide) λv μ2 v1 u2=>?_
  obtain⟨h,hh,g⟩:=z0T v (by omega)
  exact⟨_,hh,q h μ2 g (u1.trans u2)⟩
 ·refine zT (λe2=>?_) (λe2=>?_)
  ·refine k8 u1.st (by decide) (by decide) λn μ2 n1 u2=>?_
   have hn:n<8:=by omega
   refine⟨by decide,?_⟩
   have bl:=UE hn
   have br:(Txt.slice BI none (some (1+(n:Int)))).length<=room:=by rw[bl];unfold room;omega
   refine⟨br,?_⟩
   refine k8 u2.st (by rw[bl];omega) (by rw[bl];omega) λa μ3 a1 u3=>?_
   rw[bl] at a1
   refine⟨br,?_⟩
   refine k8 u3.st (by decide) (by decide) λk μ4 k1 u4=>?_
   refine⟨by decide,?_⟩
   refine J5 (n:=3) (by decide +kernel) (by omega) k1 λch hch=>?_
   have s1:=Txt.slice_le (Txt.slice BI none (some (1+(n:Int)))) none (some (a:Int))
   have s2:=Txt.slice_le (Txt.slice BI none (some (1+(n:Int)))) (some ((a:Int)+1)) none
   refine⟨by show (Txt.slice (Txt.slice BI none (some (1+(n:Int)))) none (some (a:Int))).length+1<=room;unfold room;omega,?_⟩
   refine⟨br,?_⟩
   refine⟨by rw[Str.length_append,Qk];show (Txt.slice (Txt.slice BI none (some (1+(n:Int)))) none (some (a:Int))).length+1+(Txt.slice (Txt.slice BI none (some (1+(n:Int)))) (some ((a:Int)+1)) none).length<=room;unfold room;omega,?_⟩
   have ek:AXZ.cps.toList.getD k 0=ch:=by
    rw[List.getD_eq_getElem?_getD]
    have:((k:Int).toNat)=k:=by omega
    rw[this] at hch
    rw[hch];rfl
   have g:=z0x hn (show a<n+1 by omega) (show k<3 by omega)
   unfold w2 at g
   rw[ek] at g
   exact q _ μ4 g (((u1.trans u2).trans u3).trans u4)
  ·refine k8 u1.st (by decide) (by decide) λn μ2 n1 u2=>?_
   refine⟨⟨by omega,by omega⟩,?_⟩
   have hlr:(rangeT (1+(n:Int))).length=n+1:=by rw[wK];omega
   refine⟨by rw[hlr];unfold room;omega,?_⟩
   refine xx (λj ys μ'=>∃cs:List Nat,ys=(cs.map λc=>(⟨#[c]⟩:Str)).map T.str/\cs.length=j/\(∀c∈cs,97<=c/\c<=122)/\Up μ i μ') ⟨[],rfl,rfl,by simp,u1.trans u2⟩ ?_ ?_
   ·rintro j t ys μ' hx ⟨cs,rfl,hc,hz,U⟩ kk hkk
    refine⟨_,rfl,?_⟩
    refine k8 U.st (by decide) (by decide) λv μ3 v1 u3=>?_
    refine⟨by decide,?_⟩
    refine J5 (n:=26) (by decide +kernel) (by omega) v1 λch hch=>?_
    refine hkk _ _ ⟨cs++[ch],by simp,by simp[hc],λc hc'=>?_,U.trans u3⟩
    rcases List.mem_append.mp hc' with w|w
    ·exact hz c w
    ·rw[List.mem_singleton.mp w]
     have:=List.all_eq_true.mp U9 ch (List.mem_of_getElem? hch)
     simpa using this
   ·rintro ys μ' ⟨cs,rfl,hc,hz,U⟩
    rw[hlr] at hc
    refine⟨_,wW _,kz (by simp;omega) (λa ha=>?_) (by decide),?_⟩
    ·obtain⟨c,_,rfl⟩:=List.mem_map.mp ha
     rw[Qk];omega
    ·have e:Txt.join ("":Str) (cs.map λc=>(⟨#[c]⟩:Str))=⟨cs.toArray⟩:=by
      have e0:("":Str)=Str.empty:=rfl
      rw[e0,QP]
      congr 1
      rw[List.map_map]
      have:((cs.map ((λx=>x.cps.toList) ∘ λc=>(⟨#[c]⟩:Str))).flatten)=cs:=by
       clear hc hz
       induction cs with
       |nil=>rfl
       |cons c r ih=>simp only[List.map_cons,List.flatten_cons,ih];rfl
      rw[this]
     rw[e]
     exact q _ μ' ⟨by show 1<=cs.toArray.size;simp;omega,by show cs.toArray.size<=8;simp;omega,λc hc'=>hz c (by simpa[cd] using hc')⟩ U
end
section
variable {μ μ1 μ2:Mem}{K:T->Mem->Prop}{Z:Xp}{x y z:Int}{i L:Nat}
theorem xA(n:Int)(L:Nat){c:Nat}(hc:c=32\/c=10):c∉cd (wd n L):=λw=>by
 have w:c∈qf n L:=by simpa[cd,wd] using w
 obtain⟨d,hd,e⟩:=xD L n c w
 have all:(List.range 32).all (λd=>decide (code d≠32)&&decide (code d≠10))=true:=by decide +kernel
 have:=List.all_eq_true.mp all d (List.mem_range.mpr hd)
 simp only[Bool.and_eq_true,decide_eq_true_eq] at this
 rcases hc with rfl|rfl
 ·exact this.1 e.symm
 ·exact this.2 e.symm
theorem qO{t:Str}(q:K .non μ):zR [.str t] μ K Z:=by
 unfold zR
 exact⟨rfl,q⟩
end
end NH.P
namespace NH.P
open PySem L2 NH PyProof.Rows
section
variable {μ μ1 μ2:Mem}{K:T->Mem->Prop}{Z:Xp}{x y z:Int}{i L:Nat}
noncomputable def goodW(many:Int)(L:Nat):List Str->Bool
 |[h,w]=>zv h&&qc many L w
 |_=>false
noncomputable def qd(many:Int)(L:Nat)(a:Str):Bool:=goodW many L (Txt.split a SPs)
structure Lw(a:Str):Prop where
 fr:(10:Nat)∉cd a
 len:a.length<=200
 ws:∀w∈Txt.split a SPs,w.length<=200
theorem yN{t:Str}{k:Int}(s:Sz x y z)(w:Wd (x * y * z) L)(lw:Lw t)(g:qd (x * y * z) L t=true)(q:∀v,K v μ):zG [shp x y z,.str t,.int k] μ K Z:=by
 unfold qd goodW at g
 split at g
 ·rename_i h v e
  simp only[Bool.and_eq_true] at g
  have hh:h.length<=room:=Nat.le_trans (lw.ws h (by rw[e];simp)) (by decide)
  have hv:v.length<=room:=Nat.le_trans (lw.ws v (by rw[e];simp)) (by decide)
  unfold zG
  refine⟨rfl,?_⟩
  refine⟨⟨Nat.le_trans lw.len (by decide),by decide⟩,?_⟩
  have sp:vL t " "=.lst [.str h,.str v]:=by
   show T.lst ((Txt.split t SPs).map T.str)=_
   rw[e];rfl
  have rest:∀u:T,u=.lst [.str h,.str v]->zY (zO.drop 1) [some (shp x y z),some (.str t),some (.int k),some u] μ (En.fn K Z):=by
   intro u hu
   subst hu
   refine⟨_,rfl,?_⟩
   refine u9 hh g.1 ?_
   refine⟨_,rfl,?_⟩
   refine⟨_,rfl,?_⟩
   refine ve s w hv (λ_=>?_) (λh=>by rw[g.2] at h;cases h)
   exact q _
  exact rest _ sp
 ·cases g
theorem uS{t:Str}{k:Int}(s:Sz x y z)(w:Wd (x * y * z) L)(lw:Lw t)(g:qd (x * y * z) L t=false)(hk:k.natAbs.log2<1920)(q1:Z 14 [(28,.int k)] μ)(q2:Z 14 [(28,.int k),(28,.int k)] μ):zG [shp x y z,.str t,.int k] μ K Z:=by
 unfold zG
 refine⟨rfl,?_⟩
 refine⟨⟨Nat.le_trans lw.len (by decide),by decide⟩,?_⟩
 have rest:∀u:T,u=.lst ((Txt.split t SPs).map T.str)->zY (zO.drop 1) [some (shp x y z),some (.str t),some (.int k),some u] μ (En.fn K Z):=by
  intro u hu
  subst hu
  have hw:=lw.ws
  unfold qd at g
  generalize Txt.split t SPs=ws at g hw
  match ws,g,hw with
  |[],_,_=>exact⟨hk,q1⟩
  |[a],_,_=>exact⟨hk,q1⟩
  |a::b::c::r,_,_=>
   exact⟨hk,q1⟩
  |[h,v],g,hw=>
   have hh:h.length<=room:=Nat.le_trans (hw h (by simp)) (by decide)
   have hv:v.length<=room:=Nat.le_trans (hw v (by simp)) (by decide)
   refine⟨_,rfl,?_⟩
   refine wz hh ?_
   cases e:zv h with
   |false=>exact⟨hk,q1⟩
   |true=>
    refine⟨_,rfl,?_⟩
    refine⟨_,rfl,?_⟩
    refine ve s w hv (λh2=>?_) (λ_=>?_)
    ·have g:(zv h&&qc (x * y * z) L v)=false:=g
     rw[e,h2] at g
     cases g
    ·refine⟨by decide,?_⟩
     exact⟨hk,q2⟩
 exact rest _ rfl
end
section
variable {μ μ1 μ2:Mem}{K:T->Mem->Prop}{Z:Xp}{x y z:Int}{i L:Nat}
theorem ub{ts:List Str}(hf:∀a∈ts,Lw a)(hl:ts.length<=12):(Txt.join NLs ts).length<=2500:=by
 rw[show Txt.join NLs ts=Str.join NLs ts from StrLaws.glued_eq_join _ _]
 have h1:=StrLaws.join_length_le NLs ts
 have h2:=StrLaws.sumLen_le (B:=200) ts λa ha=>(hf a ha).len
 have h3:NLs.length=1:=by decide
 rw[h3] at h1
 have h4:ts.length * 200<=12 * 200:=Nat.mul_le_mul_right _ hl
 omega
theorem join_le{ts:List Str}(hf:∀a∈ts,Lw a)(hl:ts.length<=12):(Txt.join NLs ts).length<=room:=Nat.le_trans (ub hf hl) (by decide)
theorem jW{ts:List Str}(hf:∀a∈ts,Lw a)(hl:ts.length<=12):JoinOk NLs ts=true:=
 kz (by omega) (λa ha=>Nat.le_trans (hf a ha).len (by decide)) (by decide)
inductive Fst(many:Int)(L:Nat)(ts:List Str):Int->Prop
 |all (h:∀a∈ts,qd many L a=true):Fst many L ts (-1)
 |bad (n:Nat) (a:Str) (h:∀i,i<n->∀b,ts[i]?=some b->qd many L b=true) (hn:ts[n]?=some a) (ha:qd many L a=false):Fst many L ts n
theorem We{k:Int}(h0:0<=k)(h1:k<100):k.natAbs.log2<1920:=by
 have e:k.natAbs<2 ^ 7:=by omega
 have:k.natAbs.log2<=7:=by
  by_cases c:k.natAbs=0
  ·rw[c];decide
  ·have:=(Nat.log2_lt c).mpr e;omega
 omega
theorem V1 {ts:List Str} {v:Int} (s:Sz x y z) (w:Wd (x * y * z) L) (h:ts≠[]) (hf:∀a∈ts,Lw a) (hl:ts.length<=12) (ne:Txt.join NLs ts≠("":Str)) (f:Fst (x * y * z) L ts v)
  (q1:v = -1->∀o,K (.mut μ.length) (μ++[o])) (q2:0<=v->Z 14 [(28,.int v)] μ/\Z 14 [(28,.int v),(28,.int v)] μ):zC [shp x y z,.str (Txt.join NLs ts)] μ K Z:=by
 have jl:=join_le hf hl
 unfold zC
 refine⟨rfl,?_⟩
 refine qO ?_
 refine y0 ne ?_
 refine⟨⟨jl,by decide⟩,?_⟩
 have sp:vL (Txt.join NLs ts) "\n"=.lst (ts.map T.str):=by
  show T.lst ((Txt.split (Txt.join NLs ts) NLs).map T.str)=_
  rw[ZR,wF h λa ha=>(hf a ha).fr]
 have rest:∀t:T,t=.lst (ts.map T.str)->zY (qp.drop 3) [some (shp x y z),some (.str (Txt.join NLs ts)),some t] μ (En.fn K Z):=by
  intro t ht
  subst ht
  have hln:((ts.map T.str).length:Int)=(ts.length:Int):=by simp
  refine⟨⟨by omega,by omega⟩,?_⟩
  have hlr:(rangeT ((ts.map T.str).length:Int)).length=ts.length:=by rw[wK];omega
  refine⟨by rw[hlr];unfold room;omega,?_⟩
  refine xx (λj ys μ'=>μ'=μ/\∀n a,ts[n]?=some a->(∀i,i<n->∀b,ts[i]?=some b->qd (x * y * z) L b=true)->qd (x * y * z) L a=false->j<=n) ⟨rfl,λn _ _ _ _=>Nat.zero_le n⟩ ?_ ?_
  ·rintro j t ys μ' hx ⟨rfl,hj0⟩ kk hkk
   obtain⟨rfl,hj⟩:=wR hx
   have hj:j<ts.length:=by omega
   have hget:ts[j]?=some ts[j]:=by simp[hj]
   refine⟨_,rfl,?_⟩
   refine⟨.str ts[j],?_,?_⟩
   ·rw[qU (by omega) (by simp;omega)]
    simp[hj]
   ·have lw:=hf _ (List.getElem_mem hj)
    cases g:qd (x * y * z) L ts[j] with
    |true=>
     refine yN s w lw g λv=>?_
     refine hkk _ _ ⟨rfl,λn a ha hb hc=>?_⟩
     have:=hj0 n a ha hb hc
     by_cases e:j=n
     ·subst e
      rw[hget] at ha
      cases ha
      rw[g] at hc;cases hc
     ·omega
    |false=>
     have ev:v=(j:Int):=by
      cases f with
      |all h=>rw[h _ (List.getElem_mem hj)] at g;cases g
      |bad n a h1 hn ha=>
       have:=hj0 n a hn h1 ha
       by_cases c:j<n
       ·rw[h1 j c _ hget] at g;cases g
       ·have:j=n:=by omega
        subst this;rfl
     subst ev
     have q:=q2 (by omega)
     exact uS s w lw g (We (by omega) (by omega)) q.1 q.2
  ·rintro ys μ' ⟨rfl,hj⟩
   rw[hlr] at hj
   refine q1 ?_ _
   cases f with
   |all=>rfl
   |bad n a h1 hn ha=>
    have:=hj n a hn h1 ha
    have:=(List.getElem?_eq_some_iff.mp hn).1
    omega
 exact rest _ sp
noncomputable def Told (x y z:Int)(t:T)(v:Int):Prop:=∀(μ:Mem) (K:T->Mem->Prop) (Z:Xp),(∀o,K (.int v) (μ++o))->zr [shp x y z,t] μ K Z
theorem wm {ts:List Str} {v:Int} (s:Sz x y z) (w:Wd (x * y * z) L) (h:ts≠[]) (hf:∀a∈ts,Lw a) (hl:ts.length<=12) (ne:Txt.join NLs ts≠("":Str)) (f:Fst (x * y * z) L ts v):Told x y z (.str (Txt.join NLs ts)) v:=by
 intro μ K Z q
 unfold zr
 refine⟨rfl,?_⟩
 refine V1 s w h hf hl ne f (λe o=>?_) (λe=>⟨?_,?_⟩)
 ·subst e;exact q _
 ·have q:=q []
  rw[List.append_nil] at q
  refine⟨rfl,?_⟩
  refine⟨rfl,?_⟩
  exact q
 ·have q:=q []
  rw[List.append_nil] at q
  refine⟨rfl,?_⟩
  refine⟨rfl,?_⟩
  exact q
theorem uF{sh:T}(q:K (.mut μ.length) (μ++[.lst []])):zC [sh,.str ""] μ K Z:=by
 unfold zC
 refine⟨rfl,?_⟩
 refine qO ?_
 exact q
theorem QC{sh t:T}(h:(match t with|.str _=>false|.mut _=>false|.clo _ _=>false|.exc _ _=>false|.obj _ _=>false|_=>true)=true)(q:Z 14 [(28,.int 0)] μ):zC [sh,t] μ K Z:=by
 unfold zC
 refine⟨rfl,?_⟩
 have go:∀(Z1:Xp) (K1:T->Mem->Prop),Z1 14 [(28,.int 0)] μ->zR [t] μ K1 Z1:=λZ1 K1 q=>by
  unfold zR
  cases t<;>first|(cases h;done)|exact⟨rfl,by decide,q⟩
 exact go _ _ q
theorem Q_:Told x y z (.str "") (-1):=by
 intro μ K Z q
 unfold zr
 refine⟨rfl,?_⟩
 refine uF ?_
 exact q _
theorem J3{t:T}(h:(match t with|.str _=>false|.mut _=>false|.clo _ _=>false|.exc _ _=>false|.obj _ _=>false|_=>true)=true):Told x y z t 0:=by
 intro μ K Z q
 have q:=q []
 rw[List.append_nil] at q
 unfold zr
 refine⟨rfl,?_⟩
 refine QC h ?_
 refine⟨rfl,?_⟩
 refine⟨rfl,?_⟩
 exact q
end
section
variable {μ μ1 μ2:Mem}{K:T->Mem->Prop}{Z:Xp}{x y z many:Int}{i L:Nat}
noncomputable def jc:List Str->List Nat
 |[]=>[]
 |[a]=>cd a
 |a::b::r=>cd a++32::jc (b::r)
theorem ZW:∀{ws:List Str},ws≠[]->cd (Str.join ⟨#[32]⟩ ws)=jc ws
 |[],h=>absurd rfl h
 |[a],_=>rfl
 |a::b::r,_=>by
  rw[join_cons (by simp),ZW (by simp)]
  rfl
theorem Vu{t:Str}{ws:List Str}(e:cd t=jc ws)(ne:ws≠[])(fr:∀a∈ws,(32:Nat)∉cd a):Txt.split t SPs=ws:=by
 have:t=Txt.join ⟨#[32]⟩ ws:=by
  rw[show Txt.join ⟨#[32]⟩ ws=Str.join ⟨#[32]⟩ ws from StrLaws.glued_eq_join _ _]
  exact wB (by rw[e,ZW ne])
 rw[this,UW]
 exact wF ne fr
structure Wf(a:Str):Prop where
 b:(32:Nat)∉cd a
 n:(10:Nat)∉cd a
 l:a.length<=40
noncomputable def wfB (a:Str):Bool:=!(cd a).contains 32&&!(cd a).contains 10&&decide (a.length<=40)
theorem wx{a:Str}(h:wfB a=true):Wf a:=by
 unfold wfB at h
 simp only[Bool.and_eq_true,Bool.not_eq_true',decide_eq_true_eq] at h
 refine⟨λw=>?_,λw=>?_,h.2⟩
 ·have:=List.contains_iff_mem.mpr w
  rw[h.1.1] at this
  cases this
 ·have:=List.contains_iff_mem.mpr w
  rw[h.1.2] at this
  cases this
theorem uw{n:Int}{L:Nat}(h:L<=40):Wf (wd n L):=⟨xA _ _ (.inl rfl),xA _ _ (.inr rfl),by rw[zK];exact h⟩
theorem Vo{a b:Str}(h1:Wf a)(h2:Wf b)(h:a.length+b.length<=40):Wf (a++b):=
 ⟨λw=>by rw[zu] at w;exact (List.mem_append.mp w).elim h1.b h2.b,λw=>by rw[zu] at w;exact (List.mem_append.mp w).elim h1.n h2.n,by rw[Str.length_append];exact h⟩
theorem WG:∀{ws:List Str} {c:Nat},c∈jc ws->c=32\/∃a∈ws,c∈cd a
 |[],c,h=>by cases h
 |[a],c,h=>.inr ⟨a,by simp,h⟩
 |a::b::r,c,h=>by
  rcases List.mem_append.mp h with h|h
  ·exact .inr ⟨a,by simp,h⟩
  ·rcases List.mem_cons.mp h with h|h
   ·exact .inl h
   ·rcases WG h with h|⟨d,hd,h⟩
    ·exact .inl h
    ·exact .inr ⟨d,List.mem_cons_of_mem _ hd,h⟩
theorem WB:∀{ws:List Str},(∀a∈ws,a.length<=40)->(jc ws).length<=41 * ws.length
 |[],_=>by simp[jc]
 |[a],h=>by have:=h a (by simp);show (cd a).length<=_;rw[Zp];simp;omega
 |a::b::r,h=>by
  have h1:=h a (by simp)
  have h2:=WB (ws:=b::r) λc hc=>h c (List.mem_cons_of_mem _ hc)
  show (cd a++32::jc (b::r)).length<=_
  rw[List.length_append,Zp,List.length_cons]
  simp only[List.length_cons] at h2 ⊢
  omega
structure Bl(many:Int)(L:Nat)(t:Str):Prop where
 lw:Lw t
 no:qd many L t=false
theorem Xl{t:Str}{ws:List Str}(e:cd t=jc ws)(ne:ws≠[])(fr:∀a∈ws,Wf a)(h4:ws.length<=4):Lw t/\Txt.split t SPs=ws:=by
 have sp:=Vu e ne λa ha=>(fr a ha).b
 have jl:=WB λa ha=>(fr a ha).l
 refine⟨⟨λw=>?_,?_,λa ha=>?_⟩,sp⟩
 ·rw[e] at w
  rcases WG w with h|⟨a,ha,h⟩
  ·omega
  ·exact (fr a ha).n h
 ·rw[←Zp,e];omega
 ·rw[sp] at ha
  have:=(fr a ha).l
  omega
theorem zQ{t:Str}{ws:List Str}(e:cd t=jc ws)(ne:ws≠[])(fr:∀a∈ws,Wf a)(h4:ws.length<=4)(g:goodW many L ws=false):Bl many L t:=by
 obtain⟨lw,sp⟩:=Xl e ne fr h4
 exact⟨lw,by unfold qd;rw[sp];exact g⟩
theorem c_:cd ("":Str)=[]:=by decide +kernel
theorem c_b:cd (" ":Str)=[32]:=by decide +kernel
theorem c_a:cd ("anna":Str)=[97,110,110,97]:=by decide +kernel
theorem Z8:cd ("anna ":Str)=[97,110,110,97,32]:=by decide +kernel
theorem z0f:cd ("anna  ":Str)=[97,110,110,97,32,32]:=by decide +kernel
theorem z0G:cd (" anna ":Str)=[32,97,110,110,97,32]:=by decide +kernel
theorem c_A:cd ("Anna":Str)=[65,110,110,97]:=by decide +kernel
theorem z1k:cd ("Anna ":Str)=[65,110,110,97,32]:=by decide +kernel
theorem c_9:cd ("abcdefghi":Str)=[97,98,99,100,101,102,103,104,105]:=by decide +kernel
theorem z15:cd ("abcdefghi ":Str)=[97,98,99,100,101,102,103,104,105,32]:=by decide +kernel
theorem z1a:cd ("a1":Str)=[97,49]:=by decide +kernel
theorem z0o:cd ("a1 ":Str)=[97,49,32]:=by decide +kernel
theorem c_5:cd ("5":Str)=[53]:=by decide +kernel
theorem z1n:cd ("5 ":Str)=[53,32]:=by decide +kernel
theorem w_:Wf "":=wx (by decide +kernel)
theorem w_a:Wf "anna":=wx (by decide +kernel)
theorem h_:zv ""=false:=by decide +kernel
theorem h_A:zv "Anna"=false:=by decide +kernel
theorem h_9:zv "abcdefghi"=false:=by decide +kernel
theorem z1p:zv "a1"=false:=by decide +kernel
theorem h_5:zv "5"=false:=by decide +kernel
theorem xF{t:Str}(h:t.length≠L):qc many L t=false:=by
 unfold qc
 rw[decide_eq_false (by omega)]
 rfl
theorem z0F{a b:Str}(h:(sgn b).all inS=false):qc many L (a++b)=false:=by
 unfold qc
 have e:sgn (a++b)=sgn a++sgn b:=by simp[sgn,Str.cps_append]
 rw[e,List.all_append,h]
 simp
theorem Wg{h w:Str}(e:zv h=false):goodW many L [h,w]=false:=by
 show (zv h&&_)=false
 rw[e];rfl
theorem Ww{h w:Str}(e:qc many L w=false):goodW many L [h,w]=false:=by
 show (zv h&&qc many L w)=false
 rw[e,Bool.and_false]
theorem all1{P:Str->Prop}{a:Str}(h:P a):∀c∈[a],P c:=λc hc=>by rw[List.mem_singleton.mp hc];exact h
theorem zA{P:Str->Prop}{a:Str}{r:List Str}(h:P a)(hr:∀c∈r,P c):∀c∈a::r,P c:=λc hc=>by
 rcases List.mem_cons.mp hc with rfl|hc
 ·exact h
 ·exact hr c hc
theorem z05{n:Int}{L:Nat}:Txt.slice (wd n (L+1)) (some 1) none=wd n L:=by
 have s:=slice_from_eq (x:=wd n (L+1)) (i:=1) (b:=(wd n (L+1)).length) (by decide) (by rw[zK];omega) rfl
 rw[s]
 refine wB ?_
 show ((cd (wd n (L+1))).drop 1).take _=cd (wd n L)
 have e:cd (wd n (L+1))=code (n / 32 ^ L % 32).toNat::qf n L:=by show (qf n (L+1)).toArray.toList=_;rw[vK]
 rw[e,List.drop_one,List.tail_cons,List.take_of_length_le (by rw[qY,zK];omega)]
 rfl
theorem z17{n:Int}{L:Nat}:Txt.slice (wd n (L+1)) none (some (-1))=wd (n / 32) L:=by
 have s:Txt.slice (wd n (L+1)) none (some (-1))=⟨(((wd n (L+1)).cps.toList.drop 0).take ((-1:Int)+(wd n (L+1)).length-0).toNat).toArray⟩:=StrLaws.sliceText_to_neg (by decide) (by rw[zK];omega)
 rw[s]
 refine wB ?_
 show (((qf n (L+1)).toArray.toList).drop 0).take _=(qf (n / 32) L).toArray.toList
 rw[zK]
 have e:(-1+((L+1:Nat):Int)-0).toNat=L:=by omega
 rw[e]
 show List.take L (qf (n / 32) L++[code (n % 32).toNat])=_
 rw[List.take_append_of_le_length (by rw[qY];omega),List.take_of_length_le (by rw[qY];omega)]
end
section
variable {μ μ1 μ2:Mem}{K:T->Mem->Prop}{Z:Xp}{x y z many:Int}{i L:Nat}
noncomputable def QL (n m:Int)(L L':Nat):List Str:=
 ([""," ","anna","anna ",wd n L," "++wd n L,"anna  "++wd n L,"anna "++wd n L++" "," anna "++wd n L]:List Str)++
 ["Anna "++wd n L,"abcdefghi "++wd n L,"a1 "++wd n L,"anna "++wd n L++"0","anna "++Txt.slice (wd n L) (some 1) none]++
 ["anna "++Txt.slice (wd n L) none (some (-1))++"u","anna "++Txt.slice (wd n L) none (some (-1))++"!","anna "++wd n L++" "++wd n L,"5 "++wd n L]++
 ["anna "++Txt.slice (wd n L) none (some (-1))++"I"]++["anna "++wd m L']
theorem JA{n:Int}{L':Nat}(w:Wd many L)(w':Wd (many+1) L')(m0:0<=many):∀t∈QL n many L L',Bl many L t:=by
 have l1:=w.l1
 have l2:=w.l2
 have l2':=w'.l2
 obtain⟨M,rfl⟩:∃M,L=M+1:=⟨L-1,by omega⟩
 have ww:Wf (wd n (M+1)):=uw (by omega)
 have wl:=zK n (M+1)
 have last:∀c:Str,(sgn c).all inS=false->Wf c->c.length<=1->Bl many (M+1) ("anna "++wd (n / 32) M++c):=λc hc hw hl=>by
  refine zQ (ws:=["anna",wd (n / 32) M++c]) ?_ (by simp) (zA w_a (all1 (Vo (uw (by omega)) hw (by rw[zK];omega)))) (by simp) (Ww (z0F hc))
  simp[zu,jc,Z8,c_a]
 unfold QL
 rw[z05,z17]
 simp only[List.cons_append,List.nil_append]
 refine zA (P:=Bl many (M+1)) ?_ (zA ?_ (zA ?_ (zA ?_ (zA ?_ (zA ?_ (zA ?_ (zA ?_ (zA ?_ (zA ?_ (zA ?_ (zA ?_ (zA ?_ (zA ?_ (zA ?_ (zA ?_ (zA ?_ (zA ?_ (zA ?_ (all1 ?_)))))))))))))))))))
 ·exact zQ (ws:=[""]) (by simp[jc]) (by simp) (all1 w_) (by simp) rfl
 ·exact zQ (ws:=["",""]) (by simp[jc,c_b,c_]) (by simp) (zA w_ (all1 w_)) (by simp) (Wg h_)
 ·exact zQ (ws:=["anna"]) (by simp[jc]) (by simp) (all1 w_a) (by simp) rfl
 ·exact zQ (ws:=["anna",""]) (by simp[jc,Z8,c_a,c_]) (by simp) (zA w_a (all1 w_)) (by simp) (Ww (xF (by show (0:Nat)≠M+1;omega)))
 ·exact zQ (ws:=[wd n (M+1)]) (by simp[jc]) (by simp) (all1 ww) (by simp) rfl
 ·exact zQ (ws:=["",wd n (M+1)]) (by simp[zu,jc,c_b,c_]) (by simp) (zA w_ (all1 ww)) (by simp) (Wg h_)
 ·exact zQ (ws:=["anna","",wd n (M+1)]) (by simp[zu,jc,z0f,c_a,c_]) (by simp) (zA w_a (zA w_ (all1 ww))) (by simp) rfl
 ·exact zQ (ws:=["anna",wd n (M+1),""]) (by simp[zu,jc,Z8,c_a,c_b,c_]) (by simp) (zA w_a (zA ww (all1 w_))) (by simp) rfl
 ·exact zQ (ws:=["","anna",wd n (M+1)]) (by simp[zu,jc,z0G,c_a,c_b,c_]) (by simp) (zA w_ (zA w_a (all1 ww))) (by simp) rfl
 ·exact zQ (ws:=["Anna",wd n (M+1)]) (by simp[zu,jc,z1k,c_A]) (by simp) (zA (wx (by decide +kernel)) (all1 ww)) (by simp) (Wg h_A)
 ·exact zQ (ws:=["abcdefghi",wd n (M+1)]) (by simp[zu,jc,z15,c_9]) (by simp) (zA (wx (by decide +kernel)) (all1 ww)) (by simp) (Wg h_9)
 ·exact zQ (ws:=["a1",wd n (M+1)]) (by simp[zu,jc,z0o,z1a]) (by simp) (zA (wx (by decide +kernel)) (all1 ww)) (by simp) (Wg z1p)
 ·exact zQ (ws:=["anna",wd n (M+1)++"0"]) (by simp[zu,jc,Z8,c_a]) (by simp) (zA w_a (all1 (Vo ww (wx (by decide +kernel)) (by rw[wl];show M+1+1<=40;omega)))) (by simp) (Ww (xF (by rw[Str.length_append,wl];show M+1+1≠M+1;omega)))
 ·exact zQ (ws:=["anna",wd n M]) (by simp[zu,jc,Z8,c_a]) (by simp) (zA w_a (all1 (uw (by omega)))) (by simp) (Ww (xF (by rw[zK];omega)))
 ·exact last "u" (by decide +kernel) (wx (by decide +kernel)) (by decide)
 ·exact last "!" (by decide +kernel) (wx (by decide +kernel)) (by decide)
 ·exact zQ (ws:=["anna",wd n (M+1),wd n (M+1)]) (by simp[zu,jc,Z8,c_a,c_b]) (by simp) (zA w_a (zA ww (all1 ww))) (by simp) rfl
 ·exact zQ (ws:=["5",wd n (M+1)]) (by simp[zu,jc,z1n,c_5]) (by simp) (zA (wx (by decide +kernel)) (all1 ww)) (by simp) (Wg h_5)
 ·exact last "I" (by decide +kernel) (wx (by decide +kernel)) (by decide)
 ·refine zQ (ws:=["anna",wd many L']) (by simp[zu,jc,Z8,c_a]) (by simp) (zA w_a (all1 (uw (by omega)))) (by simp) (Ww ?_)
  by_cases e:L'=M+1
  ·subst e
   unfold qc
   rw[uz _ many m0 (by have:=w'.up;omega),decide_eq_false (Int.lt_irrefl _)]
   simp
  ·exact xF (by rw[zK];exact e)
end
section
variable {μ μ1 μ2:Mem}{K:T->Mem->Prop}{Z:Xp}{x y z many:Int}{i L:Nat}
structure Up2(μ:Mem)(i:Nat)(μ':Mem):Prop where
 ot:∀j o,j≠i->μ[j]?=some o->μ'[j]?=some o
 st:St μ' i
theorem Up.up2(u:Up μ i μ1):Up2 μ i μ1:=⟨λj o hj h=>by rw[u.ot j hj];exact h,u.st⟩
theorem Up2.trans(a:Up2 μ i μ1)(b:Up2 μ1 i μ2):Up2 μ i μ2:=⟨λj o hj h=>b.ot j o hj (a.ot j o hj h),b.st⟩
theorem Up2.more(hs:St μ i)(o:Mem):Up2 μ i (μ++o):=⟨λj x _ h=>by rw[List.getElem?_append_left (List.getElem?_eq_some_iff.mp h).1];exact h,let ⟨a,b,c,h⟩:=hs;⟨a,b,c,by rw[List.getElem?_append_left (List.getElem?_eq_some_iff.mp h).1];exact h⟩⟩
theorem Qe{a b c d e:MO}(hs:St μ i):Up2 μ i (((μ++[a]++[b]++[c]).set (μ++[a]++[b]).length d).set (μ++[a]++[b]).length e):=by
 have ot:∀j o,μ[j]?=some o->(((μ++[a]++[b]++[c]).set (μ++[a]++[b]).length d).set (μ++[a]++[b]).length e)[j]?=some o:=λj o h=>by
  have jl:=(List.getElem?_eq_some_iff.mp h).1
  have hl:(μ++[a]++[b]).length=μ.length+2:=by simp
  rw[List.getElem?_set_ne (by omega),List.getElem?_set_ne (by omega)]
  exact q_ (q_ (q_ h))
 exact⟨λj o _ h=>ot j o h,let ⟨a,b,c,h⟩:=hs;⟨a,b,c,ot _ _ h⟩⟩
theorem Q6(hs:St μ i)(s:Sz x y z)(w:Wd (x * y * z) L)(q:∀(t:Str) μ',Bl (x * y * z) L t->Up2 μ i μ'->K (.str t) μ'):qK [.mut i,.lst [.int x,.int y,.int z]] μ K Z:=by
 have l2:=w.l2
 unfold qK
 refine⟨rfl,?_⟩
 refine kH hs s λn μ1 n0 n1 u1=>?_
 refine qL s.mg w ?_
 refine⟨_,rfl,_,rfl,s.mg.a,_,rfl,s.mg.b,?_⟩
 have hw:=zK n L
 have g:∀(a:Str),a.length<=20->a.length+(wd n L).length<=room:=λa ha=>by rw[hw];unfold room;omega
 have r:∀{k:Nat},k<=200->k<=room:=λh=>Nat.le_trans h (by decide)
 have e1:("":Str).length=0:=by decide +kernel
 have e2:(" ":Str).length=1:=by decide +kernel
 have e3:("anna ":Str).length=5:=by decide +kernel
 have e4:("anna  ":Str).length=6:=by decide +kernel
 have e5:(" anna ":Str).length=6:=by decide +kernel
 have e6:("Anna ":Str).length=5:=by decide +kernel
 have e7:("abcdefghi ":Str).length=10:=by decide +kernel
 have e8:("a1 ":Str).length=3:=by decide +kernel
 have e9:("0":Str).length=1:=by decide +kernel
 have e10:("u":Str).length=1:=by decide +kernel
 have e11:("!":Str).length=1:=by decide +kernel
 have e12:("5 ":Str).length=2:=by decide +kernel
 have e13:("I":Str).length=1:=by decide +kernel
 have s1:=Txt.slice_le (wd n L) (some 1) none
 have s2:=Txt.slice_le (wd n L) none (some (-1))
 refine⟨r (by omega),?_⟩
 refine⟨r (by omega),?_⟩
 refine⟨r (by omega),?_⟩
 refine⟨r (by rw[Str.length_append];omega),?_⟩
 refine⟨r (by omega),?_⟩
 have c1:μ1.length≠i:=λz=>by have:=u1.len;obtain⟨a,b,c,h⟩:=hs;have:=(List.getElem?_eq_some_iff.mp h).1;omega
 refine⟨r (by omega),?_⟩
 refine⟨r (by omega),?_⟩
 refine⟨r (by omega),?_⟩
 refine⟨r (by omega),?_⟩
 refine⟨r (by rw[Str.length_append];omega),?_⟩
 refine⟨r (by omega),?_⟩
 refine⟨r (by omega),?_⟩
 refine⟨_,zE,r (by simp),?_⟩
 refine⟨r (by omega),?_⟩
 refine⟨r (by omega),?_⟩
 refine⟨r (by rw[Str.length_append];omega),?_⟩
 refine⟨r (by omega),?_⟩
 refine⟨r (by omega),?_⟩
 refine⟨r (by rw[Str.length_append];omega),?_⟩
 refine⟨r (by omega),?_⟩
 refine⟨r (by rw[Str.length_append];omega),?_⟩
 refine⟨r (by rw[Str.length_append,Str.length_append];omega),?_⟩
 refine⟨r (by omega),?_⟩
 refine⟨_,zE,r (by simp),?_⟩
 refine⟨⟨_,zE⟩,?_⟩
 refine⟨r (by omega),?_⟩
 refine⟨r (by omega),?_⟩
 refine⟨r (by rw[Str.length_append];omega),?_⟩
 refine⟨_,zE,by show (18:Nat)<room;decide,?_⟩
 refine⟨⟨_,get_set zE⟩,?_⟩
 have hp:=s.pos
 have hle:=s.le
 have em:(x * y * z+1) * 1 * 1=x * y * z+1:=by omega
 have m1:Mg (x * y * z+1) 1 1:=⟨.inr (by decide),.inr (by decide),by rw[em];omega⟩
 obtain⟨L',w0⟩:=Qd (many:=(x * y * z+1) * 1 * 1) (by
  rw[em]
  have:(1000000000000000000000000000000000000:Int)+51<=32 ^ 24:=by decide
  omega)
 have w':Wd (x * y * z+1) L':=by rw[em] at w0;exact w0
 have l2':=w'.l2
 refine qL m1 w0 ?_
 refine⟨r (by rw[zK];omega),?_⟩
 refine⟨_,get_set zE,by show (19:Nat)<room;decide,?_⟩
 have hb:=JA (n:=n) w w' (by omega)
 have ix:∀v:Int,0<=v->v<20->∃t,t∈QL n (x * y * z) L L'/\wJ ((QL n (x * y * z) L L').map T.str) v=some (.str t):=λv v0 v1=>by
  have hl:(QL n (x * y * z) L L').length=20:=rfl
  have hv:v.toNat<(QL n (x * y * z) L L').length:=by rw[hl];omega
  refine⟨_,List.getElem_mem hv,?_⟩
  rw[qU v0 (by rw[List.length_map,hl];omega),List.getElem?_map,List.getElem?_eq_getElem hv]
  rfl
 have il:i<μ1.length:=by obtain⟨a,b,c,h⟩:=u1.st;exact (List.getElem?_eq_some_iff.mp h).1
 refine zq (i:=i) (Qe u1.st).st (by decide) (by decide) λv μ2 v0 v1 u2=>?_
 obtain⟨t,ht,et⟩:=ix v v0 v1
 refine⟨_,_,(u2.ot _ (by simp only[List.length_append,List.length_cons,List.length_nil];omega)).trans (get_set (get_set zE)),et,?_⟩
 exact q t _ (hb t ht) (u1.up2.trans ((Qe u1.st).trans u2.up2))
end
section
variable {μ μ1 μ2:Mem}{K:T->Mem->Prop}{Z:Xp}{x y z many:Int}{i p L:Nat}
noncomputable abbrev eS:Str:=""
structure Gl84(many:Int)(L:Nat)(t:Str):Prop where
 lw:Lw t
 ok:qd many L t=true
theorem Xk{t h:Str}{n:Int}(w:Wd many L)(g:GH h)(n0:0<=n)(n1:n<many)(e:cd t=jc [h,wd n L]):Gl84 many L t:=by
 have l2:=w.l2
 have l8:=g.l8
 obtain⟨lw,sp⟩:=Xl e (by simp) (zA ⟨g.free (by decide),g.free (by decide),by omega⟩ (all1 (uw (by omega)))) (by simp)
 refine⟨lw,?_⟩
 unfold qd
 rw[sp]
 show (zv h&&qc many L (wd n L))=true
 rw[g.hol,z0N w n0 n1]
 rfl
theorem JG{h:Str}{n:Int}(w:Wd many L)(g:GH h)(n0:0<=n)(n1:n<many):Gl84 many L (h++" "++wd n L):=Xk w g n0 n1 (by simp[zu,jc,c_b])
theorem c_z:cd ("z":Str)=[122]:=by decide +kernel
theorem z1f:cd ("z ":Str)=[122,32]:=by decide +kernel
theorem z1b(w:Wd many L)(m0:0<many):Gl84 many L ("z "++wd 0 L):=Xk (h:="z") w (Ve (by decide +kernel)) (Int.le_refl _) m0 (by simp[zu,jc,c_z,z1f])
theorem wC(w:Wd many L):Bl many L "":=zQ (ws:=[eS]) (by simp[jc]) (by simp) (all1 w_) (by simp) rfl
theorem xW{ts:List Str}(h:ts≠[])(hf:∀a∈ts,Lw a)(h1:ts≠[eS]):Txt.join NLs ts≠("":Str):=λe=>by
 have s:Txt.split (Txt.join NLs ts) NLs=ts:=by rw[ZR,wF h λa ha=>(hf a ha).fr]
 rw[e] at s
 have e2:Txt.split ("":Str) NLs=([eS]:List Str):=by decide +kernel
 rw[e2] at s
 exact h1 s.symm
theorem yu{ls:List Str}(s:Sz x y z)(w:Wd (x * y * z) L)(h:∀a∈ls,Gl84 (x * y * z) L a)(hl:ls.length<=12):Told x y z (.str (Txt.join NLs ls)) (-1):=by
 by_cases e:ls=[]
 ·subst e
  exact Q_
 ·refine wm s w e (λa ha=>(h a ha).lw) hl (xW e (λa ha=>(h a ha).lw) λe2=>?_) (.all λa ha=>(h a ha).ok)
  have:=(h "" (by rw[e2];simp)).ok
  rw[(wC w).no] at this
  cases this
theorem Vj{ls:List Str}(h:ls≠[]):Txt.join NLs ls++NLs=Txt.join NLs (ls++[eS]):=by
 rw[show Txt.join NLs ls=Str.join NLs ls from StrLaws.glued_eq_join _ _,show Txt.join NLs (ls++[eS])=Str.join NLs (ls++[eS]) from StrLaws.glued_eq_join _ _]
 refine wB ?_
 rw[ZR]
 induction ls with
 |nil=>exact absurd rfl h
 |cons a r ih=>
  by_cases e:r=[]
  ·subst e
   show _=cd (Str.join ⟨#[10]⟩ [a,eS])
   rw[join_cons (by simp),zu]
   show cd a++[10]=cd a++10::cd ""
   rw[c_]
  ·have:=ih e
   rw[List.cons_append,join_cons (by simp),←this,zu,zu,join_cons e]
   simp
theorem Jp{ls:List Str}(h:ls≠[]):NLs++Txt.join NLs ls=Txt.join NLs (eS::ls):=by
 rw[show Txt.join NLs ls=Str.join NLs ls from StrLaws.glued_eq_join _ _,show Txt.join NLs (eS::ls)=Str.join NLs (eS::ls) from StrLaws.glued_eq_join _ _]
 refine wB ?_
 rw[ZR,join_cons h,zu,c_]
 rfl
theorem yx{ls:List Str}(s:Sz x y z)(w:Wd (x * y * z) L)(hne:ls≠[])(h:∀a∈ls,Gl84 (x * y * z) L a)(hl:ls.length<=11):Told x y z (.str (Txt.join NLs ls++NLs)) ls.length:=by
 rw[Vj hne]
 refine wm s w (by simp) (λa ha=>?_) (by simp;omega) (xW (by simp) (λa ha=>?_) λe=>?_) (.bad ls.length "" (λi hi b hb=>?_) (by simp) (wC w).no)
 ·rcases List.mem_append.mp ha with ha|ha
  ·exact (h a ha).lw
  ·rw[List.mem_singleton.mp ha];exact (wC w).lw
 ·rcases List.mem_append.mp ha with ha|ha
  ·exact (h a ha).lw
  ·rw[List.mem_singleton.mp ha];exact (wC w).lw
 ·have:=congrArg List.length e
  simp at this
  exact hne this
 ·rw[List.getElem?_append_left hi] at hb
  exact (h b (List.mem_of_getElem? hb)).ok
theorem Zd{ls:List Str}(s:Sz x y z)(w:Wd (x * y * z) L)(hne:ls≠[])(h:∀a∈ls,Gl84 (x * y * z) L a)(hl:ls.length<=11):Told x y z (.str (NLs++Txt.join NLs ls)) 0:=by
 rw[Jp hne]
 refine wm s w (by simp) (zA (wC w).lw λa ha=>(h a ha).lw) (by simp;omega) (xW (by simp) (zA (wC w).lw λa ha=>(h a ha).lw) λe=>?_) (.bad 0 "" (λi hi=>absurd hi (by omega)) (by simp) (wC w).no)
 have:=congrArg List.length e
 simp at this
 exact hne this
theorem KR{ls:List Str}{n:Nat}{t:Str}(h:∀a∈ls,Gl84 many L a)(hn:n<ls.length)(b:Bl many L t):Fst many L (ls.set n t) n:=by
 refine .bad n t (λi hi c hc=>?_) (by simp[hn]) b.no
 rw[List.getElem?_set_ne (by omega)] at hc
 exact (h c (List.mem_of_getElem? hc)).ok
theorem JL{ls:List Str}{n m:Nat}{t u:Str}(h:∀a∈ls,Gl84 many L a)(hn:n<ls.length)(hm:m<ls.length)(b:Bl many L t)(c:Bl many L u):Fst many L ((ls.set n t).set m u) (if m<n then (m:Int) else n):=by
 have ok:∀i,i<n->i<m->∀c,((ls.set n t).set m u)[i]?=some c->qd many L c=true:=λi h1 h2 c hc=>by
  rw[List.getElem?_set_ne (by omega),List.getElem?_set_ne (by omega)] at hc
  exact (h c (List.mem_of_getElem? hc)).ok
 by_cases e:m<n
 ·rw[if_pos e]
  exact .bad m u (λi hi=>ok i (by omega) hi) (by simp[hm]) c.no
 ·rw[if_neg e]
  by_cases e2:m=n
  ·subst e2
   exact .bad m u (λi hi=>ok i hi hi) (by simp[hm]) c.no
  ·exact .bad n t (λi hi=>ok i hi (by omega)) (by rw[List.getElem?_set_ne e2];simp[hn]) b.no
theorem V6{ls:List Str}{n:Nat}{t:Str}(h:∀a∈ls,Lw a)(b:Bl many L t):∀a∈ls.set n t,Lw a:=λa ha=>by
 rcases List.mem_or_eq_of_mem_set ha with h1|h1
 ·exact h a h1
 ·rw[h1];exact b.lw
end
section
variable {μ μ1 μ2:Mem}{K:T->Mem->Prop}{Z:Xp}{x y z:Int}{i p b L:Nat}{t0:T}{o4 o7 o9 o10 o11 o12:Option T}
@[reducible] noncomputable def Zb:List Ds:=[(zf 5 (z9 qB [(eV 4)])),(zf 6 (za .Add (eV 3) (qy [(za .Add (eC (.str "z ")) (z9 zX [(eV 1),(eC (.int 0))]))]))),(zf 7 (eB1 WQ (eV 6))),(zf 8 (z9 zk [(eV 5),(eB1 wO (eV 7))])),(zf 9 (z9 zk [(eV 5),(eB1 wO (eV 7))])),(ur (eV 7) (eV 8) (z9 qK [(eV 5),(eV 1)])),(sIf (tE (zI .Eq (z9 zk [(eV 5),(eC (.int 2))]) (eC (.int 0)))) [(ur (eV 7) (eV 9) (z9 qK [(eV 5),(eV 1)])),(zf 8 (eB2 uf (eV 8) (eV 9)))] []),(zf 10 (vU (eC (.str "\n")) (eV 7))),(uy (.one 11) (uU (za .Mult (eC (.int 2)) (eB1 yq (zI .NotEq (eV 10) (eC (.str "")))))) [(sIf (tE (zI .NotEq (z9 zr [(eV 2),(eV 10)]) (eV 8))) [(zx (eC (.bl false)))] [])]),(zf 10 (vU (eC (.str "\n")) (eV 6))),(sIf (tOr (tE (zI .NotEq (z9 zr [(eV 2),(za .Add (eV 10) (eC (.str "\n")))]) (eB1 wO (eV 6)))) (tE (zI .NotEq (z9 zr [(eV 2),(za .Add (eC (.str "\n")) (eV 10))]) (eC (.int 0))))) [(zx (eC (.bl false)))] []),(zf 12 (eIx (qy [(eC .non),(eC (.int 5)),(eC (.bl true)),(qy [(eV 10)]),(Vf [(eV 10)]),ZG]) (z9 zk [(eV 5),(eC (.int 6))]))),(sIf (tOr (tE (zI .NotEq (z9 zr [(eV 2),(eV 12)]) (eC (.int 0)))) (tE (zI .NotEq (z9 zr [(eV 2),(eV 10)]) (kj (eC (.int 1)))))) [(zx (eC (.bl false)))] [])]
theorem qr{j:Nat}{m:MO}{o:Mem}(h:μ[j]?=some m):(μ++o)[j]?=some m:=by
 rw[List.getElem?_append_left (List.getElem?_eq_some_iff.mp h).1];exact h
theorem strs_map(ls:List Str):strsOf (ls.map T.str)=some ls:=wW ls
theorem z0y{st:Str}{d:Int}(hd:0<=d/\d<6):∃t,wJ [T.non,.int 5,.bl true,.lst [.str st],.tup [.str st],.dic []] d=some t/\(match t with|.str _=>false|.mut _=>false|.clo _ _=>false|.exc _ _=>false|.obj _ _=>false|_=>true)=true:=by
 have:d=0\/d=1\/d=2\/d=3\/d=4\/d=5:=by omega
 rcases this with rfl|rfl|rfl|rfl|rfl|rfl
 all_goals exact⟨_,rfl,rfl⟩
theorem VT{E:En}{sp gs:List Str}{n:Int}(s:Sz x y z)(w:Wd (x * y * z) L)(hs:St μ i)(hp:μ[p]?=some (.lst (sp.map T.str)))(hb:μ[b]?=some (.lst (gs.dropLast.map T.str)))(ib:b≠i)
  (hsp:sp≠[]) (hlw:∀a∈sp,Lw a) (hl:sp.length<=9) (hf:Fst (x * y * z) L sp n) (hgn:gs≠[]) (hg:∀a∈gs,Gl84 (x * y * z) L a) (hgl:gs.length<=9)
  (q:∀o10 o11 o12 μ',μ'[b]?=some (.lst (gs.dropLast.map T.str))->E.nx [some t0,some (.lst [.int x,.int y,.int z]),some (shp x y z),some (.mut b),o4,some (.mut i),some (.lst (gs.map T.str)),some (.mut p),some (.int n),o9,o10,o11,o12] μ') :
  zY (Zb.drop 7) [some t0,some (.lst [.int x,.int y,.int z]),some (shp x y z),some (.mut b),o4,some (.mut i),some (.lst (gs.map T.str)),some (.mut p),some (.int n),o9,o10,o11,o12] μ E:=by
 have hlw2:∀a∈gs,Lw a:=λa ha=>(hg a ha).lw
 refine⟨_,hp,_,strs_map _,jW hlw (by omega),?_⟩
 refine⟨.inl ⟨by decide,by decide⟩,?_⟩
 have cc:0<=(2 * (if (!decide (Txt.join NLs sp=("":Str)))=true then 1 else 0):Int)/\(2 * (if (!decide (Txt.join NLs sp=("":Str)))=true then 1 else 0):Int)<=2/\(0<(2 * (if (!decide (Txt.join NLs sp=("":Str)))=true then 1 else 0):Int)->Txt.join NLs sp≠("":Str)):=by
  by_cases e:Txt.join NLs sp=("":Str)
  ·rw[decide_eq_true e]
   exact⟨by decide,by decide,λh=>absurd h (by decide)⟩
  ·rw[decide_eq_false e]
   exact⟨by decide,by decide,λ_=>e⟩
 refine⟨⟨Int.le_trans (by decide) cc.1,Int.lt_of_le_of_lt cc.2.1 (by decide)⟩,?_⟩
 refine qT (λnn τ μ'=>∃o11 o,τ=[some t0,some (.lst [.int x,.int y,.int z]),some (shp x y z),some (.mut b),o4,some (.mut i),some (.lst (gs.map T.str)),some (.mut p),some (.int n),o9,some (.str (Txt.join NLs sp)),o11,o12]/\μ'=μ++o) ⟨_,[],rfl,by simp⟩ ?_ ?_
 ·rintro nn t τ μ' hx ⟨p11,o,rfl,rfl⟩ N hN
  obtain⟨rfl,hn⟩:=wR hx
  have ne:=cc.2.2 (Int.lt_of_le_of_lt (Int.natCast_nonneg nn) hn)
  refine⟨_,rfl,?_⟩
  refine wm s w hsp hlw (by omega) ne hf _ _ _ λo2=>?_
  refine w9 rfl ?_
  exact hN _ _ ⟨_,o++o2,rfl,by rw[List.append_assoc]⟩
 rintro τ μ' ⟨p11,o,rfl,rfl⟩
 refine⟨_,strs_map _,jW hlw2 (by omega),?_⟩
 have jl:=ub hlw2 (by omega)
 have rm:(Txt.join NLs gs).length+1<=room:=Nat.le_trans (Nat.succ_le_succ jl) (by decide)
 have n1:NLs.length=1:=by decide
 refine⟨rm,?_⟩
 refine yx s w hgn hg (by omega) _ _ _ λo2=>?_
 refine w9 (by rw[List.length_map]) ?_
 refine⟨by show NLs.length+_<=room;rw[n1,Nat.add_comm];exact rm,?_⟩
 refine Zd s w hgn hg (by omega) _ _ _ λo3=>?_
 refine zq (i:=i) (Up2.more (Up2.more (Up2.more hs o).st o2).st o3).st (by decide) (by decide) λd μ2 d0 d1 u2=>?_
 obtain⟨ot,eo,ho⟩:=z0y (st:=Txt.join NLs gs) ⟨d0,d1⟩
 refine⟨_,eo,?_⟩
 refine J3 ho _ _ _ λo4=>?_
 refine yu s w hg (by omega) _ _ _ λo5=>?_
 refine q _ _ _ _ (qr (qr ?_))
 rw[u2.ot b ib]
 exact qr (qr (qr hb))
end
end NH.P
section
namespace NH.P
open PySem L2 NH PyProof.Rows
variable {μ μ1 μ2:Mem}{K:T->Mem->Prop}{Z:Xp}{x y z:Int}{i p b L:Nat}{t0:T}{o4 o5 o6 o7 o8 o9 o10 o11 o12:Option T}
theorem YK{E:En}{ls:List Str}{c:Int}(s:Sz x y z)(w:Wd (x * y * z) L)(hb:μ[b]?=some (.lst (ls.map T.str)))(hg:∀a∈ls,Gl84 (x * y * z) L a)(hl:ls.length<=8)
  (q:∀o5 o6 o7 o8 o9 o10 o11 o12 μ',μ'[b]?=some (.lst (ls.map T.str))->E.nx [some t0,some (.lst [.int x,.int y,.int z]),some (shp x y z),some (.mut b),some (.int c),o5,o6,o7,o8,o9,o10,o11,o12] μ') :
  zY Zb [some t0,some (.lst [.int x,.int y,.int z]),some (shp x y z),some (.mut b),some (.int c),o5,o6,o7,o8,o9,o10,o11,o12] μ E:=by
 have l2:=w.l2
 have pos:=s.pos
 have bl:b<μ.length:=(List.getElem?_eq_some_iff.mp hb).1
 refine wQ λa1 a2=>?_
 have hb1:=q_ (x:=.lst [.int a1,.int a2,.int 0]) hb
 refine qL s.mg w ?_
 have lz:("z ":Str).length=2:=by decide
 refine⟨by rw[zK];show ("z ":Str).length+L<=room;rw[lz];unfold room;omega,?_⟩
 refine⟨_,hb1,by rw[List.length_map];show ls.length+1<=room;unfold room;omega,?_⟩
 generalize hgs:ls++["z "++wd 0 L]=gs
 have em:ls.map T.str++[T.str ("z "++wd 0 L)]=gs.map T.str:=by rw[←hgs];simp
 have gl:gs.length=ls.length+1:=by rw[←hgs];simp
 have gd:gs.dropLast=ls:=by rw[←hgs];simp
 have gg:∀a∈gs,Gl84 (x * y * z) L a:=λa ha=>by
  rw[←hgs] at ha
  rcases List.mem_append.mp ha with ha|ha
  ·exact hg a ha
  ·rw[List.mem_singleton.mp ha];exact z1b w pos
 have gn:gs≠[]:=λe=>by rw[e] at gl;simp at gl
 show zY (Zb.drop 2) [some t0,some (.lst [.int x,.int y,.int z]),some (shp x y z),some (.mut b),some (.int c),some (.mut μ.length),some (.lst (ls.map T.str++[T.str ("z "++wd 0 L)])),o7,o8,o9,o10,o11,o12] _ E
 rw[em]
 generalize hμ:μ++[MO.lst [.int a1,.int a2,.int 0]]=μ0
 have st:St μ0 μ.length:=by rw[←hμ];exact⟨_,_,_,zE⟩
 rw[hμ] at hb1
 have l0:μ0.length=μ.length+1:=by rw[←hμ];simp
 have hp0:(μ0++[MO.lst (gs.map T.str)])[μ0.length]?=some (.lst (gs.map T.str)):=zE
 refine⟨_,hp0,?_⟩
 refine zq (i:=μ.length) (Up2.more st _).st (by rw[List.length_map];omega) (by rw[List.length_map];omega) λn μ3 n0 n1 u3=>?_
 have hp3:=(u3.ot μ0.length (by omega)).trans hp0
 refine⟨_,hp3,?_⟩
 refine zq u3.st (by rw[List.length_map];omega) (by rw[List.length_map];omega) λm μ4 m0 m1 u4=>?_
 have hp4:=(u4.ot μ0.length (by omega)).trans hp3
 have hb4:=(u4.ot b (by omega)).trans ((u3.ot b (by omega)).trans (q_ (x:=MO.lst (gs.map T.str)) hb1))
 rw[List.length_map] at n1 m1
 obtain⟨n,rfl⟩:=Int.eq_ofNat_of_zero_le n0
 obtain⟨m,rfl⟩:=Int.eq_ofNat_of_zero_le m0
 refine Q6 u4.st s w λt μ5 bt u5=>?_
 have hp5:=u5.ot _ _ (by omega) hp4
 have hb5:=u5.ot _ _ (by omega) hb4
 refine⟨_,hp5,⟨n0,by rw[List.length_map];exact n1,by omega⟩,?_⟩
 have nl:n<gs.length:=by omega
 have ml:m<gs.length:=by omega
 have hp6:(μ5.set μ0.length (.lst ((gs.map T.str).set (n:Int).toNat (.str t))))[μ0.length]?=some (.lst ((gs.set n t).map T.str)):=by
  rw[get_set hp5,List.map_set];rfl
 have hb6:(μ5.set μ0.length (.lst ((gs.map T.str).set (n:Int).toNat (.str t))))[b]?=some (.lst (ls.map T.str)):=by
  rw[List.getElem?_set_ne (by omega)];exact hb5
 have st6:St (μ5.set μ0.length (.lst ((gs.map T.str).set (n:Int).toNat (.str t)))) μ.length:=by
  obtain⟨a,b,c,h⟩:=u5.st
  exact⟨a,b,c,by rw[List.getElem?_set_ne (by omega)];exact h⟩
 have glw:∀a∈gs,Lw a:=λa ha=>(gg a ha).lw
 have lw1:=V6 (n:=n) glw bt
 have le1:(gs.set n t).length=gs.length:=by simp
 refine zq st6 (by decide) (by decide) λv μ7 v0 v1 u7=>?_
 have hp7:=(u7.ot μ0.length (by omega)).trans hp6
 have hb7:=(u7.ot b (by omega)).trans hb6
 refine zT (λe=>?_) (λe=>?_)
 ·refine Q6 u7.st s w λt2 μ8 bt2 u8=>?_
  have hp8:=u8.ot _ _ (by omega) hp7
  have hb8:=u8.ot _ _ (by omega) hb7
  refine⟨_,hp8,⟨m0,by rw[List.length_map,le1];exact m1,by omega⟩,?_⟩
  have hp9:(μ8.set μ0.length (.lst (((gs.set n t).map T.str).set (m:Int).toNat (.str t2))))[μ0.length]?=some (.lst (((gs.set n t).set m t2).map T.str)):=by
   rw[get_set hp8,←List.map_set];rfl
  have hb9:(μ8.set μ0.length (.lst (((gs.set n t).map T.str).set (m:Int).toNat (.str t2))))[b]?=some (.lst (ls.map T.str)):=by
   rw[List.getElem?_set_ne (by omega)];exact hb8
  have st9:St (μ8.set μ0.length (.lst (((gs.set n t).map T.str).set (m:Int).toNat (.str t2)))) μ.length:=by
   obtain⟨a,b,c,h⟩:=u8.st
   exact⟨a,b,c,by rw[List.getElem?_set_ne (by omega)];exact h⟩
  have f2:=JL gg nl ml bt bt2
  have ei:(if m<n then (m:Int) else n)=(if (m:Int)<(n:Int) then (m:Int) else n):=by
   by_cases c:m<n
   ·rw[if_pos c,if_pos (by omega)]
   ·rw[if_neg c,if_neg (by omega)]
  rw[ei] at f2
  refine VT (gs:=gs) (sp:=(gs.set n t).set m t2) s w st9 hp9 (by rw[gd];exact hb9) (by omega) (λz=>?_) (V6 lw1 bt2) (by simp;omega) f2 gn gg (by omega) λo10 o11 o12 μ' h=>q _ _ _ _ _ _ _ _ _ (by rw[gd] at h;exact h)
  have:=congrArg List.length z
  simp at this
  exact gn this
 ·refine VT (gs:=gs) (sp:=gs.set n t) s w u7.st hp7 (by rw[gd];exact hb7) (by omega) (λz=>?_) lw1 (by simp;omega) (KR gg nl bt) gn gg (by omega) λo10 o11 o12 μ' h=>q _ _ _ _ _ _ _ _ _ (by rw[gd] at h;exact h)
  have:=congrArg List.length z
  simp at this
  exact gn this
theorem Kv{ns:List Int}{c0:Int}{j:Nat}{t:T}{lo hi:Option Int}(h:([T.int 0,T.int c0]++j2 (ns.map T.int) lo hi)[j]?=some t):∃c,t=.int c:=by
 rcases List.mem_append.mp (List.mem_of_getElem? h) with h|h
 ·rcases List.mem_cons.mp h with h|h
  ·exact⟨0,h⟩
  ·exact⟨c0,List.mem_singleton.mp h⟩
 ·obtain⟨n,_,e⟩:=List.mem_map.mp (uj h)
  exact⟨n,e.symm⟩
theorem Kr:Tells vf:=by
 intro ns hns
 unfold vf
 refine⟨rfl,?_⟩
 refine vj (by decide) λc0=>?_
 refine wQ λa b=>?_
 refine Zk ⟨_,_,_,zE⟩ λx y z μ2 s u2=>?_
 obtain⟨L,w⟩:=Qd (Int.le_trans s.le (show (1000000000000000000000000000000000000:Int)<=32 ^ 24 by decide))
 have hL:=w.l2
 have pos:=s.pos
 refine⟨_,rfl,_,rfl,_,rfl,?_⟩
 refine⟨rfl,?_⟩
 refine kr s.x1 s.y1 s.z1 ?_
 refine⟨rfl,_,rfl,rfl,?_⟩
 have hcl:(j2 (ns.map T.int) (some 1) (some 9)).length<=8:=by
  unfold j2 VA
  simp only[List.length_take,List.length_drop]
  simp
  omega
 have lb:(" ":Str).length=1:=by decide
 refine qT (λnn τ μ'=>∃(ls:List Str) (o4 o5:Option T),τ=[some (.lst (ns.map T.int)),some (.lst [.int x,.int y,.int z]),some (shp x y z),some (.mut μ2.length),o4,o5,none,none,none,none,none,none,none]/\ls.length=nn/\(∀a∈ls,Gl84 (x * y * z) L a)/\μ'[μ2.length]?=some (.lst (ls.map T.str))) ⟨[],_,_,rfl,rfl,by simp,zE⟩ ?_ ?_
 ·rintro nn t τ μ' hx ⟨ls,o4,o5,rfl,hl,hg,hb⟩ N hN
  have hnn:nn<8:=by have:=(List.getElem?_eq_some_iff.mp hx).1;omega
  obtain⟨n,_,e⟩:=List.mem_map.mp (uj (List.mem_of_getElem? hx))
  subst e
  have bl:μ2.length<μ'.length:=(List.getElem?_eq_some_iff.mp hb).1
  refine⟨_,rfl,?_⟩
  refine wQ λa b=>?_
  have st:St (μ'++[.lst [.int a,.int b,.int 0]]) μ'.length:=⟨_,_,_,zE⟩
  have hb1:=q_ (x:=.lst [.int a,.int b,.int 0]) hb
  refine⟨⟨_,hb1⟩,?_⟩
  refine QI st λh μ3 g u3=>?_
  have l8:=g.l8
  refine⟨by show h.length+(" ":Str).length<=room;rw[lb];unfold room;omega,?_⟩
  refine kH u3.st s λv μ4 v0 v1 u4=>?_
  refine qL s.mg w ?_
  refine⟨by rw[Str.length_append,zK,lb];unfold room;omega,?_⟩
  have hb4:=((u3.trans u4).ot μ2.length (by omega)).trans hb1
  refine⟨_,hb4,by rw[List.length_map];unfold room;omega,?_⟩
  refine hN _ _ ⟨ls++[h++" "++wd v L],_,_,rfl,by simp[hl],λa ha=>?_,?_⟩
  ·rcases List.mem_append.mp ha with ha|ha
   ·exact hg a ha
   ·rw[List.mem_singleton.mp ha];exact JG w g v0 v1
  ·rw[get_set hb4,List.map_append];rfl
 rintro τ μ' ⟨ls,o4,o5,rfl,hl,hg,hb⟩
 have hl8:ls.length<=8:=by omega
 refine⟨_,hb,_,strs_map _,jW (λa ha=>(hg a ha).lw) (by omega),?_⟩
 refine yu s w hg (by omega) _ _ _ λo=>?_
 refine vj (by decide) λc1=>?_
 refine⟨by
  have:(j2 (ns.map T.int) (some 9) (some 19)).length<=63:=by
   unfold j2
   rw[List.length_take,List.length_drop,List.length_map]
   omega
  show 2+(j2 (ns.map T.int) (some 9) (some 19)).length<=room
  unfold room;omega,?_⟩
 refine qT (λnn τ μ'=>∃(o4 o5 o6 o7 o8 o9 o10 o11 o12:Option T),τ=[some (.lst (ns.map T.int)),some (.lst [.int x,.int y,.int z]),some (shp x y z),some (.mut μ2.length),o4,o5,o6,o7,o8,o9,o10,o11,o12]/\μ'[μ2.length]?=some (.lst (ls.map T.str))) ⟨_,_,_,_,_,_,_,_,_,rfl,qr hb⟩ ?_ ?_
 ·rintro nn t τ μ3 hx ⟨o4,o5,o6,o7,o8,o9,o10,o11,o12,rfl,hb3⟩ N hN
  obtain⟨cell,rfl⟩:=Kv hx
  refine⟨_,rfl,?_⟩
  exact YK s w hb3 hg hl8 λp5 p6 p7 p8 p9 p10 p11 p12 μ4 hb4=>hN _ _ ⟨_,_,_,_,_,_,_,_,_,rfl,hb4⟩
 ·rintro τ μ3 ⟨o4,o5,o6,o7,o8,o9,o10,o11,o12,rfl,hb3⟩
  rfl
end NH.P
namespace NH.K84
open PySem L2 NH NH.P
theorem tells:Tells vf:=Kr
end NH.K84
end
namespace NH.K84
open PySem PySem.Spec PyProof.Rows L2 NH NH.P PySem.W
theorem z0_{P:List Value->Prop}(h:∀a0,P [a0]):∀us:List Value,us.length=1->P us:=PL.all (n:=1) h
theorem z1j{P:List Value->Prop}(h:∀a0 a1,P [a0,a1]):∀us:List Value,us.length=2->P us:=PL.all (n:=2) h
theorem all_mk {l:OpenLaw} {w:World} {K:Frag} {h:Heap} {mg:Str->Option Value} {fa C0 C1 C2 C3 C4 C5 C6 C7 f0 N0 CC4 f33:Addr} {od0 an0 dd0 od33 an33:Option Addr} {sl0 sl33:Array (Option Value)} {oc0 kV0 dc0 pm0 cd0 ct0 oc33 kV33 dc33 pm33 cd33 ct33:Value} {nm0 qn0:Str} {bs0 sb0:List Value} {hd0 ab0:Bool} {sn0:List Str} {co0:Option Bool} {ka0 kb0 kc0 kd0 ke0:Option Value} {tk7 tk8 tk10 tk11 tk17 tk18:Tok} (X:K.In h) (G:h.Ns mainGlobals mg) (hfa:mg "law"=some (.ref fa))
  (e0:nsIn K mainGlobals "HouseError"=some (some (.ref C0)))
  (e1:nsIn K mainGlobals "NoShape"=some (some (.ref C1)))
  (e2:nsIn K mainGlobals "NoName"=some (some (.ref C2)))
  (e3:nsIn K mainGlobals "NoText"=some (some (.ref C3)))
  (e4:nsIn K mainGlobals "NoClock"=some (some (.ref C4)))
  (e5:nsIn K mainGlobals "NoTime"=some (some (.ref C5)))
  (e6:nsIn K mainGlobals "NoHolder"=some (some (.ref C6)))
  (e7:nsIn K mainGlobals "NoRow"=some (some (.ref C7)))
  (xa0:K.lookup C3=some (excClassObj nm0 qn0 C3 N0 bs0 (.ref C0::zz) hd0 sn0 sb0 ab0 co0 dd0 ka0 kb0 kc0 kd0 ke0 "ValueError.__new__"))
  (xb0:nsOkIn K N0=true)
  (xc0:nsIn K N0 "__init__"=some (some (.ref f0)))
  (xd0:typeIn K (.ref f0)=some (.type "function"))
  (xe0:findIn K (.ref C3) "__setattr__"=some (some (.builtin "object.__setattr__")))
  (xf0:findIn K (.ref C3) "line"=some none)
  (xg0:hasDictIn K C3=true)
  (xh0:keepIn K (.ref C3)=true)
  (ha0:specialIn K (.ref C0) "__getattribute__"=some (some (.builtin "type.__getattribute__")))
  (ha1:readsIn K C0 (.type "type")=true)
  (ha2:findCls K (.ref C0) (.type "type") "__init__"=some (.val (.builtin "ValueError.__init__")))
  (l0:K.lookup f0=some ⟨oc0,od0,.func (fnOf "__init__" "NoText.__init__" (zU zV) (zb zV) (zB zV) .none kV0 dc0 pm0 an0 cd0 ct0),sl0⟩)
  (c0:codeIn K cd0 "NoText.__init__"=true)
  (k0:keepIn K (.ref f0)=true)
  (p1:zS K "is_whole" jz)
  (p2:zS K "is_size" xq)
  (p3:zS K "is_below" j_)
  (p4:Uh K CC4 "Shape" "Shape.__init__" vb)
  (p5:zS K "names_in" jP)
  (p6:zS K "is_name" kJ)
  (v7:nsIn K mainGlobals "LETTERS"=some (some (.str "abcdefghijklmnopqrstuvwxyz" tk7)))
  (v8:nsIn K mainGlobals "LONGEST_HOLDER"=some (some (.int 8 tk8)))
  (p9:zS K "is_holder" vY)
  (v10:nsIn K mainGlobals "SIGNS"=some (some (.str "0123456789abcdefghjkmnpqrstvwxyz" tk10)))
  (v11:nsIn K mainGlobals "BASE"=some (some (.int 32 tk11)))
  (p12:zS K "length_for" wX)
  (p13:zS K "is_word" xm)
  (p14:zS K "number_of" vW)
  (p15:zS K "width" Qj)
  (p16:zS K "read_name" vT)
  (v17:nsIn K mainGlobals "BLANK"=some (some (.str " " tk17)))
  (v18:nsIn K mainGlobals "BETWEEN_LINES"=some (some (.str "\n" tk18)))
  (p19:zS K "check_text" vi)
  (p20:zS K "read_entry" qR)
  (p21:zS K "read_book" wq)
  (p22:zS K "_law_cell_at" vS)
  (p23:zS K "_law_begin" kL)
  (p24:zS K "_law_next" yI)
  (p25:zS K "_law_holder" jn)
  (p26:zS K "_law_big" Q1)
  (p27:zS K "_law_shape" xy)
  (p28:zS K "_law_name" yQ)
  (p29:zS K "_law_width" kD)
  (p30:zS K "_law_text" ki)
  (p31:zS K "_law_bad" kZ)
  (p32:zS K "_law_told" js)
  (a33:nsIn K mainGlobals "law"=some (some (.ref f33)))
  (l33:K.lookup f33=some ⟨oc33,od33,.func (fnOf "law" "law" (zU zL) (zb zL) (zB zL) .none kV33 dc33 pm33 an33 cd33 ct33),sl33⟩)
  (c33:codeIn K cd33 "law"=true)
  (k33:keepIn K (.ref f33)=true)
  (x0:excIn K C0 zz "ValueError.__new__"=true)
  (x1:excIn K C1 zz "ValueError.__new__"=true)
  (x2:excIn K C2 zz "ValueError.__new__"=true)
  (x4:excIn K C4 zz "ValueError.__new__"=true)
  (x5:excIn K C5 zz "ValueError.__new__"=true)
  (x6:excIn K C6 zz "ValueError.__new__"=true)
  (x7:excIn K C7 zz "ValueError.__new__"=true)
  (zl:Wx K=true)
  (zc:chk K ⟨[(10,C0),(12,C1),(13,C2),(14,C3),(15,C4),(16,C5),(17,C6),(25,C7)],[(40,CC4)]⟩ cls fld=true)
  (zg:Wr K ⟨[(10,C0),(12,C1),(13,C2),(14,C3),(15,C4),(16,C5),(17,C6),(25,C7)],[(40,CC4)]⟩ ["ValueError","all","bool","int","isinstance","len","list","min","range","str"] [("HouseError",10),("NoShape",12),("NoName",13),("NoClock",15),("NoTime",16),("NoHolder",17),("NoRow",25)] [("NoText",14,28)]=true) :
  ∃fd:FuncData,(∀(s:Shared) (v:Value),BindsTo s fd ⟨[v],[]⟩ [("_law_script",v)])/\∀base:Heap,K.In base->base.Ns mainGlobals mg->FnOk l.prog w K mg base (CX1 l.prog w) 30 fa fd ["_law_script"] (Qp K):=by
 have e:=hfa.symm.trans (mg_of X G a33)
 cases e
 have F0:=xY (st:=zV) l0 c0 k0
 have b0:=F0.binds (ps:=["self","line"]) λ_ _ _ _ _ _=>z1j λ_ _=>rfl
 have F33:=xY (st:=zL) l33 c33 k33
 have b33:=F33.binds (ps:=["_law_script"]) λ_ _ _ _ _ _=>z0_ λ_=>rfl
 refine⟨fnOf "law" "law" (zU zL) (zb zL) (zB zL) .none kV33 dc33 pm33 an33 cd33 ct33,λs v=>.of_eq rfl,λbase kb nb=>?_⟩
 let B:=@GsB l w K mg base
 have Z:Pk RU K mg base _ _ _:=⟨X2,kb,nb,zc⟩
 have g0:GsOk l.prog w K mg base ⟨[(10,C0),(12,C1),(13,C2),(14,C3),(15,C4),(16,C5),(17,C6),(25,C7)],[(40,CC4)]⟩ (λ_ _ _ _=>False) 0 gs0:=uN kb nb zg ⟨⟨C0,rfl,x0⟩,⟨C1,rfl,x1⟩,⟨C2,rfl,x2⟩,⟨C4,rfl,x4⟩,⟨C5,rfl,x5⟩,⟨C6,rfl,x6⟩,⟨C7,rfl,x7⟩,trivial⟩
 have XI0:XIn K C3 C0 f0 "line":=⟨⟨N0,nm0,qn0,bs0,hd0,sn0,sb0,ab0,co0,dd0,ka0,kb0,kc0,kd0,ke0,xa0,xb0,xc0⟩,x0,xd0,xe0,xf0,xg0,xh0⟩
 have W0:FnOk l.prog w K mg base (CX1 l.prog w) 1 f0 _ ["self","line"] (spI C3 "line")/\jw l.prog w K mg base 1 f0 _ ["self","line"] (spI C3 "line"):=XI XI0 ⟨mg_of kb nb e0,ha0,ha1,ha2⟩ l0 c0 (by first|exact⟨_,_,_,_,_,_,_,_,_,_,_,rfl,rfl,.inl ⟨_,_,_,_,_,_,_,_,rfl,by decide,by decide⟩⟩|exact⟨_,_,_,_,_,_,_,_,_,_,_,rfl,rfl,.inr ⟨_,_,_,_,_,rfl,by decide⟩⟩) rfl
 have g1:B 2 gs1:=GsOk.add (g0.mono (by decide)) ⟨C3,C0,f0,_,_,1,rfl,mg_of kb nb e3,rfl,XI0,b0,by decide,W0.1,W0.2⟩ rfl
 have g2:B 2 gs2:=GsOk.add g1 ⟨C3,C0,f0,_,_,1,rfl,mg_of kb nb e3,rfl,XI0,b0,by decide,W0.1,W0.2⟩ rfl
 have g3:B 3 gs3:=Z.fn (ps:=["thing"]) p1 g2 uP rfl rfl (λ_ _ _ _ _ _ _=>rfl) rfl
 have g4:B 4 gs4:=Z.fn (ps:=["thing"]) p2 g3 QE rfl rfl (λ_ _ _ _ _ _ _=>rfl) rfl
 have g5:B 5 gs5:=Z.fn (ps:=["thing","bound"]) p3 g4 uX rfl rfl (λ_ _ _ _ _ _ _ _=>rfl) rfl
 have g6:B 7 gs6:=Z.cl (ps:=["self","moments","houses","counts"]) p4 g5 xZ rfl rfl rfl (λ_ _ _ _ _ _ _ _ _ _=>rfl) rfl
 have g7:B 8 gs7:=Z.fn (ps:=["shape"]) p5 g6 Zf rfl rfl (λ_ _ _ _ _ _ _=>rfl) rfl
 have g8:B 9 gs8:=Z.fn (ps:=["shape","thing"]) p6 g7 W5 rfl rfl (λ_ _ _ _ _ _ _ _=>rfl) rfl
 have g9:B 9 gs9:=GsOk.add g8 ⟨_,(.str "abcdefghijklmnopqrstuvwxyz"),mg_of kb nb v7,⟨_,rfl⟩,λ_ _ _=>rfl⟩ rfl
 have g10:B 9 Yy:=GsOk.add g9 ⟨_,(.int 8),mg_of kb nb v8,⟨_,rfl⟩,λ_ _ _=>rfl⟩ rfl
 have g11:B 10 z0S:=Z.fn (ps:=["thing"]) p9 g10 ua rfl rfl (λ_ _ _ _ _ _ _=>rfl) rfl
 have g12:B 10 z0H:=GsOk.add g11 ⟨_,(.str "0123456789abcdefghjkmnpqrstvwxyz"),mg_of kb nb v10,⟨_,rfl⟩,λ_ _ _=>rfl⟩ rfl
 have g13:B 10 XH:=GsOk.add g12 ⟨_,(.int 32),mg_of kb nb v11,⟨_,rfl⟩,λ_ _ _=>rfl⟩ rfl
 have g14:B 11 Ur:=Z.fn (ps:=["many"]) p12 g13 y9 rfl rfl (λ_ _ _ _ _ _ _=>rfl) rfl
 have g15:B 12 Yt:=Z.fn (ps:=["thing","length"]) p13 g14 QO rfl rfl (λ_ _ _ _ _ _ _ _=>rfl) rfl
 have g16:B 13 XQ:=Z.fn (ps:=["word"]) p14 g15 yR rfl rfl (λ_ _ _ _ _ _ _=>rfl) rfl
 have g17:B 14 XJ:=Z.fn (ps:=["shape"]) p15 g16 KH rfl rfl (λ_ _ _ _ _ _ _=>rfl) rfl
 have g18:B 15 z01:=Z.fn (ps:=["shape","text"]) p16 g17 yo rfl rfl (λ_ _ _ _ _ _ _ _=>rfl) rfl
 have g19:B 15 z0R:=GsOk.add g18 ⟨_,(.str " "),mg_of kb nb v17,⟨_,rfl⟩,λ_ _ _=>rfl⟩ rfl
 have g20:B 15 UC:=GsOk.add g19 ⟨_,(.str "\n"),mg_of kb nb v18,⟨_,rfl⟩,λ_ _ _=>rfl⟩ rfl
 have g21:B 16 XG:=Z.fn (ps:=["thing"]) p19 g20 yg rfl rfl (λ_ _ _ _ _ _ _=>rfl) rfl
 have g22:B 17 Yl:=Z.fn (ps:=["shape","text","line"]) p20 g21 jI rfl rfl (λ_ _ _ _ _ _ _ _ _=>rfl) rfl
 have g23:B 18 XN:=Z.fn (ps:=["shape","text"]) p21 g22 km rfl rfl (λ_ _ _ _ _ _ _ _=>rfl) rfl
 have g24:B 19 Yv:=Z.fn (ps:=["_law_script","_law_k"]) p22 g23 yy rfl rfl (λ_ _ _ _ _ _ _ _=>rfl) rfl
 have g25:B 20 Yh:=Z.fn (ps:=["_law_cell"]) p23 g24 QS rfl rfl (λ_ _ _ _ _ _ _=>rfl) rfl
 have g26:B 21 Yg:=Z.fn (ps:=["_law_state","_law_base"]) p24 g25 VE rfl rfl (λ_ _ _ _ _ _ _ _=>rfl) rfl
 have g27:B 22 YE:=Z.fn (ps:=["_law_state"]) p25 g26 Zc rfl rfl (λ_ _ _ _ _ _ _=>rfl) rfl
 have g28:B 23 Uy:=Z.fn (ps:=["_law_state"]) p26 g27 Ki rfl rfl (λ_ _ _ _ _ _ _=>rfl) rfl
 have g29:B 24 Xx:=Z.fn (ps:=["_law_state"]) p27 g28 QW rfl rfl (λ_ _ _ _ _ _ _=>rfl) rfl
 have g30:B 25 YQ:=Z.fn (ps:=["_law_state","_law_sizes"]) p28 g29 WR rfl rfl (λ_ _ _ _ _ _ _ _=>rfl) rfl
 have g31:B 26 XT:=Z.fn (ps:=["_law_sizes"]) p29 g30 Qs rfl rfl (λ_ _ _ _ _ _ _=>rfl) rfl
 have g32:B 27 YY:=Z.fn (ps:=["_law_sizes","_law_name_here"]) p30 g31 Z5 rfl rfl (λ_ _ _ _ _ _ _ _=>rfl) rfl
 have g33:B 28 Uk:=Z.fn (ps:=["_law_state","_law_sizes"]) p31 g32 Wm rfl rfl (λ_ _ _ _ _ _ _ _=>rfl) rfl
 have g34:B 29 z0r:=Z.fn (ps:=["_law_shape_here","_law_text_here"]) p32 g33 Zo rfl rfl (λ_ _ _ _ _ _ _ _=>rfl) rfl
 have W33:FnOk l.prog w K mg base (CX1 l.prog w) 30 fa _ ["_law_script"] (spN _ 1 vf):=ZC (m:=12) X2 (Xi (N:=["_law_script","_law_sizes","_law_shape_here","_law_lines","_law_cell","_law_state","_law_good","_law_spoilt","_law_at","_law_other","_law_text_here","_law_turn","_law_odd"]) (G:=["_law_shape","_law_begin","_law_cell_at","Shape","_law_holder","_law_text","_law_name","_law_told","list","_law_next","len","_law_bad","min","range","int"]) (cel:=[]) (own:=["_law_lines","_law_spoilt"]) (lam:=none) kb nb zc g34) l33 c33 rfl rfl Qv
 exact Xy (f:=vf) zl tells W33
end NH.K84
section
open PySem PySem.W PyProof.Rows
set_option maxRecDepth 100000 in
set_option maxHeartbeats 0 in
theorem PySem.Challenge.cw_namehouses_k84_lines_of_no_book_holds : PySem.Challenge.rw_namehouses_k84_lines_of_no_book.Holds := by
 w_on;o_law;k_head;(case hw=>w_witness2)
 k_fill
 refine NH.walk (l:=PySem.Challenge.rw_namehouses_k84_lines_of_no_book) (k:=30) (x:="_law_script") (by decide) rfl rfl (λw h Y=>PySem.W.kIn_of Y) ?F
 case F=>
  intro w mg fa h KX G hmg
  refine' NH.K84.all_mk KX G hmg ?ze0 ?ze1 ?ze2 ?ze3 ?ze4 ?ze5 ?ze6 ?ze7 ?zxa0 ?zxb0 ?zxc0 ?zxd0 ?zxe0 ?zxf0 ?zxg0 ?zxh0 ?zha0 ?zha1 ?zha2 ?zl0 ?zc0 ?zk0 ?zp1 ?zp2 ?zp3 ?zp4 ?zp5 ?zp6 ?zv7 ?zv8 ?zp9 ?zv10 ?zv11 ?zp12 ?zp13 ?zp14 ?zp15 ?zp16 ?zv17 ?zv18 ?zp19 ?zp20 ?zp21 ?zp22 ?zp23 ?zp24 ?zp25 ?zp26 ?zp27 ?zp28 ?zp29 ?zp30 ?zp31 ?zp32 ?za33 ?zl33 ?zc33 ?zk33 ?zx0 ?zx1 ?zx2 ?zx4 ?zx5 ?zx6 ?zx7 ?zzl ?zzc ?zzg
  (case ze0=>k_is)
  (case ze1=>k_is)
  (case ze2=>k_is)
  (case ze3=>k_is)
  (case ze4=>k_is)
  (case ze5=>k_is)
  (case ze6=>k_is)
  (case ze7=>k_is)
  (case zxa0=>k_is)
  (case zxb0=>kernel_rfl)
  (case zxc0=>k_is)
  (case zxd0=>k_is)
  (case zxe0=>k_is)
  (case zxf0=>k_is)
  (case zxg0=>k_is)
  (case zxh0=>k_is)
  (case zha0=>k_is)
  (case zha1=>k_is)
  (case zha2=>k_is)
  (case zl0=>k_is)
  (case zc0=>k_is)
  (case zk0=>k_is)
  (case zp1=>exact NH.dfp (by k_is) (by k_is) (by k_is) (by k_is))
  (case zp2=>exact NH.dfp (by k_is) (by k_is) (by k_is) (by k_is))
  (case zp3=>exact NH.dfp (by k_is) (by k_is) (by k_is) (by k_is))
  (case zp4=>exact NH.clp (by k_is) (by k_is) (by k_is) (by k_is) (by k_is) (by k_is) (by k_is) (by k_is))
  (case zp5=>exact NH.dfp (by k_is) (by k_is) (by k_is) (by k_is))
  (case zp6=>exact NH.dfp (by k_is) (by k_is) (by k_is) (by k_is))
  (case zv7=>k_is)
  (case zv8=>k_is)
  (case zp9=>exact NH.dfp (by k_is) (by k_is) (by k_is) (by k_is))
  (case zv10=>k_is)
  (case zv11=>k_is)
  (case zp12=>exact NH.dfp (by k_is) (by k_is) (by k_is) (by k_is))
  (case zp13=>exact NH.dfp (by k_is) (by k_is) (by k_is) (by k_is))
  (case zp14=>exact NH.dfp (by k_is) (by k_is) (by k_is) (by k_is))
  (case zp15=>exact NH.dfp (by k_is) (by k_is) (by k_is) (by k_is))
  (case zp16=>exact NH.dfp (by k_is) (by k_is) (by k_is) (by k_is))
  (case zv17=>k_is)
  (case zv18=>k_is)
  (case zp19=>exact NH.dfp (by k_is) (by k_is) (by k_is) (by k_is))
  (case zp20=>exact NH.dfp (by k_is) (by k_is) (by k_is) (by k_is))
  (case zp21=>exact NH.dfp (by k_is) (by k_is) (by k_is) (by k_is))
  (case zp22=>exact NH.dfp (by k_is) (by k_is) (by k_is) (by k_is))
  (case zp23=>exact NH.dfp (by k_is) (by k_is) (by k_is) (by k_is))
  (case zp24=>exact NH.dfp (by k_is) (by k_is) (by k_is) (by k_is))
  (case zp25=>exact NH.dfp (by k_is) (by k_is) (by k_is) (by k_is))
  (case zp26=>exact NH.dfp (by k_is) (by k_is) (by k_is) (by k_is))
  (case zp27=>exact NH.dfp (by k_is) (by k_is) (by k_is) (by k_is))
  (case zp28=>exact NH.dfp (by k_is) (by k_is) (by k_is) (by k_is))
  (case zp29=>exact NH.dfp (by k_is) (by k_is) (by k_is) (by k_is))
  (case zp30=>exact NH.dfp (by k_is) (by k_is) (by k_is) (by k_is))
  (case zp31=>exact NH.dfp (by k_is) (by k_is) (by k_is) (by k_is))
  (case zp32=>exact NH.dfp (by k_is) (by k_is) (by k_is) (by k_is))
  (case za33=>k_is)
  (case zl33=>k_is)
  (case zc33=>k_is)
  (case zk33=>k_is)
  (case zx0=>k_exc)
  (case zx1=>k_exc)
  (case zx2=>k_exc)
  (case zx4=>k_exc)
  (case zx5=>k_exc)
  (case zx6=>k_exc)
  (case zx7=>k_exc)
  (case zzl=>exact rfl)
  (case zzc=>exact rfl)
  (case zzg=>exact rfl)
end
