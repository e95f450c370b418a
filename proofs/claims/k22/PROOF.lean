import PyProof.Rows.All
import Wide.All
import OpenK.AllK
import Wide.FinOn
import Lean
import PyProof.EqAt
import PyProof.EqKinds
import PyProof.TupleCall
import PyProof.StationsW
import PySem.Syntax
import KE.KLam
import PyProof.StrBlockH
import KE.KRevIter
import PyProof.JoinWalk
import PyProof.CollectIter
import PyProof.StrCalls
import PyProof.DictStraight
import PyProof.Rows.Range3
import PyProof.StrWalks
import PyProof.LongRange
import KE.KTryMore
import KE.KItem
import PyProof.NsDelKeeps
import PyProof.DictTable
import PyProof.WalkInts
import PyProof.Rows.SortStr
import PyProof.Rows.SortWalk
import PyProof.EnumMake
import PyProof.EnumFor
import KE.KRevSl
import PyProof.Rows.StrNews
import KE.KMinBuiltin
import KE.KSortKey
import PyProof.ZipIter
import PyProof.ExcInit
import PyProof.ExcClass2
import PyProof.InstStoreFacts
import PyProof.FString
import KE.LcSums
import PyProof.AttrMissHeap
import PyProof.Rows.SetFrom
import KE.KDictOf
import PySem.Challenge.RW_namehouses_k22_let_of_any_house
set_option Elab.async false
set_option linter.all false
set_option maxRecDepth 100000
set_option maxHeartbeats 4000000
set_option bootstrap.genMatcherCode false
noncomputable section
namespace PySem.W.Fast
theorem tw5043223102869633709:True:=⟨⟩
theorem tw9159193866849766757:True:=⟨⟩
theorem tw15339587642978515248:True:=⟨⟩
theorem tw262543212968501132:True:=⟨⟩
theorem tw17498403941293174816:True:=⟨⟩
theorem tw5007579676046379261:True:=⟨⟩
theorem tw13347382130320162190:True:=⟨⟩
theorem tw3302363925120550437:True:=⟨⟩
theorem tw6732577269134133072:True:=⟨⟩
theorem tw11354177534265616335:True:=⟨⟩
theorem tw13902560555229136350:True:=⟨⟩
theorem tw8095183121757719312:True:=⟨⟩
theorem tw469670172198796735:True:=⟨⟩
theorem tw5018686602917576296:True:=⟨⟩
theorem tw11725886065497339989:True:=⟨⟩
theorem tw14408208014118975955:True:=⟨⟩
theorem tw50768787200726206:True:=⟨⟩
theorem tw16648921652848726588:True:=⟨⟩
theorem tw11501128795456005823:True:=⟨⟩
theorem tw11634352182568976730:True:=⟨⟩
theorem tw1212883029281874713:True:=⟨⟩
theorem tw8170368802806418047:True:=⟨⟩
theorem tw2174194685568841511:True:=⟨⟩
theorem tw5409899072203719566:True:=⟨⟩
theorem tw12310978034895564979:True:=⟨⟩
theorem tw8913621075964712889:True:=⟨⟩
theorem tw16924444068682461910:True:=⟨⟩
theorem tw8285473740784227143:True:=⟨⟩
theorem tw6705157444295612794:True:=⟨⟩
theorem tw609826876222966002:True:=⟨⟩
theorem tw432385604894440036:True:=⟨⟩
theorem tw13196276238376199173:True:=⟨⟩
theorem tw15410395408603965613:True:=⟨⟩
theorem tw4182500723494925631:True:=⟨⟩
theorem tw12105125360167029225:True:=⟨⟩
theorem tw1212019321284775344:True:=⟨⟩
theorem tw5520975207256475101:True:=⟨⟩
theorem tw10252324424973026461:True:=⟨⟩
theorem tw16368550632954644003:True:=⟨⟩
theorem tw13075780069206158691:True:=⟨⟩
theorem tw8436648213308131814:True:=⟨⟩
theorem tw8073279101384062416:True:=⟨⟩
theorem tw7732872397168072619:True:=⟨⟩
theorem tw4433403350002891381:True:=⟨⟩
theorem tw12292961139984876722:True:=⟨⟩
theorem tw12523877903890347129:True:=⟨⟩
theorem tw1828879406767501954:True:=⟨⟩
theorem tw14940129278163444274:True:=⟨⟩
theorem tw12776489718628700991:True:=⟨⟩
theorem tw7753883941064464328:True:=⟨⟩
theorem tw16347181242946589362:True:=⟨⟩
theorem tw13743883230534463824:True:=⟨⟩
theorem tw6724923008856459097:True:=⟨⟩
theorem tw1937017812289127007:True:=⟨⟩
theorem tw110403077960159537:True:=⟨⟩
theorem tw15498815637832281548:True:=⟨⟩
theorem tw18017330232194323740:True:=⟨⟩
theorem tw1636538646902062409:True:=⟨⟩
theorem tw4217858765408170633:True:=⟨⟩
theorem tw6455534220160057137:True:=⟨⟩
theorem tw9236665256937241405:True:=⟨⟩
theorem tw17867718168423936715:True:=⟨⟩
theorem tw10949886441617045200:True:=⟨⟩
theorem tw17895443191662567737:True:=⟨⟩
theorem tw4162456576403685654:True:=⟨⟩
theorem tw12930938990290811594:True:=⟨⟩
theorem tw11175440444067928731:True:=⟨⟩
theorem tw3226705405215707043:True:=⟨⟩
theorem tw4098575017841560784:True:=⟨⟩
theorem tw9477470628856771279:True:=⟨⟩
theorem tw8845263920738489881:True:=⟨⟩
theorem tw15796273407830726880:True:=⟨⟩
theorem tw6722194228554160945:True:=⟨⟩
theorem tw5912848634132269289:True:=⟨⟩
theorem tw15460858286416253872:True:=⟨⟩
theorem tw90395112797724372:True:=⟨⟩
theorem tw12500106089849111024:True:=⟨⟩
theorem tw13024553643725233696:True:=⟨⟩
theorem tw3126531656619877287:True:=⟨⟩
theorem tw17779151976598670902:True:=⟨⟩
theorem tw2884985082883023183:True:=⟨⟩
theorem tw1861987725507588063:True:=⟨⟩
theorem tw14372119918085222673:True:=⟨⟩
theorem tw3319972986617574142:True:=⟨⟩
theorem tw14958979589676587569:True:=⟨⟩
theorem tw6542676817320197310:True:=⟨⟩
theorem tw10913705072815647776:True:=⟨⟩
theorem tw12992493779092747364:True:=⟨⟩
theorem tw7859788301936395723:True:=⟨⟩
theorem tw4919222287503841073:True:=⟨⟩
theorem tw12789142374787963684:True:=⟨⟩
theorem tw7876241605177990549:True:=⟨⟩
theorem tw3827036057064262893:True:=⟨⟩
theorem tw4440586719639948486:True:=⟨⟩
theorem tw8427778622908960041:True:=⟨⟩
theorem tw18410107709771477071:True:=⟨⟩
theorem tw11193492735915087004:True:=⟨⟩
theorem tw10485612721522343364:True:=⟨⟩
theorem tw14368359740391478297:True:=⟨⟩
theorem tw18279986562648099315:True:=⟨⟩
theorem tw7649241127438667287:True:=⟨⟩
theorem tw3175758841933986460:True:=⟨⟩
theorem tw343500516251019410:True:=⟨⟩
theorem tw10865518031326719641:True:=⟨⟩
theorem tw14829343349883953683:True:=⟨⟩
theorem tw10613388616894591754:True:=⟨⟩
theorem tw2376561263281379769:True:=⟨⟩
theorem tw9387798722281163114:True:=⟨⟩
theorem tw298446351129935984:True:=⟨⟩
theorem tw7329261423588013012:True:=⟨⟩
theorem tw15887135825002082992:True:=⟨⟩
theorem tw12216964794486466209:True:=⟨⟩
theorem tw18126902837282657678:True:=⟨⟩
theorem tw10523619461422253218:True:=⟨⟩
theorem tw16886840677470422447:True:=⟨⟩
theorem tw10406105237254963481:True:=⟨⟩
theorem tw10313853673803543189:True:=⟨⟩
theorem tw4837917021393792289:True:=⟨⟩
theorem tw9064258843900811904:True:=⟨⟩
theorem tw6557905607417195326:True:=⟨⟩
theorem tw3431379664549082274:True:=⟨⟩
theorem tw6551269779377880455:True:=⟨⟩
theorem tw12851472143461718032:True:=⟨⟩
theorem tw8769520361343812747:True:=⟨⟩
theorem tw120120063043891063:True:=⟨⟩
theorem tw3161792649384658457:True:=⟨⟩
theorem tw4938830628005300902:True:=⟨⟩
theorem tw3486099447544983117:True:=⟨⟩
theorem tw7314733804789192973:True:=⟨⟩
theorem tw13964541258628357771:True:=⟨⟩
theorem tw12509214230981449400:True:=⟨⟩
theorem tw16230221432401535948:True:=⟨⟩
theorem tw13874296246863154102:True:=⟨⟩
theorem tw15538657300189468264:True:=⟨⟩
theorem tw9572767618467440366:True:=⟨⟩
theorem tw17514440871478789729:True:=⟨⟩
theorem tw10853371255564876968:True:=⟨⟩
theorem tw5766844335923581524:True:=⟨⟩
theorem tw11917406110490246559:True:=⟨⟩
theorem tw5515336777011163110:True:=⟨⟩
theorem tw11174092154541586270:True:=⟨⟩
theorem tw15355004510458483607:True:=⟨⟩
theorem tw14532759822574275581:True:=⟨⟩
theorem tw1700492053696375272:True:=⟨⟩
theorem tw3325004746387558002:True:=⟨⟩
theorem tw1675732121532312886:True:=⟨⟩
theorem tw15555679437796119431:True:=⟨⟩
theorem tw15729477544999424770:True:=⟨⟩
theorem tw8074789426078263570:True:=⟨⟩
theorem tw16460678243568266694:True:=⟨⟩
theorem tw8448460378860979536:True:=⟨⟩
theorem tw17970239127999684580:True:=⟨⟩
theorem tw5199884726551140773:True:=⟨⟩
theorem tw7327735284100826244:True:=⟨⟩
theorem tw14327986440047092895:True:=⟨⟩
theorem tw10286425287204603159:True:=⟨⟩
theorem tw2948315111016723278:True:=⟨⟩
theorem tw4006476034867662692:True:=⟨⟩
theorem tw3686005679731333859:True:=⟨⟩
theorem tw190337277112215237:True:=⟨⟩
theorem tw3069467669307201916:True:=⟨⟩
theorem tw2896567424412247534:True:=⟨⟩
theorem tw7670868715577453752:True:=⟨⟩
theorem tw10381930559335011300:True:=⟨⟩
theorem tw3109120715504580344:True:=⟨⟩
theorem tw6104053423559933094:True:=⟨⟩
theorem tw11524263619830024714:True:=⟨⟩
theorem tw5672077759999736497:True:=⟨⟩
theorem tw415553666157407797:True:=⟨⟩
theorem tw16634595504316736296:True:=⟨⟩
theorem tw10390350622590032973:True:=⟨⟩
theorem tw14356189495687311745:True:=⟨⟩
theorem tw12338238396229549517:True:=⟨⟩
theorem tw2247368423953854830:True:=⟨⟩
theorem tw14341853555556891454:True:=⟨⟩
theorem tw15166335628291387391:True:=⟨⟩
theorem tw13393055493111554600:True:=⟨⟩
theorem tw1264792439038318309:True:=⟨⟩
theorem tw9590267942395702818:True:=⟨⟩
theorem tw2112137237418511526:True:=⟨⟩
theorem tw12910843834931319410:True:=⟨⟩
theorem tw4506072704356226423:True:=⟨⟩
theorem tw18192687771445319495:True:=⟨⟩
theorem tw1611028115274593534:True:=⟨⟩
theorem tw16289778956202620363:True:=⟨⟩
theorem tw9424945953811666832:True:=⟨⟩
theorem tw1933279186227860027:True:=⟨⟩
theorem tw1536669265239632886:True:=⟨⟩
theorem tw12341391030034654317:True:=⟨⟩
theorem tw1328505471238378435:True:=⟨⟩
theorem tw7889063487871594464:True:=⟨⟩
theorem tw3118721652224922302:True:=⟨⟩
theorem tw6396093312696731588:True:=⟨⟩
theorem tw15879816060392832489:True:=⟨⟩
theorem tw4077853723925437778:True:=⟨⟩
theorem tw1373993790316743537:True:=⟨⟩
theorem tw16930722342543500376:True:=⟨⟩
theorem tw2835217639900167384:True:=⟨⟩
theorem tw2379739019539055817:True:=⟨⟩
theorem tw2727576513498083823:True:=⟨⟩
theorem tw9713328809716720601:True:=⟨⟩
theorem tw6757398810180895534:True:=⟨⟩
theorem tw1667517105345483364:True:=⟨⟩
theorem tw13449234705745351525:True:=⟨⟩
theorem tw18023530768604304353:True:=⟨⟩
theorem tw3064065729564148739:True:=⟨⟩
theorem tw16511217623292280188:True:=⟨⟩
theorem tw16396883487268706014:True:=⟨⟩
theorem tw4242824802861813805:True:=⟨⟩
theorem tw1900509061839381803:True:=⟨⟩
theorem tw11816197465772211989:True:=⟨⟩
theorem tw7644335955664953414:True:=⟨⟩
theorem tw18136983110880410312:True:=⟨⟩
theorem tw3717236972201766272:True:=⟨⟩
theorem tw17704936869606233355:True:=⟨⟩
theorem tw6951989728667780484:True:=⟨⟩
theorem tw6647446307457551495:True:=⟨⟩
theorem tw9309660301770706904:True:=⟨⟩
theorem tw1312682463720969961:True:=⟨⟩
theorem tw355085275782949822:True:=⟨⟩
theorem tw14079095842188530745:True:=⟨⟩
theorem tw6242386631827484995:True:=⟨⟩
theorem tw9712372082411601373:True:=⟨⟩
theorem tw5620653307479568211:True:=⟨⟩
theorem tw12062725154570378213:True:=⟨⟩
theorem tw17190446783060004602:True:=⟨⟩
theorem tw10883565542975379156:True:=⟨⟩
theorem tw2124235393825661106:True:=⟨⟩
theorem tw11162695087299263108:True:=⟨⟩
theorem tw17569356598913388597:True:=⟨⟩
theorem tw13386881789616083345:True:=⟨⟩
theorem tw16605250696711867696:True:=⟨⟩
theorem tw8063214341652044706:True:=⟨⟩
theorem tw949969414066695873:True:=⟨⟩
theorem tw16657795644871417909:True:=⟨⟩
theorem tw4098090936964884835:True:=⟨⟩
theorem tw11284162196738135038:True:=⟨⟩
theorem tw12847012886170458657:True:=⟨⟩
theorem tw8730690156899878018:True:=⟨⟩
theorem tw4452495864820748113:True:=⟨⟩
end PySem.W.Fast
section
set_option Elab.async false
namespace L2
open PySem PySem.Spec PyProof.Rows
noncomputable abbrev Key:=Sum Int Str
noncomputable def xW:Key->Value->Bool
 |.inl k,v=>Value.isInt k v
 |.inr x,v=>Value.isStrOf x v
noncomputable def z1_ (w:World):Key->Int
 |.inl k=>hashInt k
 |.inr x=>hashStr w x
theorem zu:∀{k:Key} {v:Value},xW k v=true->(∃i t,k=Sum.inl i/\v=Value.int i t)\/(∃x t,k=Sum.inr x/\v=Value.str x t)
 |.inl i,v,h=>by
  obtain⟨t,e⟩:=Value.isInt_shape (k:=i) (v:=v) h
  exact .inl ⟨i,t,rfl,e⟩
 |.inr x,v,h=>by
  obtain⟨t,e⟩:=Value.isStrOf_shape (x:=x) (v:=v) h
  exact .inr ⟨x,t,rfl,e⟩
theorem Wk(i:Int)(t:Tok):xW (.inl i) (.int i t)=true:=by simp[xW,Value.isInt]
theorem Wn(x:Str)(t:Tok):xW (.inr x) (.str x t)=true:=by simp[xW,Value.isStrOf]
theorem z0p(a b:Int):decide ((Sum.inl a:Key)=Sum.inl b)=(a == b):=by
 by_cases e:a=b
 ·subst e;simp
 ·have h:¬(Sum.inl a:Key)=Sum.inl b:=λq=>e (Sum.inl.inj q)
  rw[decide_eq_false h]
  exact (beq_eq_false_iff_ne.mpr e).symm
theorem UG(a b:Str):decide ((Sum.inr a:Key)=Sum.inr b)=decide (a=b):=by
 by_cases e:a=b
 ·subst e;simp
 ·have h:¬(Sum.inr a:Key)=Sum.inr b:=λq=>e (Sum.inr.inj q)
  rw[decide_eq_false h,decide_eq_false e]
theorem Ud(a:Int)(b:Str):decide ((Sum.inl a:Key)=Sum.inr b)=false:=decide_eq_false (λq=>nomatch q)
theorem Ur(a:Str)(b:Int):decide ((Sum.inr a:Key)=Sum.inl b)=false:=decide_eq_false (λq=>nomatch q)
noncomputable def ze(prog:Program)(w:World):PySem.KeyKind prog w Key where
 is:=xW
 hash:=z1_ w
 inj:=λv a b ha hb=>by
  rcases zu ha with⟨i,t,rfl,rfl⟩|⟨x,t,rfl,rfl⟩
  ·rcases zu hb with⟨j,u,rfl,e⟩|⟨y,u,rfl,e⟩
   ·injection e with e1 _;rw[e1]
   ·exact nomatch e
  ·rcases zu hb with⟨j,u,rfl,e⟩|⟨y,u,rfl,e⟩
   ·exact nomatch e
   ·injection e with e1 _;rw[e1]
 byValue:=λk v h=>by
  rcases zu h with⟨i,t,rfl,rfl⟩|⟨x,t,rfl,rfl⟩<;>rfl
 pyHash:=λhv h=>by
  rcases zu hv with⟨i,t,rfl,rfl⟩|⟨x,t,rfl,rfl⟩
  ·exact wpAny_pyHash_int h
  ·exact wpAny_pyHash_str h
 eqBool:=λhu hv h=>by
  rcases zu hu with⟨i,t,rfl,rfl⟩|⟨x,t,rfl,rfl⟩
  ·rcases zu hv with⟨j,u,rfl,rfl⟩|⟨y,u,rfl,rfl⟩
   ·rw[z0p] at h;exact wpAny_eqBool_int h
   ·rw[Ud] at h;exact SeqAt.EqAt.int_str i t y u _ _ _ _ h
  ·rcases zu hv with⟨j,u,rfl,rfl⟩|⟨y,u,rfl,rfl⟩
   ·rw[Ur] at h;exact SeqAt.EqAt.str_int x t j u _ _ _ _ h
   ·rw[UG] at h;exact wpAny_eqBool_str h
 «strs»:=λk x t v h=>by
  rcases zu h with⟨i,u,rfl,e⟩|⟨y,u,rfl,e⟩
  ·exact nomatch e
  ·injection e with e1 _
   subst e1
   cases v<;>rfl
theorem ua(prog:Program)(w:World)(i:Int)(t:Tok):(ze prog w).is (.inl i) (.int i t)=true:=Wk i t
theorem uE(prog:Program)(w:World)(x:Str)(t:Tok):(ze prog w).is (.inr x) (.str x t)=true:=Wn x t
end L2
namespace L2
open PySem PySem.Spec PyProof.Rows
inductive V where
 |non|bl (b:Bool)|int (i:Int)|str (x:Str)|byt (b:Array UInt8)|flt (b:UInt64)|ref (a:Addr)|ty (n:String)
 deriving DecidableEq
noncomputable def RelV:V->Value->Prop
 |.non,u=>u=Value.none
 |.bl b,u=>u=Value.bool b
 |.int i,u=>∃t,u=Value.int i t
 |.str x,u=>∃t,u=Value.str x t
 |.byt b,u=>∃t,u=Value.bytes b t
 |.flt b,u=>∃t,u=Value.float b t
 |.ref a,u=>u=Value.ref a
 |.ty n,u=>u=Value.type n
abbrev Vals:List V->List Value->Prop:=Paired RelV
theorem Vals.length{xs:List V}{us:List Value}(r:Vals xs us):xs.length=us.length:=Paired.length r
theorem Vals.get:∀{xs:List V} {us:List Value} {i:Nat} {x:V},Vals xs us->xs[i]?=some x->∃u,us[i]?=some u/\RelV x u
 |_,_,_,_,.nil,e=>by simp at e
 |_,_,0,_,.cons r _,e=>by simp at e;subst e;exact⟨_,rfl,r⟩
 |_,_,i+1,x,.cons _ t,e=>by
  obtain⟨u,h1,h2⟩:=Vals.get (i:=i) (x:=x) t (by simpa using e)
  exact⟨u,by simpa using h1,h2⟩
theorem Vals.set{x:V}{u:Value}(r:RelV x u):∀{xs:List V} {us:List Value} (i:Nat),Vals xs us->Vals (xs.set i x) (us.set i u)
 |_,_,_,.nil=>.nil
 |_,_,0,.cons _ t=>.cons r t
 |_,_,i+1,.cons q t=>.cons q (Vals.set r i t)
theorem Vals.append:∀{xs ys:List V} {us ws:List Value},Vals xs us->Vals ys ws->Vals (xs++ys) (us++ws)
 |_,_,_,_,.nil,s=>s
 |_,_,_,_,.cons r t,s=>.cons r (Vals.append t s)
theorem Vals.take:∀{xs:List V} {us:List Value} (n:Nat),Vals xs us->Vals (xs.take n) (us.take n)
 |_,_,0,_=>.nil
 |_,_,_+1,.nil=>.nil
 |_,_,n+1,.cons r t=>.cons r (Vals.take n t)
theorem Vals.drop:∀{xs:List V} {us:List Value} (n:Nat),Vals xs us->Vals (xs.drop n) (us.drop n)
 |_,_,0,r=>r
 |_,_,_+1,.nil=>.nil
 |_,_,n+1,.cons _ t=>Vals.drop n t
noncomputable def RelO:Option V->Option Value->Prop
 |some v,some u=>RelV v u
 |none,none=>True
 |_,_=>False
noncomputable def KV {κ:Type}:List (κ×V)->List (κ×Value)->Prop:=Paired λ(p:κ×V) (q:κ×Value)=>p.1=q.1/\RelV p.2 q.2
noncomputable def kV:Key->V
 |.inl i=>.int i
 |.inr x=>.str x
inductive HO where
 |lst (xs:List V)
 |tup (xs:List V)
 |dK (kvs:List (Key×V))|dT (kvs:List (List Key×V))
 |set (S:Int->Bool) (n:Nat)
 |ins (C dx:Addr) (fs:List (Str×V))
 |own (x:Addr)
 |xd (fs:List (Str×V))
 |met (f x:Addr)
 |rng (lo hi:Int)
 |frz (o:Obj) (u:HO)
 |tbl (ps:Array Value)
 |ext (φ:Heap->Prop)
noncomputable abbrev Hp:=Addr->Option HO
noncomputable def upd (H:Hp)(a:Addr)(o:HO):Hp:=λb=>if b=a then some o else H b
theorem z6{H:Hp}{a:Addr}{o:HO}:upd H a o a=some o:=by unfold upd;rw[if_pos rfl]
theorem z8{H:Hp}{a b:Addr}{o:HO}(h:b≠a):upd H a o b=H b:=by unfold upd;rw[if_neg h]
theorem z0N{H:Hp}{a b:Addr}{o u:HO}(h:H a=some o)(h':H b=some u)(d:o≠u):a≠b:=by
 intro e;subst e;rw[h] at h';exact d (Option.some.inj h')
theorem zv{H:Hp}{a b:Addr}{o:HO}(h:H a=some o)(h':H b=none):a≠b:=by
 intro e;subst e;rw[h] at h';cases h'
section
variable (P:Program)(w:World)
noncomputable def ObjOk(H:Hp)(h:Heap)(a:Addr):HO->Prop
 |.lst xs=>xs.length<=sizeLine/\∃(its:List Value) (n:Nat),Vals xs its/\h.get? a=some {cls:=.type "list",data:=.seq its.toArray n}
 |.tup xs=>xs.length<=sizeLine/\∃its:List Value,Vals xs its/\IsTup h a its.toArray
 |.dK kvs=>kvs.length<=sizeLine/\(a == sysModules)=false/\∃vs,KV kvs vs/\h.DictOf (ze P w) a vs
 |.dT kvs=>kvs.length<=sizeLine/\(a == sysModules)=false/\∃xs:List (List Key×Addr×Value),
   Paired (λ(p:List Key×V) (q:List Key×Addr×Value)=>p.1=q.1/\H q.2.1=some (.tup (p.1.map kV))/\RelV p.2 q.2.2) kvs xs/\
   ∃o es ep,h.get? a=some o/\o.ExactDict/\o.data=.dict es ep/\es.toList=xs.map (entryOfKey (tupleKind (ze P w)))/\(xs.map (·.1)).Nodup
 |.set S n=>h.SetOf (intKind P w) a S n
 |.ins C dx fs=>H dx=some (.own a)/\fs.length<=1000/\dx≠a/\h.get? a=some (PySem.W.instObj C dx)/\
   ∃mA,h.Ns1 dx mA/\(∀f,RelO (fs.lookup f) (mA f))/\PySem.Within mA (fs.map (·.1))
 |.own _=>∃o,h.get? a=some o
 |.xd fs=>∃mA,h.Ns1 a mA/\∀f,RelO (fs.lookup f) (mA f)
 |.rng lo hi=>∃t u v,h.get? a=some {cls:=.type "range",data:=.fields #[.int lo t,.int hi u,.int 1 v]}
 |.frz o u=>h.get? a=some o/\ObjOk H h a u
 |.tbl ps=>h.get? a=some {cls:=.none,data:=.fields ps}
 |.met f x=>h.get? a=some (PySem.W.methodObj (.ref f) (.ref x))
 |.ext φ=>φ h/\(∃o,h.get? a=some o)/\∀h1 h2:Heap,φ h1->(∀o,h1.get? a=some o->h2.get? a=some o)->φ h2
noncomputable def HOk (H:Hp)(h:Heap):Prop:=∀a o,H a=some o->ObjOk P w H h a o
end
section
variable {P:Program}{w:World}{H H':Hp}{h h':Heap}{a:Addr}{o:HO}
theorem ObjOk.lt(x:ObjOk P w H h a o):a<h.objs.size:=by
 cases o with
 |lst xs=>obtain⟨_,_,_,_,e⟩:=x;exact Heap.lt_size e
 |tup xs=>obtain⟨_,_,_,p⟩:=x;exact p.lt
 |dK kvs=>obtain⟨_,_,_,_,o,_,_,e,_⟩:=x;exact Heap.lt_size e
 |dT kvs=>obtain⟨_,_,_,_,o,_,_,e,_⟩:=x;exact Heap.lt_size e
 |set S n=>obtain⟨o,_,_,_,e,_⟩:=x;exact Heap.lt_size e
 |ins C dx fs=>obtain⟨_,_,_,e,_⟩:=x;exact Heap.lt_size e
 |own y=>obtain⟨_,e⟩:=x;exact Heap.lt_size e
 |xd fs=>obtain⟨_,⟨_,_,_,e,_⟩,_⟩:=x;exact Heap.lt_size e
 |rng lo hi=>obtain⟨_,_,_,e⟩:=x;exact Heap.lt_size e
 |frz ob u=>obtain⟨e,_⟩:=x;exact Heap.lt_size e
 |tbl ps=>exact Heap.lt_size (show h.get? a=some _ from x)
 |met f y=>exact Heap.lt_size (show h.get? a=some _ from x)
 |ext φ=>obtain⟨_,⟨_,e⟩,_⟩:=x;exact Heap.lt_size e
theorem Paired.mapP{α β:Type}{F G:α->β->Prop}:∀{l₁:List α} {l₂:List β},Paired F l₁ l₂->(∀a b,F a b->G a b)->Paired G l₁ l₂
 |_,_,.nil,_=>.nil
 |_,_,.cons r t,f=>.cons (f _ _ r) (Paired.mapP t f)
theorem ObjOk.stay(x:ObjOk P w H h a o)(k:∀b u,(b=a\/H b=some (.own a))->h.get? b=some u->h'.get? b=some u)
  (ho:∀b,H b=some (.own a)->H' b=some (.own a)) (ht:∀b xs,H b=some (.tup xs)->H' b=some (.tup xs)):ObjOk P w H' h' a o:=by
 induction o with
 |lst xs=>obtain⟨z,its,n,r,e⟩:=x;exact⟨z,its,n,r,k _ _ (.inl rfl) e⟩
 |tup xs=>obtain⟨z,its,r,ob,e,c⟩:=x;exact⟨z,its,r,ob,k _ _ (.inl rfl) e,c⟩
 |dK kvs=>obtain⟨z,y,vs,r,ob,es,ep,e,c⟩:=x;exact⟨z,y,vs,r,ob,es,ep,k _ _ (.inl rfl) e,c⟩
 |dT kvs=>
  obtain⟨z,y,xs,r,ob,es,ep,e,c⟩:=x
  exact⟨z,y,xs,Paired.mapP r λp q z=>⟨z.1,ht _ _ z.2.1,z.2.2⟩,ob,es,ep,k _ _ (.inl rfl) e,c⟩
 |set S n=>obtain⟨ob,es,ep,t,e,c⟩:=x;exact⟨ob,es,ep,t,k _ _ (.inl rfl) e,c⟩
 |ins C dx fs=>
  obtain⟨d,z,ne,e,mA,⟨od,es,ep,e2,c⟩,r⟩:=x
  exact⟨ho _ d,z,ne,k _ _ (.inl rfl) e,mA,⟨od,es,ep,k _ _ (.inr d) e2,c⟩,r⟩
 |own y=>obtain⟨ob,e⟩:=x;exact⟨ob,k _ _ (.inl rfl) e⟩
 |xd fs=>obtain⟨mA,⟨od,es,ep,e,c⟩,r⟩:=x;exact⟨mA,⟨od,es,ep,k _ _ (.inl rfl) e,c⟩,r⟩
 |rng lo hi=>obtain⟨t,u,v,e⟩:=x;exact⟨t,u,v,k _ _ (.inl rfl) e⟩
 |frz ob u ih=>obtain⟨e,q⟩:=x;exact⟨k _ _ (.inl rfl) e,ih q⟩
 |tbl ps=>
  have e:h.get? a=some {cls:=.none,data:=.fields ps}:=x
  show h'.get? a=some {cls:=.none,data:=.fields ps}
  exact k a _ (.inl rfl) e
 |met f y=>
  have e:h.get? a=some (PySem.W.methodObj (.ref f) (.ref y)):=x
  show h'.get? a=some (PySem.W.methodObj (.ref f) (.ref y))
  exact k a _ (.inl rfl) e
 |ext φ=>obtain⟨p,⟨o,e⟩,st⟩:=x;exact⟨st _ _ p λo q=>k _ _ (.inl rfl) q,⟨o,k _ _ (.inl rfl) e⟩,st⟩
theorem HOk.lt(x:HOk P w H h)(e:H a=some o):a<h.objs.size:=(x a o e).lt
theorem HOk.fresh(x:HOk P w H h)(e:h.objs.size<=a):H a=none:=by
 cases q:H a with
 |none=>rfl
 |some u=>exact absurd (Nat.lt_of_lt_of_le (x.lt q) e) (Nat.lt_irrefl _)
theorem HOk.kept(x:HOk P w H h)(k:∀b u,h.get? b=some u->h'.get? b=some u):HOk P w H h':=λa o e=>
 (x a o e).stay (λb u _ q=>k b u q) (λ_ q=>q) λ_ _ q=>q
theorem HOk.laid(x:HOk P w H h)(k:∀b u,h.get? b=some u->h'.get? b=some u)(hp:h.objs.size<=a)(new:ObjOk P w (upd H a o) h' a o):HOk P w (upd H a o) h':=λb u e=>by
 have hn:=x.fresh hp
 by_cases hb:b=a
 ·subst hb;rw[z6] at e;cases e;exact new
 ·rw[z8 hb] at e
  exact (x b u e).stay (λc v _ q=>k c v q) (λc q=>by rw[z8 (zv q hn)];exact q) λc xs q=>by rw[z8 (zv q hn)];exact q
end
noncomputable def Rd (H:Hp)(a:Addr)(u:HO):Prop:=H a=some u\/∃o,H a=some (.frz o u)
theorem Rd.ok{P:Program}{w:World}{H:Hp}{h:Heap}{a:Addr}{u:HO}(r:Rd H a u)(x:HOk P w H h):ObjOk P w H h a u:=by
 rcases r with r|⟨o,r⟩
 ·exact x a u r
 ·obtain⟨_,q⟩:=x a _ r
  exact q
noncomputable def Mut:Option HO->Prop
 |some (.lst _)=>True
 |some (.dK _)=>True
 |some (.dT _)=>True
 |some (.set _ _)=>True
 |some (.ins _ _ _)=>True
 |some (.ext _)=>True
 |_=>False
section
variable {P:Program}{w:World}{H:Hp}{h h':Heap}{x e:Addr}{o':HO}
theorem HOk.write(ok:HOk P w H h)(mu:Mut (H x))(he:e=x\/H e=some (.own x))(k:∀b u,b≠e->h.get? b=some u->h'.get? b=some u)(heo:∃u,h'.get? e=some u)
  (new:ObjOk P w (upd H x o') h' x o'):HOk P w (upd H x o') h':=λb u q=>by
 have nown:∀c y,H c=some (.own y)->c≠x:=λc y r z=>by subst z;rw[r] at mu;exact mu
 have ntup:∀c xs,H c=some (.tup xs)->c≠x:=λc xs r z=>by subst z;rw[r] at mu;exact mu
 by_cases hb:b=x
 ·subst hb;rw[z6] at q;cases q;exact new
 ·rw[z8 hb] at q
  by_cases hbe:b=e
  ·have q':H b=some (.own x):=by
    rcases he with z|z
    ·exact absurd (hbe.trans z) hb
    ·rw[hbe];exact z
   rw[q] at q';cases q'
   obtain⟨v,hv⟩:=heo
   exact⟨v,by rw[hbe];exact hv⟩
  ·refine (ok b u q).stay (λc v hc r=>k c v ?_ r) (λc r=>by rw[z8 (nown c b r)];exact r) λc xs r=>by rw[z8 (ntup c xs r)];exact r
   rcases hc with rfl|hc
   ·exact hbe
   ·rintro rfl
    rcases he with z|z
    ·exact nown c b hc z
    ·rw[hc] at z;cases z;exact hb rfl
end
structure Un(fs ex:List Addr)(H H':Hp)(h h':Heap):Prop where
 keep:∀b o,h.get? b=some o->H b=none->b∉fs->b∉ex->h'.get? b=some o
 slot:∀b o,h.get? b=some o->H b=none->b∈fs->b∉ex->∃sl,h'.get? b=some {o with slots:=sl}
 free:∀b o,h.get? b=some o->H b=none->b∉ex->H' b=none
 there:∀b o,h.get? b=some o->b∉ex->∃o',h'.get? b=some o'
 tups:∀b xs,H b=some (.tup xs)->H' b=some (.tup xs)
 frzs:∀b o u,H b=some (.frz o u)->H' b=some (.frz o u)
 tbls:∀b ps,H b=some (.tbl ps)->∃more,H' b=some (.tbl (ps++more))
section
variable {fs fs' ex ex':List Addr}{H H1 H2:Hp}{h h1 h2 h':Heap}{a x e:Addr}{o:HO}
theorem Un.any(u:Un fs ex H H1 h h1){b:Addr}{ob:Obj}(q:h.get? b=some ob)(n:H b=none)(hx:b∉ex):∃sl,h1.get? b=some {ob with slots:=sl}:=by
 by_cases hb:b∈fs
 ·exact u.slot b ob q n hb hx
 ·exact⟨ob.slots,u.keep b ob q n hb hx⟩
theorem Un.kept(k:∀b u,h.get? b=some u->h'.get? b=some u):Un fs ex H H h h':=
 ⟨λb ob q _ _ _=>k b ob q,λb ob q _ _ _=>⟨ob.slots,k b ob q⟩,λ_ _ _ n _=>n,λb ob q _=>⟨ob,k b ob q⟩,λ_ _ q=>q,λ_ _ _ q=>q,λ_ ps q=>⟨#[],by rw[q];simp⟩⟩
theorem Un.refl:Un fs ex H H h h:=Un.kept λ_ _ q=>q
theorem Un.laid(k:∀b u,h.get? b=some u->h'.get? b=some u)(hp:h.objs.size<=a)(hn:H a=none):Un fs ex H (upd H a o) h h' where
 keep:=λb u q _ _ _=>k b u q
 slot:=λb u q _ _ _=>⟨u.slots,k b u q⟩
 free:=λb u q n _=>by rw[z8 (Nat.ne_of_lt (Nat.lt_of_lt_of_le (Heap.lt_size q) hp))];exact n
 there:=λb u q _=>⟨u,k b u q⟩
 tups:=λb xs q=>by rw[z8 (zv q hn)];exact q
 frzs:=λb u xs q=>by rw[z8 (zv q hn)];exact q
 tbls:=λb ps q=>⟨#[],by rw[z8 (zv q hn),q];simp⟩
theorem Un.write(mu:Mut (H x))(he:e=x\/H e=some (.own x))(k:∀b u,b≠e->h.get? b=some u->h'.get? b=some u)(heo:∃u,h'.get? e=some u):Un fs ex H (upd H x o) h h':=by
 have hx:∀b,H b=none->b≠x:=λb n z=>by subst z;rw[n] at mu;exact mu
 have hb:∀b,H b=none->b≠e:=λb n z=>by
  subst z
  rcases he with r|r
  ·exact hx b n r
  ·rw[n] at r;cases r
 have hm:∀b u,H b=some u->¬Mut (some u)->b≠x:=λb u q nm z=>by subst z;rw[q] at mu;exact nm mu
 refine⟨λb u q n _ _=>k b u (hb b n) q,λb u q n _ _=>⟨u.slots,k b u (hb b n) q⟩,λb u q n _=>by rw[z8 (hx b n)];exact n,λb u q _=>?_,
  λb xs q=>by rw[z8 (hm b _ q λz=>z)];exact q,λb u xs q=>by rw[z8 (hm b _ q λz=>z)];exact q,λb ps q=>⟨#[],by rw[z8 (hm b _ q λz=>z),q];simp⟩⟩
 by_cases hbe:b=e
 ·subst hbe;exact heo
 ·exact⟨u,k b u hbe q⟩
end
noncomputable def trk (h:Heap)(H:Hp):List Addr:=(List.range h.objs.size).filter λa=>(H a).isSome
noncomputable def xv (h:Heap)(H:Hp):Heap:=PySem.W.hideAll h (trk h H)
theorem Wa(h:Heap)(H:Hp):(xv h H).objs.size=h.objs.size:=PySem.W.hideAll_size _ _
theorem Ja{h:Heap}{H:Hp}{b:Addr}{o:Obj}(e:h.get? b=some o)(n:H b=none):(xv h H).get? b=some o:=
 PySem.W.hideAll_get _ e λhm=>by
  have q:(H b).isSome=true:=(List.mem_filter.mp hm).2
  rw[n] at q;simp at q
theorem JR{h:Heap}{H:Hp}{b:Addr}{o:Obj}(e:(xv h H).get? b=some o):h.get? b=some o/\H b=none:=by
 have e':h.get? b=some o:=PySem.W.of_hideAll (trk h H) e
 refine⟨e',?_⟩
 cases q:H b with
 |none=>rfl
 |some x=>
  have hm:b∈trk h H:=List.mem_filter.mpr ⟨List.mem_range.mpr (Heap.lt_size e'),by simp[q]⟩
  have z:(xv h H).get? b=none:=PySem.W.hideAll_none (trk h H) hm
  rw[z] at e;cases e
noncomputable def K3(g h:Heap)(L:Addr):List (Addr×Obj):=(List.range h.objs.size).filterMap λa=>if a=L\/(g.get? a).isSome=true then none else (h.get? a).map λo=>(a,o)
noncomputable def rest (g h:Heap)(L d:Addr):List (Addr×Obj):=(K3 g h L).filter λp=>decide (p.1≠d)
end L2
namespace L2
open PySem PySem.Spec PyProof.Rows
structure Mod(K:PySem.W.Frag)(mg:Str->Option Value)(base:Heap):Prop where
 kin:K.In base
 glob:base.Ns mainGlobals mg
 blt:∃mb,base.Ns builtinsNs mb/\∀x:Str,x≠"__name__"->mb x=bootBuiltins x
 nolimit:base.NoLimit
structure Cx where
 prog:Program
 w:World
 K:PySem.W.Frag
 mg:Str->Option Value
 base:Heap
 A:Around
 N:List Str
 s₀:Shared
 H₀:Hp
 env:Env
 outer:List Env
 stack:List Env
 ex:List Addr
 fn:Str->Bool
 calm:Bool
 pn:List (Addr×Obj)
 xe:Value->Shared->Prop
noncomputable def frs(l:List Env):List Addr:=l.filterMap (·.frame)
noncomputable abbrev Cx.fs(X:Cx):List Addr:=frs X.outer
noncomputable def Vis(sc:Scope)(x:Str):Prop:=sc.names.lookup x=some .local\/sc.names.lookup x=some .cell\/sc.names.lookup x=some .free
noncomputable def Loc(sc:Scope)(x:Str):Prop:=sc.names.lookup x=some .local\/sc.names.lookup x=some .cell
noncomputable def Look(env:Env)(h:Heap)(m:Str->Option Value)(x:Str)(u:Value):Prop:=
 (env.kindOf x=some .local/\m x=some u)\/((env.kindOf x=some .cell\/env.kindOf x=some .free)/\∃c,env.cells.lookup x=some c/\h.IsCell c (some u))
structure Cx.Ok(X:Cx):Prop where
 mod:Mod X.K X.mg X.base
 kind:X.env.scope.kind=.function
 glob:X.env.globals=mainGlobals
 blt:X.env.builtins=builtinsNs
 above:X.s₀.heap.objs.size<=X.env.locals
 inj:∀x y c,X.env.cells.lookup x=some c->X.env.cells.lookup y=some c->x=y
 has:∀x,(X.env.kindOf x=some .cell\/X.env.kindOf x=some .free)->∃c,X.env.cells.lookup x=some c
 cab:∀x c,X.fn x=true->X.env.cells.lookup x=some c->X.s₀.heap.objs.size<=c
 hd:X.calm=true->X.A.handled=none
 frames:X.A.frames=some X.stack
 stk:X.stack=X.outer\/(X.stack=X.env::X.outer/\X.env.frame=some X.env.locals)
 exf:∀b∈X.ex,b≠X.env.locals/\∀x c,X.env.cells.lookup x=some c->c≠b
 bs:∀b o,X.base.get? b=some o->X.s₀.heap.get? b=some o/\X.H₀ b=none
 bsz:X.base.objs.size<=X.s₀.heap.objs.size
 noex:∀b o,X.base.get? b=some o->b∉X.ex
 exfs:∀b∈X.ex,b∉X.fs
 funs:X.s₀.heap.FunFrames X.base X.outer
 frf:∀b∈X.fs,X.H₀ b=none
structure Inv(X:Cx)(pins:List (Addr×Obj))(σ:List (Option V))(H:Hp)(s:Shared):Prop where
 ok:X.Ok
 os:s.os=X.s₀.os
 bare:AllBare s.gens
 base:Un X.fs X.ex X.H₀ H X.s₀.heap s.heap
 loc:∃m,s.heap.Ns X.env.locals m/\∀(i:Nat) (x:Str) (v:V),X.N[i]?=some x->σ[i]?=some (some v)->Vis X.env.scope x->∃u,RelV v u/\Look X.env s.heap m x u
 cell:∀x c,X.env.cells.lookup x=some c->∃v,s.heap.IsCell c v
 free:H X.env.locals=none
 freeC:∀x c,X.env.cells.lookup x=some c->H c=none\/(X.fn x=false/\∃o u,H c=some (.frz o u))
 pin:∀p∈X.pn++pins,s.heap.get? p.1=some p.2/\H p.1=none/\p.1≠X.env.locals/\p.1∉X.fs/\∀v,p.2.data≠.cell v
 hok:HOk X.prog X.w H s.heap
 len:σ.length=X.N.length
section
variable {X:Cx}{pins:List (Addr×Obj)}{σ:List (Option V)}{H H':Hp}{s:Shared}{h':Heap}
theorem Cx.Ok.nofr(ok:X.Ok){b:Addr}{o:Obj}(e:X.base.get? b=some o):b∉X.fs:=λhb=>by
 have:=(ok.funs.mem hb).1
 rw[e] at this;cases this
theorem Inv.bs(I:Inv X pins σ H s):∀b o,X.base.get? b=some o->s.heap.get? b=some o/\H b=none:=λb o e=>
 ⟨I.base.keep b o (I.ok.bs b o e).1 (I.ok.bs b o e).2 (I.ok.nofr e) (I.ok.noex b o e),I.base.free b o (I.ok.bs b o e).1 (I.ok.bs b o e).2 (I.ok.noex b o e)⟩
theorem Inv.bk(I:Inv X pins σ H s):∀b o,X.base.get? b=some o->s.heap.get? b=some o:=λb o e=>(I.bs b o e).1
theorem Inv.mod(I:Inv X pins σ H s):Mod X.K X.mg X.base:=I.ok.mod
theorem Inv.kIn(I:Inv X pins σ H s):X.K.In s.heap:=I.ok.mod.kin.keeps I.bk
theorem Inv.lt(I:Inv X pins σ H s):X.env.locals<s.heap.objs.size:=let ⟨_,hn,_⟩:=I.loc;hn.lt
theorem Inv.sz(I:Inv X pins σ H s):X.s₀.heap.objs.size<=s.heap.objs.size:=Nat.le_trans I.ok.above (Nat.le_of_lt I.lt)
theorem Inv.nofs(I:Inv X pins σ H s){a:Addr}(h:s.heap.objs.size<=a):a∉X.fs:=λhb=>by
 obtain⟨_,o,ho,_⟩:=I.ok.funs.mem hb
 exact absurd (Nat.lt_of_lt_of_le (Heap.lt_size ho) (Nat.le_trans I.sz h)) (Nat.lt_irrefl _)
theorem Inv.cne(I:Inv X pins σ H s):∀x c,X.env.cells.lookup x=some c->c≠X.env.locals:=λx c e z=>by
 obtain⟨v,o,ho,hd⟩:=I.cell x c e
 obtain⟨m,⟨o',es,ep,ho',hd',_⟩,_⟩:=I.loc
 rw[z,ho'] at ho;cases ho;rw[hd'] at hd;cases hd
theorem Inv.funs(I:Inv X pins σ H s):s.heap.FunFrames X.base X.outer:=by
 have all:∀(l:List Env),(∀b∈frs l,b∈X.fs)->X.s₀.heap.FunFrames X.base l->s.heap.FunFrames X.base l:=by
  intro l
  induction l with
  |nil=>intro _ _;trivial
  |cons env r ih=>
   intro hs hl
   obtain⟨hk,⟨L,o,hf,hn,ho,hd⟩,hr⟩:=hl
   have hL:L∈X.fs:=hs L (by unfold frs;rw[List.filterMap_cons,hf];exact List.mem_cons_self)
   obtain⟨sl,e⟩:=I.base.slot L o ho (I.ok.frf L hL) hL λz=>I.ok.exfs L z hL
   exact⟨hk,⟨L,_,hf,hn,e,hd⟩,ih (λb hb=>hs b (by unfold frs;rw[List.filterMap_cons,hf];exact List.mem_cons_of_mem _ hb)) hr⟩
 exact all X.outer (λ_ hb=>hb) I.ok.funs
theorem Inv.stack(I:Inv X pins σ H s):s.heap.FunFrames X.base X.stack:=by
 rcases I.ok.stk with e|⟨e,hf⟩
 ·rw[e];exact I.funs
 ·rw[e]
  obtain⟨m,hn,_⟩:=I.loc
  refine .cons (by rw[I.ok.kind];decide) hf hn ?_ I.funs
  exact Heap.get?_none_of_le (Nat.le_trans I.ok.bsz I.ok.above)
theorem Inv.stkSub(I:Inv X pins σ H s):∀b∈frs X.stack,b∈X.env.locals::X.fs:=λb hb=>by
 rcases I.ok.stk with e|⟨e,hf⟩
 ·rw[e] at hb;exact List.mem_cons_of_mem _ hb
 ·rw[e] at hb
  unfold frs at hb
  rw[List.filterMap_cons,hf] at hb
  exact hb
theorem Inv.stkFree(I:Inv X pins σ H s):∀b∈frs X.stack,H b=none:=λb hb=>by
 rcases List.mem_cons.mp (I.stkSub b hb) with e|hb
 ·rw[e];exact I.free
 ·obtain⟨_,o,ho,_⟩:=I.ok.funs.mem hb
  exact I.base.free b o ho (I.ok.frf b hb) λz=>I.ok.exfs b z hb
theorem Inv.step{g':Array GenState}{t':Nat}{d':Drawn}{ch:List Addr}(I:Inv X pins σ H s)
  (hch:∀b∈ch,(b∈X.ex\/X.s₀.heap.objs.size<=b)/\b≠X.env.locals/\(∀x c,X.env.cells.lookup x=some c->c≠b)/\∀p∈X.pn++pins,p.1≠b)
  (keep:∀b o,b≠X.env.locals->b∉X.fs->b∉ch->s.heap.get? b=some o->H b=none->h'.get? b=some o)
  (slot:∀b o,b≠X.env.locals->b∈X.fs->b∉ch->s.heap.get? b=some o->H b=none->∃sl,h'.get? b=some {o with slots:=sl}) (free:∀b o,b∉ch->s.heap.get? b=some o->H b=none->H' b=none)
  (there:∀b o,b∉ch->s.heap.get? b=some o->∃o',h'.get? b=some o')
  (tups:∀b xs,H b=some (.tup xs)->H' b=some (.tup xs)) (frzs:∀b o u,H b=some (.frz o u)->H' b=some (.frz o u)) (tbls:∀b ps,H b=some (.tbl ps)->∃more,H' b=some (.tbl (ps++more)))
  (ns:∀m,s.heap.Ns X.env.locals m->h'.Ns X.env.locals m) (hok:HOk X.prog X.w H' h') (hg:AllBare g') :
  Inv X pins σ H' {s with heap:=h',gens:=g',drawn:=d',toks:=t'}:=by
 have neL:∀b o,X.s₀.heap.get? b=some o->b≠X.env.locals:=λb o e=>Nat.ne_of_lt (Nat.lt_of_lt_of_le (Heap.lt_size e) I.ok.above)
 have neC:∀b o,X.s₀.heap.get? b=some o->b∉X.ex->b∉ch:=λb o e hx hb=>by
  rcases (hch b hb).1 with z|z
  ·exact hx z
  ·exact absurd (Nat.lt_of_lt_of_le (Heap.lt_size e) z) (Nat.lt_irrefl _)
 have cellK:∀x c,X.env.cells.lookup x=some c->∀v,s.heap.IsCell c v->h'.IsCell c v:=λx c e v ⟨o,ho,hd⟩=>by
  have nch:c∉ch:=λz=>(hch c z).2.2.1 x c e rfl
  rcases I.freeC x c e with f|⟨_,ob,u,f⟩
  ·by_cases hc:c∈X.fs
   ·obtain⟨sl,q⟩:=slot c o (I.cne x c e) hc nch ho f
    exact⟨_,q,hd⟩
   ·exact⟨o,keep c o (I.cne x c e) hc nch ho f,hd⟩
  ·have h1:=(I.hok c _ f).1
   rw[ho] at h1;cases h1
   exact⟨o,(hok c _ (frzs c _ u f)).1,hd⟩
 refine⟨I.ok,I.os,hg,⟨λb o e n hb hx=>?_,λb o e n hb hx=>?_,λb o e n hx=>?_,λb o e hx=>?_,λb xs e=>tups b xs (I.base.tups b xs e),λb o xs e=>frzs b o xs (I.base.frzs b o xs e),λb ps e=>?_⟩,?_,λx c e=>?_,?_,λx c e=>?_,λp hp=>?_,hok,I.len⟩
 ·exact keep b o (neL b o e) hb (neC b o e hx) (I.base.keep b o e n hb hx) (I.base.free b o e n hx)
 ·obtain⟨sl,e1⟩:=I.base.slot b o e n hb hx
  obtain⟨sl',e2⟩:=slot b _ (neL b o e) hb (neC b o e hx) e1 (I.base.free b o e n hx)
  exact⟨sl',e2⟩
 ·obtain⟨o',e1⟩:=I.base.there b o e hx
  exact free b o' (neC b o e hx) e1 (I.base.free b o e n hx)
 ·obtain⟨o',e1⟩:=I.base.there b o e hx
  exact there b o' (neC b o e hx) e1
 ·obtain⟨m1,e1⟩:=I.base.tbls b ps e
  obtain⟨m2,e2⟩:=tbls b _ e1
  exact⟨m1++m2,by rw[e2,Array.append_assoc]⟩
 ·obtain⟨m,hn,hl⟩:=I.loc
  refine⟨m,ns m hn,λi x v e1 e2 e3=>?_⟩
  obtain⟨u,r,l⟩:=hl i x v e1 e2 e3
  refine⟨u,r,?_⟩
  rcases l with l|⟨k,c,e,z⟩
  ·exact .inl l
  ·exact .inr ⟨k,c,e,cellK x c e _ z⟩
 ·obtain⟨v,z⟩:=I.cell x c e
  exact⟨v,cellK x c e v z⟩
 ·obtain⟨m,⟨o,_,_,ho,_⟩,_⟩:=I.loc
  exact free _ o (λz=>(hch _ z).2.1 rfl) ho I.free
 ·obtain⟨v,o,ho,hd⟩:=I.cell x c e
  exact (I.freeC x c e).imp (free c o (λz=>(hch c z).2.2.1 x c e rfl) ho) λ⟨n,ob,u,f⟩=>⟨n,ob,u,frzs c ob u f⟩
 ·obtain⟨e,n,ne,nf,d⟩:=I.pin p hp
  have nch:p.1∉ch:=λz=>(hch p.1 z).2.2.2 p hp rfl
  exact⟨keep p.1 p.2 ne nf nch e n,free p.1 p.2 nch e n,ne,nf,d⟩
theorem Inv.un{t':Nat}(I:Inv X pins σ H s)(u:Un X.fs [] H H' s.heap h')(hok:HOk X.prog X.w H' h'):Inv X pins σ H' {s with heap:=h',toks:=t'}:=by
 obtain⟨m,⟨o,es,ep,ho,r⟩,_⟩:=id I.loc
 obtain⟨sl,hL⟩:=u.any ho I.free (by simp)
 exact I.step (g':=s.gens) (d':=s.drawn) (ch:=[]) (λ_ z=>nomatch z) (λb o _ hb _ e n=>u.keep b o e n hb (by simp)) (λb o _ hb _ e n=>u.slot b o e n hb (by simp)) (λb o _ e n=>u.free b o e n (by simp)) (λb o _ e=>u.there b o e (by simp)) u.tups u.frzs u.tbls (λm' hm=>by
  obtain⟨o',es',ep',ho',r'⟩:=hm
  rw[ho] at ho';cases ho'
  exact⟨_,es',ep',hL,r'⟩) hok I.bare
theorem Inv.call{g':Array GenState}{t':Nat}{d':Drawn}{ch:List Addr}(I:Inv X pins σ H s)(u:Un (frs X.stack) ch H H' s.heap h')(hok:HOk X.prog X.w H' h')(hg:AllBare g')
  (hch:∀b∈ch,(b∈X.ex\/X.s₀.heap.objs.size<=b)/\b≠X.env.locals/\(∀x c,X.env.cells.lookup x=some c->c≠b)/\∀p∈X.pn++pins,p.1≠b) :
  Inv X pins σ H' {s with heap:=h',gens:=g',drawn:=d',toks:=t'}:=by
 obtain⟨m,⟨o,es,ep,ho,r⟩,_⟩:=id I.loc
 obtain⟨sl,hL⟩:=u.any ho I.free λz=>(hch _ z).2.1 rfl
 exact I.step (ch:=ch) hch (λb o hL hb hc e n=>u.keep b o e n (λz=>(List.mem_cons.mp (I.stkSub b z)).elim hL hb) hc) (λb o _ _ hc e n=>u.any e n hc) (λb o hc e n=>u.free b o e n hc) (λb o hc e=>u.there b o e hc) u.tups u.frzs u.tbls (λm' hm=>by
  obtain⟨o',es',ep',ho',r'⟩:=hm
  rw[ho] at ho';cases ho'
  exact⟨_,es',ep',hL,r'⟩) hok hg
theorem Inv.turned{t':Nat}{it:Addr}(I:Inv X pins σ H s)(k:∀b o,b≠it->s.heap.get? b=some o->h'.get? b=some o)(hn:H it=none)(hL:it≠X.env.locals)
  (h1:it∈X.ex\/X.s₀.heap.objs.size<=it) (h2:∀x c,X.env.cells.lookup x=some c->c≠it) (h3:∀p∈X.pn++pins,p.1≠it):Inv X pins σ H {s with heap:=h',toks:=t'}:=by
 have nit:∀b u,H b=some u->b≠it:=λb u e z=>by rw[z,hn] at e;cases e
 refine I.step (g':=s.gens) (d':=s.drawn) (ch:=[it]) (λb hb=>?_) (λb o _ _ hc e _=>k b o (λz=>hc (by simp[z])) e) (λb o _ _ hc e _=>⟨o.slots,k b o (λz=>hc (by simp[z])) e⟩) (λ_ _ _ _ n=>n)
  (λb o hc e=>⟨o,k b o (λz=>hc (by simp[z])) e⟩) (λ_ _ e=>e) (λ_ _ _ e=>e) (λb ps e=>⟨#[],by rw[e];simp⟩) (λm hm=>?_) (λb u e=>?_) I.bare
 ·have e:b=it:=by simpa using hb
  subst e
  exact⟨h1,hL,h2,h3⟩
 ·obtain⟨o,es,ep,ho,r⟩:=hm
  exact⟨o,es,ep,k _ o (Ne.symm hL) ho,r⟩
 ·refine (I.hok b u e).stay (λc v hc q=>k c v ?_ q) (λ_ q=>q) λ_ _ q=>q
  rcases hc with z|z
  ·rw[z];exact nit b u e
  ·exact nit c _ z
theorem Inv.tok(I:Inv X pins σ H s)(t:Nat):Inv X pins σ H {s with toks:=t}:=I.un (h':=s.heap) (t':=t) Un.refl I.hok
theorem Inv.kept{t':Nat}(I:Inv X pins σ H s)(k:∀b u,s.heap.get? b=some u->h'.get? b=some u):Inv X pins σ H {s with heap:=h',toks:=t'}:=I.un (Un.kept k) (I.hok.kept k)
theorem Inv.laid{a:Addr}{o:HO}{t':Nat}(I:Inv X pins σ H s)(k:∀b u,s.heap.get? b=some u->h'.get? b=some u)(hp:s.heap.objs.size<=a)(new:ObjOk X.prog X.w (upd H a o) h' a o) :
  Inv X pins σ (upd H a o) {s with heap:=h',toks:=t'}:=I.un (Un.laid k hp (I.hok.fresh hp)) (I.hok.laid k hp new)
theorem Inv.write{x e:Addr}{o:HO}{t':Nat}(I:Inv X pins σ H s)(mu:Mut (H x))(he:e=x\/H e=some (.own x))(k:∀b u,b≠e->s.heap.get? b=some u->h'.get? b=some u)(heo:∃u,h'.get? e=some u)
  (new:ObjOk X.prog X.w (upd H x o) h' x o):Inv X pins σ (upd H x o) {s with heap:=h',toks:=t'}:=I.un (Un.write mu he k heo) (I.hok.write mu he k heo new)
theorem Inv.pins_of{pins':List (Addr×Obj)}(I:Inv X pins σ H s)(h:∀p∈pins',s.heap.get? p.1=some p.2/\H p.1=none/\p.1≠X.env.locals/\p.1∉X.fs/\∀v,p.2.data≠.cell v):Inv X pins' σ H s:=
 ⟨I.ok,I.os,I.bare,I.base,I.loc,I.cell,I.free,I.freeC,λp hp=>(List.mem_append.mp hp).elim (λz=>I.pin p (List.mem_append_left _ z)) (h p),I.hok,I.len⟩
theorem vp{N:List Str}(hN:N.Nodup){i j:Nat}{x:Str}(a:N[i]?=some x)(b:N[j]?=some x):i=j:=by
 obtain⟨h1,e1⟩:=List.getElem?_eq_some_iff.mp a
 obtain⟨h2,e2⟩:=List.getElem?_eq_some_iff.mp b
 exact (List.getElem_inj hN).mp (e1.trans e2.symm)
theorem QD{M:Model}{A:Around}{E:Value->Shared->Prop}{i:Nat}{x:Str}{v:V}{u:Value}{Q:Unit->Shared->Prop}(I:Inv X pins σ H s)(hN:X.N.Nodup)(hi:X.N[i]?=some x)(hx:Loc X.env.scope x)(r:RelV v u)
  (h:∀s',Inv X pins (σ.set i (some v)) H s'->(∃a,Heap.SameBut a s.heap s'.heap/\(a=X.env.locals\/X.env.cells.lookup x=some a))->Q () s') (hf:X.fn x=true\/X.env.scope.names.lookup x=some .local:=by first|exact .inl rfl|exact .inr rfl|assumption):wpAny M A (storeName X.env x u) Q E s:=by
 obtain⟨m,hn,hl⟩:=id I.loc
 have hcls:(X.env.scope.kind == .class || (X.env.scope.kind == .module&&X.env.locals != X.env.globals))=false:=by rw[I.ok.kind];rfl
 have hiσ:i<σ.length:=by rw[I.len];exact (List.getElem?_eq_some_iff.mp hi).1
 have cne:=I.cne
 have tracked:∀{a:Addr} {h':Heap},(∃o,s.heap.get? a=some o/\H a=none)->Heap.SameBut a s.heap h'->HOk X.prog X.w H h':=λ{a h'} ha hs b ob e=>by
  obtain⟨_,_,hfree⟩:=ha
  refine (I.hok b ob e).stay (λc w' hc q=>(hs.2 c ?_).trans q) (λ_ q=>q) λ_ _ q=>q
  rintro rfl
  rcases hc with rfl|hc
  ·rw[hfree] at e;cases e
  ·rw[hfree] at hc;cases hc
 rcases hx with hk|hk
 ·refine wpAny_storeName_local hk hn (λh' hn' hs=>?_) hcls
  obtain⟨oL,_,_,hoL,_⟩:=id hn
  refine h _ ⟨I.ok,I.os,I.bare,⟨λb o e n hb hx=>?_,λb o e n hb hx=>?_,I.base.free,λb o e hx=>?_,I.base.tups,I.base.frzs,I.base.tbls⟩,⟨_,hn',λj y v' e1 e2 e3=>?_⟩,λy c e=>?_,I.free,I.freeC,λp hp=>?_,tracked ⟨oL,hoL,I.free⟩ hs,by simpa using I.len⟩ ⟨_,hs,.inl rfl⟩
  ·exact (hs.2 b (Nat.ne_of_lt (Nat.lt_of_lt_of_le (Heap.lt_size e) I.ok.above))).trans (I.base.keep b o e n hb hx)
  ·obtain⟨sl,e1⟩:=I.base.slot b o e n hb hx
   exact⟨sl,(hs.2 b (Nat.ne_of_lt (Nat.lt_of_lt_of_le (Heap.lt_size e) I.ok.above))).trans e1⟩
  ·obtain⟨o',e1⟩:=I.base.there b o e hx
   exact⟨o',(hs.2 b (Nat.ne_of_lt (Nat.lt_of_lt_of_le (Heap.lt_size e) I.ok.above))).trans e1⟩
  ·by_cases hj:j=i
   ·subst hj
    rw[hi] at e1;cases e1
    rw[List.getElem?_set_self hiσ] at e2
    cases e2
    exact⟨u,r,.inl ⟨hk,by simp⟩⟩
   ·rw[List.getElem?_set_ne (Ne.symm hj)] at e2
    obtain⟨u',r',q⟩:=hl j y v' e1 e2 e3
    refine⟨u',r',?_⟩
    rcases q with⟨k,e⟩|⟨k,c,e,z⟩
    ·refine .inl ⟨k,?_⟩
     have:y≠x:=λe=>hj (vp hN e1 (e▸hi))
     simp[this,e]
    ·exact .inr ⟨k,c,e,z.sameBut hs (cne y c e)⟩
  ·obtain⟨w',z⟩:=I.cell y c e
   exact⟨w',z.sameBut hs (cne y c e)⟩
  ·obtain⟨e,n,ne,nf,d⟩:=I.pin p hp
   exact⟨(hs.2 p.1 ne).trans e,n,ne,nf,d⟩
 ·have hfn:X.fn x=true:=by
   rcases hf with z|z
   ·exact z
   ·rw[z] at hk;cases hk
  obtain⟨c,hc⟩:=I.ok.has x (.inl hk)
  obtain⟨w',z⟩:=I.cell x c hc
  refine wpAny_storeName_cell I.ok.kind hk hc z (λh' hc' hs=>?_)
  obtain⟨oc,hoc,hocd⟩:=id z
  refine h {s with heap:=h'} ⟨I.ok,I.os,I.bare,⟨λb o e n hb hx=>?_,λb o e n hb hx=>?_,I.base.free,λb o e hx=>?_,I.base.tups,I.base.frzs,I.base.tbls⟩,⟨m,hn.sameBut hs (Ne.symm (cne x c hc)),λj y v' e1 e2 e3=>?_⟩,λy c' e=>?_,I.free,I.freeC,λp hp=>?_,tracked ⟨oc,hoc,(I.freeC x c hc).resolve_right λz=>by rw[hfn] at z;cases z.1⟩ hs,by simpa using I.len⟩ ⟨c,hs,.inr hc⟩
  ·exact (hs.2 b (Nat.ne_of_lt (Nat.lt_of_lt_of_le (Heap.lt_size e) (I.ok.cab x c hfn hc)))).trans (I.base.keep b o e n hb hx)
  ·obtain⟨sl,e1⟩:=I.base.slot b o e n hb hx
   exact⟨sl,(hs.2 b (Nat.ne_of_lt (Nat.lt_of_lt_of_le (Heap.lt_size e) (I.ok.cab x c hfn hc)))).trans e1⟩
  ·obtain⟨o',e1⟩:=I.base.there b o e hx
   exact⟨o',(hs.2 b (Nat.ne_of_lt (Nat.lt_of_lt_of_le (Heap.lt_size e) (I.ok.cab x c hfn hc)))).trans e1⟩
  ·by_cases hj:j=i
   ·subst hj
    rw[hi] at e1;cases e1
    rw[List.getElem?_set_self hiσ] at e2
    cases e2
    exact⟨u,r,.inr ⟨.inl hk,c,hc,hc'⟩⟩
   ·rw[List.getElem?_set_ne (Ne.symm hj)] at e2
    obtain⟨u',r',q⟩:=hl j y v' e1 e2 e3
    refine⟨u',r',?_⟩
    rcases q with q|⟨k,c',e,z'⟩
    ·exact .inl q
    ·refine .inr ⟨k,c',e,z'.sameBut hs ?_⟩
     rintro rfl
     exact hj (vp hN e1 (I.ok.inj _ _ _ e hc▸hi))
  ·by_cases hcc:c'=c
   ·subst hcc;exact⟨_,hc'⟩
   ·obtain⟨w2,z2⟩:=I.cell y c' e
    exact⟨w2,z2.sameBut hs hcc⟩
  ·obtain⟨e,n,ne,nf,d⟩:=I.pin p hp
   refine⟨(hs.2 p.1 ?_).trans e,n,ne,nf,d⟩
   intro q
   rw[q,hoc] at e
   have q':oc=p.2:=Option.some.inj e
   exact d w' (by rw[←q'];exact hocd)
theorem j_{M:Model}{A:Around}{E:Value->Shared->Prop}{i:Nat}{x:Str}{v:V}{u:Value}{Q:Unit->Shared->Prop}(I:Inv X pins σ H s)(hN:X.N.Nodup)(hi:X.N[i]?=some x)(hx:Loc X.env.scope x)(r:RelV v u)
  (h:∀s',Inv X pins (σ.set i (some v)) H s'->Q () s') (hf:X.fn x=true\/X.env.scope.names.lookup x=some .local:=by first|exact .inl rfl|exact .inr rfl|assumption):wpAny M A (storeName X.env x u) Q E s:=
 QD I hN hi hx r (λs' I' _=>h s' I') hf
theorem Inv.call'{s':Shared}{ch:List Addr}(I:Inv X pins σ H s)(ho:s'.os=s.os)(u:Un (frs X.stack) ch H H' s.heap s'.heap)(hok:HOk X.prog X.w H' s'.heap)(hg:AllBare s'.gens)
  (hch:∀b∈ch,(b∈X.ex\/X.s₀.heap.objs.size<=b)/\b≠X.env.locals/\(∀x c,X.env.cells.lookup x=some c->c≠b)/\∀p∈X.pn++pins,p.1≠b):Inv X pins σ H' s':=by
 obtain⟨h',g',d',t',o'⟩:=s'
 have e:o'=s.os:=ho
 subst e
 exact I.call (g':=g') (t':=t') (d':=d') u hok hg hch
end
noncomputable abbrev XK:=Value->Option Addr->Hp->Prop
noncomputable abbrev St:=List (Option V)
noncomputable abbrev VK:=V->Hp->Prop
noncomputable abbrev TE:=St->Hp->VK->Prop
noncomputable abbrev TT:=St->Hp->(Bool->Hp->Prop)->Prop
noncomputable abbrev TA:=St->Hp->(List V->Hp->Prop)->Prop
structure Ends where
 nx:St->Hp->Prop
 rt:VK
 bk:St->Hp->Prop:=λ_ _=>False
 ct:St->Hp->Prop:=λ_ _=>False
noncomputable abbrev TS:=Ends->St->Hp->Prop
inductive EP(X:Cx)(pins:List (Addr×Obj))(σ:St)(Q:VK)(u:Value)(s':Shared):Prop where
 |mk (v:V) (H':Hp) (i:Inv X pins σ H' s') (r:RelV v u) (q:Q v H')
inductive TP(X:Cx)(pins:List (Addr×Obj))(σ:St)(Q:Bool->Hp->Prop)(b:Bool)(s':Shared):Prop where
 |mk (H':Hp) (i:Inv X pins σ H' s') (q:Q b H')
inductive AP(X:Cx)(pins:List (Addr×Obj))(σ:St)(Q:List V->Hp->Prop)(us:List Value)(s':Shared):Prop where
 |mk (vs:List V) (H':Hp) (i:Inv X pins σ H' s') (r:Vals vs us) (q:Q vs H')
noncomputable def SP (X:Cx)(pins:List (Addr×Obj))(D:Ends)(f:Flow)(s':Shared):Prop:=
 match f with
 |.next=>∃σ' H',Inv X pins σ' H' s'/\D.nx σ' H'
 |.brk=>∃σ' H',Inv X pins σ' H' s'/\D.bk σ' H'
 |.cont=>∃σ' H',Inv X pins σ' H' s'/\D.ct σ' H'
 |.ret u=>∃v σ' H',Inv X pins σ' H' s'/\RelV v u/\D.rt v H'
noncomputable def PE (X:Cx)(e:Expr)(t:TE):Prop:=
 ∀(pins:List (Addr×Obj)) (s:Shared) (σ:St) (H:Hp) (Q:VK),Inv X pins σ H s->t σ H Q->wpAny (model X.prog X.w) X.A (eval e X.env) (EP X pins σ Q) X.xe s
noncomputable def PT (X:Cx)(e:Expr)(t:TT):Prop:=
 ∀(pins:List (Addr×Obj)) (s:Shared) (σ:St) (H:Hp) (Q:Bool->Hp->Prop),Inv X pins σ H s->t σ H Q->wpAny (model X.prog X.w) X.A (isTrue e X.env (eval e X.env)) (TP X pins σ Q) X.xe s
noncomputable def PW (X:Cx)(e:Expr)(t:TT):Prop:=
 ∀(whole:Sem Value) (pins:List (Addr×Obj)) (s:Shared) (σ:St) (H:Hp) (Q:Bool->Hp->Prop),Inv X pins σ H s->t σ H Q->wpAny (model X.prog X.w) X.A (isTrue e X.env whole) (TP X pins σ Q) X.xe s
theorem PW.pt{X:Cx}{e:Expr}{t:TT}(h:PW X e t):PT X e t:=h _
noncomputable def PA (X:Cx)(es:List Expr)(t:TA):Prop:=
 ∀(pos:Pos) (pins:List (Addr×Obj)) (s:Shared) (σ:St) (H:Hp) (Q:List V->Hp->Prop),Inv X pins σ H s->t σ H Q->wpAny (model X.prog X.w) X.A (spliced (backTo pos (starEach es X.env))) (AP X pins σ Q) X.xe s
noncomputable def PS (X:Cx)(st:Stmt)(t:TS):Prop:=
 ∀(pins:List (Addr×Obj)) (s:Shared) (σ:St) (H:Hp) (D:Ends),Inv X pins σ H s->t D σ H->wpAny (model X.prog X.w) X.A (exec st X.env) (SP X pins D) X.xe s
noncomputable def PSs (X:Cx)(st:List Stmt)(t:TS):Prop:=
 ∀(pins:List (Addr×Obj)) (s:Shared) (σ:St) (H:Hp) (D:Ends),Inv X pins σ H s->t D σ H->wpAny (model X.prog X.w) X.A (execs st X.env) (SP X pins D) X.xe s
theorem thn{α:Type}{t:Sem α}{Q Q':α->Shared->Prop}{M:Model}{A:Around}{E:Value->Shared->Prop}{s:Shared}(h:wpAny M A t Q E s)(hQ:∀a s,Q a s->Q' a s):wpAny M A t Q' E s:=wpAny_mono h hQ λ_ _ x=>x
end L2
namespace L2
open PySem PySem.Spec PyProof.Rows
section
variable {X:Cx}
noncomputable def z25 (i:Nat):TE:=λσ H Q=>∃v,σ[i]?=some (some v)/\Q v H
noncomputable def tC (v:V):TE:=λ_ H Q=>Q v H
theorem UC {i:Nat} {x:Str} {pos:Pos} (hN:X.N[i]?=some x) (hv:Vis X.env.scope x) (hd:(x == ("__debug__":Str))=false:=by decide) (hcd:(x == ("__classdict__":Str))=false:=by decide):PE X (.Name x pos) (z25 i):=by
 intro pins s σ H Q I h
 obtain⟨v,e,h⟩:=h
 obtain⟨m,hn,hl⟩:=I.loc
 obtain⟨u,r,l⟩:=hl i x v hN e hv
 have fin:EP X pins σ Q u s:=⟨v,H,I,r,h⟩
 rcases l with⟨hk,hm⟩|⟨hk,c,hc,hcell⟩
 ·exact wpAny_Name (wpAny_loadName_local I.ok.kind hk hn hm fin) hd
 ·rcases hk with hk|hk
  ·exact wpAny_Name (wpAny_loadName_cell I.ok.kind hk hc hcell fin) hd
  ·exact wpAny_Name (wpAny_loadName_free I.ok.kind hk hc hcell fin hcd) hd
theorem U4{i j pos}:PE X (.Constant (.int i) j pos) (tC (.int i)):=λ_ _ _ H _ I h=>wpAny_Constant_int ⟨.int i,H,I.tok _,⟨_,rfl⟩,h⟩
theorem z1s{b j pos}:PE X (.Constant (.bool b) j pos) (tC (.bl b)):=λ_ _ _ H _ I h=>Constant_bool ⟨.bl b,H,I,rfl,h⟩
theorem Yg{j pos}:PE X (.Constant .none j pos) (tC .non):=λ_ _ _ H _ I h=>Constant_none ⟨.non,H,I,rfl,h⟩
theorem z08{x j pos}:PE X (.Constant (.str x) j pos) (tC (.str x)):=λ_ _ _ H _ I h=>Calls.Constant_str ⟨.str x,H,I.tok _,⟨_,rfl⟩,h⟩
noncomputable def Gl(X:Cx)(x:Str):Prop:=X.env.kindOf x=some .globalImplicit
theorem wF{E:Value->Shared->Prop}{pins:List (Addr×Obj)}{s:Shared}{σ:St}{H:Hp}{x:Str}{u:Value}{pos:Pos}{Q:Value->Shared->Prop}(I:Inv X pins σ H s)(hg:Gl X x)(hm:X.mg x=some u)(h:Q u s)
  (hd:(x == ("__debug__":Str))=false:=by decide):wpAny (model X.prog X.w) X.A (eval (.Name x pos) X.env) Q E s:=
 Calls.Name_function_global I.ok.kind hg (Calls.loadGlobal_global (by rw[I.ok.glob];exact I.mod.glob.keeps I.bk) hm h) hd
theorem we{E:Value->Shared->Prop}{pins:List (Addr×Obj)}{s:Shared}{σ:St}{H:Hp}{x:Str}{u:Value}{pos:Pos}{Q:Value->Shared->Prop}(I:Inv X pins σ H s)(hg:Gl X x)(hm:X.mg x=none)(hv:bootBuiltins x=some u)(h:Q u s)
  (hn:x≠"__name__":=by decide) (hd:(x == ("__debug__":Str))=false:=by decide):wpAny (model X.prog X.w) X.A (eval (.Name x pos) X.env) Q E s:=by
 obtain⟨mb,h1,h2⟩:=I.mod.blt
 exact Calls.Name_function_global I.ok.kind hg (Calls.loadGlobal_builtin (by rw[I.ok.glob];exact I.mod.glob.keeps I.bk) hm (by rw[I.ok.blt];exact h1.keeps I.bk) ((h2 x hn).trans hv) h) hd
theorem Q8 {x:Str} {v:V} {u:Value} {pos:Pos} (hg:Gl X x) (hm:X.mg x=some u) (r:RelV v u) (hd:(x == ("__debug__":Str))=false:=by decide):PE X (.Name x pos) (tC v):=
 λ_ _ _ H _ I h=>wF I hg hm ⟨v,H,I,r,h⟩ hd
theorem Kh {x:Str} {v:V} {u:Value} {pos:Pos} (hg:Gl X x) (hm:X.mg x=none) (hv:bootBuiltins x=some u) (r:RelV v u) (hn:x≠"__name__":=by decide) (hd:(x == ("__debug__":Str))=false:=by decide):PE X (.Name x pos) (tC v):=
 λ_ _ _ H _ I h=>we I hg hm hv ⟨v,H,I,r,h⟩ hn hd
variable {a b:Expr}{ta tb:TE}{pos:Pos}
variable {tA tB':TT}{rest:List Expr}
noncomputable def vo (t u:TT):TT:=λσ H Q=>t σ H λc H1=>if c=true then u σ H1 Q else Q false H1
noncomputable def tOr (t u:TT):TT:=λσ H Q=>t σ H λc H1=>if c=true then Q true H1 else u σ H1 Q
noncomputable def wY (t:TT):TT:=λσ H Q=>t σ H λc H1=>Q (!c) H1
theorem X1(ha:PT X a tA):PW X (.BoolOp .And [a] pos) tA:=by
 intro wh pins s σ H Q I h
 refine isTrue_and (thn (ha pins s σ H Q I h) λc s1 e=>?_)
 cases c with
 |true=>exact isTrue_and_nil e
 |false=>exact e
theorem Yw(ha:PT X a tA):PW X (.BoolOp .Or [a] pos) tA:=by
 intro wh pins s σ H Q I h
 refine isTrue_or (thn (ha pins s σ H Q I h) λc s1 e=>?_)
 cases c with
 |false=>exact isTrue_or_nil e
 |true=>exact e
theorem U3(ha:PT X a tA)(hb:PW X (.BoolOp .And (b::rest) pos) tB'):PW X (.BoolOp .And (a::b::rest) pos) (vo tA tB'):=by
 intro wh pins s σ H Q I h
 refine isTrue_and (thn (ha pins s σ H _ I h) λc s1 ⟨H1,I1,q1⟩=>?_)
 cases c with
 |true=>exact hb wh pins s1 σ H1 Q I1 q1
 |false=>exact⟨H1,I1,q1⟩
theorem z13(ha:PT X a tA)(hb:PW X (.BoolOp .Or (b::rest) pos) tB'):PW X (.BoolOp .Or (a::b::rest) pos) (tOr tA tB'):=by
 intro wh pins s σ H Q I h
 refine isTrue_or (thn (ha pins s σ H _ I h) λc s1 ⟨H1,I1,q1⟩=>?_)
 cases c with
 |true=>exact⟨H1,I1,q1⟩
 |false=>exact hb wh pins s1 σ H1 Q I1 q1
theorem U2(ha:PT X a tA):PT X (.UnaryOp .Not a pos) (wY tA):=by
 intro pins s σ H Q I h
 exact isTrue_not (thn (ha pins s σ H (λc H1=>Q (!c) H1) I h) λc s' ⟨H',i,q⟩=>⟨H',i,q⟩)
theorem z02{op}{t:TE}(h:PE X a t):PE X (.BoolOp op [a] pos) t:=λpins s σ H Q I hw=>BoolOp_one (h pins s σ H Q I hw)
end
end L2
namespace L2
open PySem PySem.Spec PyProof.Rows
noncomputable def SqL (K:PySem.W.Frag)(H:Hp)(a:Addr)(xs:List V):Prop:=
 Rd H a (.lst xs)\/
  ∃(o:Obj) (its:Array Value) (n:Nat),K.lookup a=some o/\o.cls=.type "list"/\o.dict=none/\o.data=.seq its n/\its.size<=sizeLine/\Vals xs its.toList
noncomputable def SqT (K:PySem.W.Frag)(H:Hp)(a:Addr)(xs:List V):Prop:=
 Rd H a (.tup xs)\/
  ∃(o:Obj) (its:Array Value) (n:Nat),K.lookup a=some o/\o.cls=.type "tuple"/\o.data=.seq its n/\its.size<=sizeLine/\Vals xs its.toList
noncomputable def z26:Value->Option V
 |.none=>some .non
 |.bool b=>some (.bl b)
 |.int i _=>some (.int i)
 |.str x _=>some (.str x)
 |.bytes b _=>some (.byt b)
 |.float b _=>some (.flt b)
 |.ref a=>some (.ref a)
 |.type n=>some (.ty n)
 |_=>none
theorem RelV.abs{x:V}{u:Value}(r:RelV x u):z26 u=some x:=by
 cases x with
 |non=>cases r;rfl
 |bl _=>cases r;rfl
 |int _=>obtain⟨t,rfl⟩:=r;rfl
 |str _=>obtain⟨t,rfl⟩:=r;rfl
 |byt _=>obtain⟨t,rfl⟩:=r;rfl
 |flt _=>obtain⟨t,rfl⟩:=r;rfl
 |ref _=>cases r;rfl
 |ty _=>cases r;rfl
theorem RelV.inj{x y:V}{u:Value}(r:RelV x u)(q:RelV y u):x=y:=Option.some.inj (r.abs.symm.trans q.abs)
theorem Vals.inj:∀{xs ys:List V} {us:List Value},Vals xs us->Vals ys us->xs=ys
 |_,_,_,.nil,.nil=>rfl
 |_,_,_,.cons r t,.cons r' t'=>by rw[r.inj r',Vals.inj t t']
section
variable {X:Cx}{pins:List (Addr×Obj)}{σ:St}{H:Hp}{s:Shared}{a:Addr}{xs ys:List V}
theorem Inv.list(I:Inv X pins σ H s)(h:SqL X.K H a xs):∃its:List Value,Vals xs its/\PlainL s.heap a its.toArray/\xs.length<=sizeLine:=by
 rcases h with h|⟨o,its,n,hk,hc,hd,hs,hz,r⟩
 ·obtain⟨z,its,n,r,e⟩:=h.ok I.hok
  exact⟨its,r,⟨_,n,e,rfl,rfl,rfl⟩,z⟩
 ·refine⟨its.toList,r,⟨o,n,I.kIn a o hk,hc,hd,by simpa using hs⟩,?_⟩
  have e:=r.length
  simp only[Array.length_toList] at e
  omega
theorem Inv.tuple(I:Inv X pins σ H s)(h:SqT X.K H a xs):∃its:List Value,Vals xs its/\IsTup s.heap a its.toArray/\xs.length<=sizeLine:=by
 rcases h with h|⟨o,its,n,hk,hc,hs,hz,r⟩
 ·obtain⟨z,its,r,p⟩:=h.ok I.hok
  exact⟨its,r,p,z⟩
 ·refine⟨its.toList,r,⟨o,I.kIn a o hk,hc,n,by simpa using hs⟩,?_⟩
  have e:=r.length
  simp only[Array.length_toList] at e
  omega
theorem Inv.list_inj(I:Inv X pins σ H s)(h:SqL X.K H a xs)(h':SqL X.K H a ys):xs=ys:=by
 obtain⟨its,r,⟨o,n,e,_,_,d⟩,_⟩:=I.list h
 obtain⟨its',r',⟨o',n',e',_,_,d'⟩,_⟩:=I.list h'
 rw[e] at e';cases e'
 rw[d] at d'
 injection d' with d1 _
 have:its=its':=by simpa using congrArg Array.toList d1
 subst this
 exact r.inj r'
theorem Inv.tuple_inj(I:Inv X pins σ H s)(h:SqT X.K H a xs)(h':SqT X.K H a ys):xs=ys:=by
 obtain⟨its,r,⟨o,e,_,n,d⟩,_⟩:=I.tuple h
 obtain⟨its',r',⟨o',e',_,n',d'⟩,_⟩:=I.tuple h'
 rw[e] at e';cases e'
 rw[d] at d'
 injection d' with d1 _
 have:its=its':=by simpa using congrArg Array.toList d1
 subst this
 exact r.inj r'
end
noncomputable abbrev Cx.wish(X:Cx)(E:Value->Shared->Prop):Cx:={X with xe:=E}
theorem Cx.Ok.wish{X:Cx}(ok:X.Ok)(E:Value->Shared->Prop):(X.wish E).Ok:=
 ⟨ok.mod,ok.kind,ok.glob,ok.blt,ok.above,ok.inj,ok.has,ok.cab,ok.hd,ok.frames,ok.stk,ok.exf,ok.bs,ok.bsz,ok.noex,ok.exfs,ok.funs,ok.frf⟩
theorem Cx.Ok.unwish{X:Cx}{E:Value->Shared->Prop}(ok:(X.wish E).Ok):X.Ok:=
 ⟨ok.mod,ok.kind,ok.glob,ok.blt,ok.above,ok.inj,ok.has,ok.cab,ok.hd,ok.frames,ok.stk,ok.exf,ok.bs,ok.bsz,ok.noex,ok.exfs,ok.funs,ok.frf⟩
section
variable {X:Cx}{pins:List (Addr×Obj)}{σ:St}{H:Hp}{s:Shared}{E:Value->Shared->Prop}
theorem Inv.wish(I:Inv X pins σ H s)(E:Value->Shared->Prop):Inv (X.wish E) pins σ H s:=⟨I.ok.wish E,I.os,I.bare,I.base,I.loc,I.cell,I.free,I.freeC,I.pin,I.hok,I.len⟩
theorem Inv.unwish(I:Inv (X.wish E) pins σ H s):Inv X pins σ H s:=⟨I.ok.unwish,I.os,I.bare,I.base,I.loc,I.cell,I.free,I.freeC,I.pin,I.hok,I.len⟩
theorem SP.unwish{D:Ends}{f:Flow}{s':Shared}(h:SP (X.wish E) pins D f s'):SP X pins D f s':=by
 cases f with
 |next=>obtain⟨σ',H',I,q⟩:=h;exact⟨σ',H',I.unwish,q⟩
 |brk=>obtain⟨σ',H',I,q⟩:=h;exact⟨σ',H',I.unwish,q⟩
 |cont=>obtain⟨σ',H',I,q⟩:=h;exact⟨σ',H',I.unwish,q⟩
 |ret u=>obtain⟨v,σ',H',I,r,q⟩:=h;exact⟨v,σ',H',I.unwish,r,q⟩
end
section
variable {X:Cx}{st:Stmt}{rest:List Stmt}{t u:TS}{e:Expr}{te:TE}{pos:Pos}
noncomputable def z1i:TS:=λD σ H=>D.nx σ H
noncomputable def z1P (t u:TS):TS:=λD σ H=>t {D with nx:=u D} σ H
theorem Qg:PSs X [] z1i:=λ_ _ σ H _ I h=>wpAny_execs_nil ⟨σ,H,I,h⟩
theorem Vy(h1:PS X st t)(h2:PSs X rest u):PSs X (st::rest) (z1P t u):=by
 intro pins s σ H D I h
 refine wpAny_execs_cons (thn (h1 pins s σ H {D with nx:=u D} I h) λf s1 q=>?_)
 cases f with
 |next=>
  obtain⟨σ',H',I',q⟩:=q
  exact h2 pins s1 σ' H' D I' q
 |ret v=>exact q
 |brk=>exact q
 |cont=>exact q
theorem Inv.quiet{pins:List (Addr×Obj)}{σ:St}{H:Hp}{s:Shared}(I:Inv X pins σ H s):interactive X.env=false:=by simp[interactive,I.ok.kind]
noncomputable def z1x(te:TE):TS:=λD σ H=>te σ H λ_ H1=>D.nx σ H1
theorem JM(he:PE X e te)(hs:swapsWith e none pos.line X.env=pure false:=by rfl):PS X (.Expr e pos) (z1x te):=by
 intro pins s σ H D I h
 exact wpAny_Expr_any (thn (he pins s σ H _ I h) λv s1 ⟨x,H1,I1,r1,q1⟩=>⟨σ,H1,I1,q1⟩) I.quiet hs
noncomputable def z1T (te:TE):TS:=λD σ H=>te σ H D.rt
theorem YL(he:PE X e te):PS X (.Return (some e) pos) (z1T te):=by
 intro pins s σ H D I h
 exact wpAny_Return_some (thn (he pins s σ H _ I h) λv s1 ⟨x,H1,I1,r1,q1⟩=>⟨x,σ,H1,I1,r1,q1⟩)
noncomputable def z14:TS:=λD _ H=>D.rt .non H
theorem J_:PS X (.Return none pos) z14:=λ_ _ σ H _ I h=>wpAny_Return_none ⟨.non,σ,H,I,rfl,h⟩
noncomputable def z1V (c:TT)(t u:TS):TS:=λD σ H=>c σ H λb H1=>if b=true then t D σ H1 else u D σ H1
theorem z0B{c:Expr}{a b:List Stmt}{tc:TT}(hc:PT X c tc)(ha:PSs X a t)(hb:PSs X b u):PS X (.If c a b pos) (z1V tc t u):=by
 intro pins s σ H D I h
 refine wpAny_If (thn (hc pins s σ H _ I h) λd s1 ⟨H1,I1,q1⟩=>?_)
 cases d with
 |true=>exact ha pins s1 σ H1 D I1 q1
 |false=>exact hb pins s1 σ H1 D I1 q1
end
noncomputable abbrev TG:=V->St->Hp->(St->Hp->Prop)->Prop
noncomputable abbrev TGs:=List V->St->Hp->(St->Hp->Prop)->Prop
noncomputable def PG (X:Cx)(target:Expr)(t:TG):Prop:=
 ∀(pins:List (Addr×Obj)) (s:Shared) (σ:St) (H:Hp) (v:V) (u:Value) (Q:St->Hp->Prop),Inv X pins σ H s->RelV v u->t v σ H Q->
  wpAny (model X.prog X.w) X.A (assign target X.env u) (λ_ s'=>∃σ' H',Inv X pins σ' H' s'/\Q σ' H') X.xe s
noncomputable def PGs (X:Cx)(ts:List Expr)(t:TGs):Prop:=
 ∀(pins:List (Addr×Obj)) (s:Shared) (σ:St) (H:Hp) (vs:List V) (us:List Value) (Q:St->Hp->Prop),Inv X pins σ H s->Vals vs us->t vs σ H Q->
  wpAny (model X.prog X.w) X.A (assignInOrder ((assignEach ts X.env).map (·.2)) us) (λ_ s'=>∃σ' H',Inv X pins σ' H' s'/\Q σ' H') X.xe s
noncomputable abbrev YA:=V->V->V->Hp->(Hp->Prop)->Prop
noncomputable def UQ (X:Cx)(t:YA):Prop:=
 ∀(pins:List (Addr×Obj)) (s:Shared) (σ:St) (H:Hp) (o i v:V) (ov iv u:Value) (Q:Hp->Prop),Inv X pins σ H s->RelV o ov->RelV i iv->RelV v u->t o i v H Q->
  wpAny (model X.prog X.w) X.A (setItem ov iv u) (λ_ s'=>∃H',Inv X pins σ H' s'/\Q H') X.xe s
section
variable {X:Cx}{pos:Pos}
noncomputable def Qb(i:Nat):TG:=λv σ H Q=>Q (σ.set i (some v)) H
theorem Q6{i:Nat}{x:Str}(hN:X.N.Nodup)(hi:X.N[i]?=some x)(hx:Loc X.env.scope x)(hf:X.fn x=true\/X.env.scope.names.lookup x=some .local:=by first|exact .inl rfl|exact .inr rfl|assumption):PG X (.Name x pos) (Qb i):=by
 intro pins s σ H v u Q I r h
 exact wpAny_assign_Name (j_ I hN hi hx r (λs' I'=>⟨_,H,I',h⟩) hf)
noncomputable def z1e:TGs:=λvs σ H Q=>vs=[]/\Q σ H
noncomputable def Xw(t:TG)(u:TGs):TGs:=λvs σ H Q=>∃v r,vs=v::r/\t v σ H λσ' H'=>u r σ' H' Q
theorem K_:PGs X [] z1e:=by
 intro pins s σ H vs us Q I r h
 obtain⟨e,h⟩:=h
 subst e
 cases r
 exact assignInOrder_nil ⟨σ,H,I,h⟩
theorem WG{e:Expr}{es:List Expr}{t:TG}{u:TGs}(h1:PG X e t)(h2:PGs X es u)
  (hs:(assignEach (e::es) X.env).map (·.2)=assign e X.env::(assignEach es X.env).map (·.2):=by rfl):PGs X (e::es) (Xw t u):=by
 intro pins s σ H vs us Q I r h
 obtain⟨v,vr,e1,h⟩:=h
 subst e1
 cases r with
 |cons r rr=>
  rw[hs]
  refine assignInOrder_cons (thn (h1 pins s σ H _ _ _ I r h) λ_ s1 ⟨σ1,H1,I1,q1⟩=>?_)
  exact h2 pins s1 σ1 H1 _ _ Q I1 rr q1
noncomputable def z1H (K:PySem.W.Frag)(n:Nat)(t:TGs):TG:=λv σ H Q=>∃a xs,v=.ref a/\SqT K H a xs/\xs.length=n/\t xs σ H Q
theorem Uz{es:List Expr}{k:Nat}{t:TGs}{n:Nat}(hc:X.calm=true)(h:PGs X es t)
  (hn:(assignEach es X.env).length=n:=by rfl) (hst:(assignEach es X.env).findIdx? (·.1)=none:=by rfl):PG X (.Tuple es k pos) (z1H X.K n t):=by
 intro pins s σ H v u Q I r hw
 obtain⟨a,xs,e1,hq,hl,hw⟩:=hw
 subst e1
 cases r
 obtain⟨its,rv,ht,hz⟩:=I.tuple hq
 refine assign_Tuple_tuple (I.ok.hd hc) ht (by simp[hn,←hl,rv.length]) hst λh' hx=>?_
 have I1:Inv X pins σ H {s with heap:=h'}:=I.kept (t':=s.toks) λb o e=>hx b o (Nat.ne_of_lt (Heap.lt_size e)) e
 exact h pins _ σ H xs _ Q I1 (by simpa using rv) hw
noncomputable def z20 (to ti:TE)(t:YA):TG:=λv σ H Q=>to σ H λo H1=>ti σ H1 λi H2=>t o i v H2 λH3=>Q σ H3
theorem Wq{o i:Expr}{to ti:TE}{t:YA}(ho:PE X o to)(hi:PE X i ti)(hs:UQ X t)
  (ha:∀v,assign (.Subscript o i pos) X.env v=(do
   let ov ←holding [v] (eval o X.env)
   let iv ←holding [v,ov] (eval i X.env)
   standAt pos
   holding [v,ov,iv] (setItem ov iv v)
   release [v,ov,iv] []):=by intro _;rfl):PG X (.Subscript o i pos) (z20 to ti t):=by
 intro pins s σ H v u Q I r h
 rw[ha]
 refine wpAny_bind (wpAny_holding (thn (ho pins s σ H _ I h) λov s1 ⟨x,H1,I1,r1,q1⟩=>?_))
 refine wpAny_bind (wpAny_holding (thn (hi pins s1 σ H1 _ I1 q1) λiv s2 ⟨y,H2,I2,r2,q2⟩=>?_))
 refine wpAny_bind (wpAny_standAt (wpAny_bind (wpAny_holding (thn (hs pins s2 σ H2 x y v ov iv u _ I2 r1 r2 r q2) λ_ s3 ⟨H3,I3,q3⟩=>?_))))
 exact wpAny_release ⟨σ,H3,I3,q3⟩
noncomputable def z0Q (te:TE)(g:TG):TS:=λD σ H=>te σ H λx H1=>g x σ H1 D.nx
theorem ZO{tg e:Expr}{te:TE}{g:TG}(he:PE X e te)(hg:PG X tg g)(hs:swapsWithSole [tg] e pos.line X.env=pure false:=by rfl)(hw:swappedStores [tg] e X.env=pure none:=by rfl)
  (h1:(assignEach [tg] X.env).map (·.2)=[assign tg X.env]:=by rfl):PS X (.Assign [tg] e pos) (z0Q te g):=by
 intro pins s σ H D I h
 refine wpAny_Assign_stores (thn (he pins s σ H _ I h) λv s1 ⟨x,H1,I1,r1,q1⟩=>?_) hs hw
 rw[h1]
 exact thn (hg pins s1 σ H1 x v _ I1 r1 q1) λ_ s2 q=>q
theorem YW{i:Nat}{x:Str}{e:Expr}{te:TE}{pos':Pos}(hN:X.N.Nodup)(hi:X.N[i]?=some x)(hx:Loc X.env.scope x)(he:PE X e te)(hs:swapsWith e (some (.Name x pos')) pos.line X.env=pure false:=by rfl)(hf:X.fn x=true\/X.env.scope.names.lookup x=some .local:=by first|exact .inl rfl|exact .inr rfl|assumption) :
  PS X (.Assign [.Name x pos'] e pos) (z0Q te (Qb i)):=by
 intro pins s σ H D I h
 refine wpAny_Assign_Name (thn (he pins s σ H _ I h) λv s1 ⟨y,H1,I1,r1,q1⟩=>?_) hs
 exact j_ I1 hN hi hx r1 (λs2 I2=>⟨_,H1,I2,q1⟩) hf
end
section
variable {X:Cx}{pos:Pos}
noncomputable def Ui(c:TT)(tb:TS):TS:=λD σ H=>∃W:Nat->St->Hp->Prop,(∃m,W m σ H)/\∀m σ H,W m σ H->
 c σ H λb H1=>if b=true then ∃N:St->Hp->Prop,(∀σ' H',N σ' H'->∃m',m'<m/\W m' σ' H')/\tb {D with nx:=N,ct:=N,bk:=D.nx} σ H1 else D.nx σ H1
theorem Vd{c:Expr}{body:List Stmt}{tc:TT}{tb:TS}(hp:PassesOwn (model X.prog X.w) X.A X.env X.xe)(hc:PT X c tc)(hb:PSs X body tb):PS X (.While c body [] pos) (Ui tc tb):=by
 intro pins s σ H D I h
 obtain⟨W,⟨m0,w0⟩,turn⟩:=h
 refine wpAny_While (codeAny_whileLoop (λn s'=>∃σ' H',Inv X pins σ' H' s'/\W n σ' H') ?_ m0 ⟨σ,H,I,w0⟩)
 rintro n s1 ⟨σ1,H1,I1,w1⟩
 refine wpAny_passesOwn hp (thn (hc pins s1 σ1 H1 _ I1 (turn n σ1 H1 w1)) λb s2 ⟨H2,I2,q2⟩=>?_)
 cases b with
 |true=>
  obtain⟨N,hN,q2⟩:=q2
  rw[if_pos rfl]
  refine wpAny_passesOwn hp (thn (hb pins s2 σ1 H2 _ I2 q2) λf s3 q3=>?_)
  cases f with
  |next=>
   obtain⟨σ3,H3,I3,n3⟩:=q3
   obtain⟨m',hm,w3⟩:=hN σ3 H3 n3
   exact⟨m',hm,σ3,H3,I3,w3⟩
  |cont=>
   obtain⟨σ3,H3,I3,n3⟩:=q3
   obtain⟨m',hm,w3⟩:=hN σ3 H3 n3
   exact⟨m',hm,σ3,H3,I3,w3⟩
  |brk=>exact q3
  |ret v=>exact q3
 |false=>
  rw[if_neg Bool.false_ne_true]
  exact wpAny_execs_nil ⟨σ1,H2,I2,q2⟩
end
structure It where
 go:Nat->Hp->Prop
 yld:Nat->Hp->V->Hp->Prop
 stop:Nat->Hp->Prop
noncomputable def yw (X:Cx)(pins:List (Addr×Obj))(H:Hp)(b:Addr):Prop:=
 H b=none/\b≠X.env.locals/\b∉X.fs/\(b∈X.ex\/X.s₀.heap.objs.size<=b)/\(∀x c,X.env.cells.lookup x=some c->c≠b)/\∀p∈X.pn++pins,p.1≠b
theorem Inv.fpOk{X:Cx}{pins:List (Addr×Obj)}{σ:St}{H H':Hp}{s:Shared}{b:Addr}(I:Inv X pins σ H s)(hb:s.heap.objs.size<=b)(hn:H' b=none):yw X pins H' b:=by
 refine⟨hn,Nat.ne_of_gt (Nat.lt_of_lt_of_le I.lt hb),I.nofs hb,.inr (Nat.le_trans I.sz hb),λx c e z=>?_,λp hp z=>?_⟩
 ·obtain⟨v,q⟩:=I.cell x c e
  exact absurd (Nat.lt_of_lt_of_le q.lt (by rw[z];exact hb)) (Nat.lt_irrefl _)
 ·exact absurd (Nat.lt_of_lt_of_le (Heap.lt_size (I.pin p hp).1) (by rw[z];exact hb)) (Nat.lt_irrefl _)
structure Turn(P:Program)(w:World)(K:PySem.W.Frag)(tg:Expr)(J:It)(fp:List Addr)(it:Addr)(tn:Nat->Heap->Prop):Prop where
 mem:it∈fp
 obj:∀i h,tn i h->∀b∈fp,∃o,h.get? b=some o/\∀v,o.data≠.cell v
 keep:∀i h h',tn i h->(∀b∈fp,∀o,h.get? b=some o->h'.get? b=some o)->tn i h'
 item:∀(X:Cx),X.prog=P->X.w=w->X.K=K->X.calm=true->∀(i:Nat) (pins:List (Addr×Obj)) (s:Shared) (σ:St) (H:Hp) (E:Value->Shared->Prop),Inv X pins σ H s->(∀b∈fp,yw X pins H b)->tn i s.heap->J.go i H->
  wpAny (model P w) X.A (pyNext (.ref it)) (λr s1=>∃u,r=some u/\
   wpAny (model P w) X.A (letOwnedTupleGo tg (.ref it) u) (λ_ s2=>∃x H',Inv X pins σ H' s2/\RelV x u/\J.yld i H x H'/\tn (i+1) s2.heap/\∀b∈fp,H' b=none) E s1) E s
 done:∀(X:Cx),X.prog=P->X.w=w->X.K=K->X.calm=true->∀(i:Nat) (pins:List (Addr×Obj)) (s:Shared) (σ:St) (H:Hp) (E:Value->Shared->Prop),Inv X pins σ H s->(∀b∈fp,yw X pins H b)->tn i s.heap->J.stop i H->
  wpAny (model P w) X.A (pyNext (.ref it)) (λr s1=>r=none/\Inv X pins σ H s1) E s
 self:∀(A:Around) (i:Nat) (s:Shared) (Q:Value->Shared->Prop) (E:Value->Shared->Prop),tn i s.heap->Q (.ref it) s->wpAny (model P w) A (pyIter (.ref it)) Q E s
noncomputable abbrev TI:=St->Hp->(It->Hp->Prop)->Prop
noncomputable def PIE (X:Cx)(pins:List (Addr×Obj))(σ:St)(tg:Expr)(R:It->Hp->Prop)(itv:Value)(s2:Shared):Prop:=
 ∃(it:Addr) (fp:List Addr) (tn:Nat->Heap->Prop) (J:It) (H':Hp),itv=.ref it/\Inv X pins σ H' s2/\Turn X.prog X.w X.K tg J fp it tn/\tn 0 s2.heap/\(∀b∈fp,yw X pins H' b)/\R J H'
noncomputable def PI (X:Cx)(tg iter:Expr)(wi:TI):Prop:=
 ∀(pins:List (Addr×Obj)) (s:Shared) (σ:St) (H:Hp) (R:It->Hp->Prop),Inv X pins σ H s->wi σ H R->
  wpAny (model X.prog X.w) X.A (eval iter X.env) (λv s1=>wpAny (model X.prog X.w) X.A (pyIter v) (PIE X pins σ tg R) X.xe s1) X.xe s
theorem xU{M:Model}{A:Around}{E:Value->Shared->Prop}{s:Shared}{tg:Expr}{it:Addr}{u:Value}{o:Obj}{n:String}{vs:Array Value}{Q:Unit->Shared->Prop}(ho:s.heap.get? it=some o)(hc:o.cls=.type n)(hd:o.data=.fields vs)
    (hn:["enumerate", "zip", "dict_itemiterator", "dict_reverseitemiterator", "odict_iterator", "itertools.zip_longest", "itertools.pairwise"].contains n=false) (hQ:Q () s):wpAny M A (letOwnedTupleGo tg (.ref it) u) Q E s:=by
  unfold letOwnedTupleGo
  cases tg <;> first
    |exact wpAny_pure hQ
    | (cases u <;> first
        |exact wpAny_pure hQ
        | (refine wpAny_bind (wpAny_load ho ?_)
           rw[hc, hd]
           show wpAny M A (if (["enumerate", "zip", "dict_itemiterator", "dict_reverseitemiterator", "odict_iterator", "itertools.zip_longest", "itertools.pairwise"].contains n&&vs[0]? == some (rawInt _))=true then _ else _) Q E s
           rw[if_neg (by intro h;rw[hn, Bool.false_and] at h;cases h)]
           exact wpAny_pure hQ))
noncomputable def Itl (K:PySem.W.Frag)(a:Addr):It:=
 ⟨λi H=>∃xs x,SqL K H a xs/\xs[i]?=some x,λi H x H'=>H'=H/\∀xs,SqL K H a xs->xs[i]?=some x,λi H=>∃xs,SqL K H a xs/\xs.length<=i⟩
noncomputable def Itt (K:PySem.W.Frag)(a:Addr):It:=
 ⟨λi H=>∃xs x,SqT K H a xs/\xs[i]?=some x,λi H x H'=>H'=H/\∀xs,SqT K H a xs->xs[i]?=some x,λi H=>∃xs,SqT K H a xs/\xs.length<=i⟩
noncomputable def Itr(lo:Int)(n:Nat):It:=⟨λi _=>i<n,λi H x H'=>H'=H/\x=.int (lo+i),λi _=>n<=i⟩
theorem xR{P:Program}{w:World}{K:PySem.W.Frag}{tg:Expr}(a it:Addr):Turn P w K tg (Itl K a) [it] it (λi h=>h.IsListIter it a i) where
 mem:=by simp
 obj:=λi h st b hb=>by
  have e:b=it:=by simpa using hb
  subst e
  obtain⟨o,e,c,d⟩:=st
  exact⟨o,e,λv z=>by rw[d] at z;cases z⟩
 keep:=λi h h' st k=>st.at λo e=>k it (by simp) o e
 item:=by
  intro X hP hw hK hc i pins s σ H E I hf st hg
  subst hP hw hK
  obtain⟨xs,x,hq,hx⟩:=hg
  obtain⟨its,rv,p,hz⟩:=I.list hq
  obtain⟨u,hu,ru⟩:=rv.get hx
  obtain⟨f0,f1,f2,f3,f4,f5⟩:=hf it (by simp)
  refine wpAny_pyNext_list_item st p.isList (x:=u) (by simpa using hu) λh' st' sb=>?_
  have I1:Inv X pins σ H {s with heap:=h'}:=I.turned (t':=s.toks) (λb o hb e=>(sb.2 b hb).trans e) f0 f1 f3 f4 f5
  obtain⟨o,e,c,d⟩:=id st'
  exact⟨u,rfl,xU (s:={s with heap:=h'}) e c d (by decide) ⟨x,H,I1,ru,⟨rfl,λys hy=>by rw[I.list_inj hy hq];exact hx⟩,st',λb hb=>(hf b hb).1⟩⟩
 done:=by
  intro X hP hw hK hc i pins s σ H E I hf st hg
  subst hP hw hK
  obtain⟨xs,hq,hx⟩:=hg
  obtain⟨its,rv,p,hz⟩:=I.list hq
  obtain⟨f0,f1,f2,f3,f4,f5⟩:=hf it (by simp)
  have hl:=rv.length
  exact wpAny_pyNext_list_end (I.ok.hd hc) st p.isList (by simp;omega) λh' eb=>⟨rfl,I.turned (t':=s.toks) (λb o hb e=>eb b o hb e) f0 f1 f3 f4 f5⟩
 self:=λ_ _ _ _ _ st h=>wpAny_pyIter_listiter st h
theorem ZD{P:Program}{w:World}{K:PySem.W.Frag}{tg:Expr}(a it:Addr):Turn P w K tg (Itt K a) [it] it (λi h=>h.IsTupleIter it a i) where
 mem:=by simp
 obj:=λi h st b hb=>by
  have e:b=it:=by simpa using hb
  subst e
  obtain⟨o,e,c,d⟩:=st
  exact⟨o,e,λv z=>by rw[d] at z;cases z⟩
 keep:=λi h h' st k=>st.at λo e=>k it (by simp) o e
 item:=by
  intro X hP hw hK hc i pins s σ H E I hf st hg
  subst hP hw hK
  obtain⟨xs,x,hq,hx⟩:=hg
  obtain⟨its,rv,p,hz⟩:=I.tuple hq
  obtain⟨u,hu,ru⟩:=rv.get hx
  obtain⟨f0,f1,f2,f3,f4,f5⟩:=hf it (by simp)
  refine wpAny_pyNext_tuple_item st (show s.heap.IsTuple a its.toArray from p) (x:=u) (by simpa using hu) λh' st' sb=>?_
  have I1:Inv X pins σ H {s with heap:=h'}:=I.turned (t':=s.toks) (λb o hb e=>(sb.2 b hb).trans e) f0 f1 f3 f4 f5
  obtain⟨o,e,c,d⟩:=id st'
  exact⟨u,rfl,xU (s:={s with heap:=h'}) e c d (by decide) ⟨x,H,I1,ru,⟨rfl,λys hy=>by rw[I.tuple_inj hy hq];exact hx⟩,st',λb hb=>(hf b hb).1⟩⟩
 done:=by
  intro X hP hw hK hc i pins s σ H E I hf st hg
  subst hP hw hK
  obtain⟨xs,hq,hx⟩:=hg
  obtain⟨its,rv,p,hz⟩:=I.tuple hq
  obtain⟨f0,f1,f2,f3,f4,f5⟩:=hf it (by simp)
  have hl:=rv.length
  exact wpAny_pyNext_tuple_end (I.ok.hd hc) st (show s.heap.IsTuple a its.toArray from p) (by simp;omega) λh' eb=>⟨rfl,I.turned (t':=s.toks) (λb o hb e=>eb b o hb e) f0 f1 f3 f4 f5⟩
 self:=λ_ _ _ _ _ st h=>wpAny_pyIter_tupleiter st h
end L2
namespace L2
open PySem PySem.Spec PyProof.Rows
section
variable {X:Cx}{tg:Expr}
noncomputable def kW(ta:TA):TI:=λσ H R=>ta σ H λvs H1=>∃i j:Int,vs=[.int i,.int j]/\(-(2 ^ 62)<=i/\i<2 ^ 62 /\ -(2 ^ 62)<=j/\j<2 ^ 62)/\R (Itr i (j-i).toNat) H1
noncomputable def z21 (wi:TI)(g:TG)(tb:TS):TS:=λD σ H=>wi σ H λJ H1=>∃W:Nat->Nat->St->Hp->Prop,(∃m,W 0 m σ H1)/\∀i m σ H,W i m σ H->
 (J.stop i H/\D.nx σ H)\/(J.go i H/\∃N:St->Hp->Prop,(∀σ' H',N σ' H'->∃m',m'<m/\W (i+1) m' σ' H')/\∀x H',J.yld i H x H'->g x σ H' λσ2 H2=>tb {D with nx:=N,ct:=N,bk:=D.nx} σ2 H2)
noncomputable def kY(fp:List Addr)(h:Heap):List (Addr×Obj):=fp.filterMap λb=>(h.get? b).map λo=>(b,o)
theorem qZ{fp:List Addr}{h:Heap}{b:Addr}{o:Obj}(hb:b∈fp)(e:h.get? b=some o):(b,o)∈kY fp h:=List.mem_filterMap.mpr ⟨b,hb,by rw[e];rfl⟩
theorem QY{fp:List Addr}{h:Heap}{p:Addr×Obj}(hp:p∈kY fp h):p.1∈fp/\h.get? p.1=some p.2:=by
 obtain⟨b,hb,e⟩:=List.mem_filterMap.mp hp
 cases q:h.get? b with
 |none=>rw[q] at e;cases e
 |some o=>
  rw[q] at e
  have e':(b,o)=p:=Option.some.inj e
  subst e'
  exact⟨hb,q⟩
theorem Inv.pinned{pins:List (Addr×Obj)}{σ:St}{H:Hp}{s:Shared}{fp:List Addr}(I:Inv X pins σ H s)(hf:∀b∈fp,yw X pins H b)(ho:∀b∈fp,∃o,s.heap.get? b=some o/\∀v,o.data≠.cell v):Inv X (pins++kY fp s.heap) σ H s:=
 I.pins_of λp hp=>(List.mem_append.mp hp).elim (λz=>I.pin p (List.mem_append_right _ z)) λz=>by
  obtain⟨hb,e⟩:=QY z
  obtain⟨f0,f1,f2,_⟩:=hf p.1 hb
  obtain⟨o,e',d⟩:=ho p.1 hb
  rw[e] at e';cases e'
  exact⟨e,f0,f1,f2,d⟩
theorem Inv.unpinned{pins pl:List (Addr×Obj)}{σ:St}{H:Hp}{s:Shared}(I:Inv X (pins++pl) σ H s):Inv X pins σ H s:=I.pins_of λp hp=>I.pin p (List.mem_append_right _ (List.mem_append_left _ hp))
theorem YD{iter:Expr}{body:List Stmt}{wi:TI}{g:TG}{tb:TS}{pos:Pos}(hp:PassesOwn (model X.prog X.w) X.A X.env X.xe)(hc:X.calm=true)(hi:PI X tg iter wi)(hg:PG X tg g)(hb:PSs X body tb)
  (hs:∀x,foldedSetIterable iter X.env x=pure x:=by intro _;rfl):PS X (.For tg iter body [] pos) (z21 wi g tb):=by
 intro pins s σ H D I h
 refine wpAny_For (thn (hi pins s σ H _ I h) λv s1 h1=>thn h1 λitv s2 h2=>?_) hs
 obtain⟨it,fp,tn,J,H2,e,I2,T,st2,f2,W,⟨m0,w0⟩,turn⟩:=h2
 subst e
 have stat:∀{H':Hp},(∀b∈fp,H' b=none)->∀b∈fp,yw X pins H' b:=λhn b hb=>⟨hn b hb,(f2 b hb).2⟩
 refine codeAny_forLoop_any (λn s'=>∃i σ' H',Inv X pins σ' H' s'/\tn i s'.heap/\(∀b∈fp,H' b=none)/\W i n σ' H') ?_ m0 ⟨0,σ,H2,I2,st2,λb hb=>(f2 b hb).1,w0⟩
 rintro n s3 ⟨i,σ3,H3,I3,st3,fr3,w3⟩
 rcases turn i n σ3 H3 w3 with⟨stop,qn⟩|⟨go,N,hN,step⟩
 ·refine wpAny_passesOwn hp (thn (T.done X rfl rfl rfl hc i pins s3 σ3 H3 X.xe I3 (stat fr3) st3 stop) λr s4 ⟨hr,I4⟩=>?_)
  subst hr
  exact wpAny_execs_nil ⟨σ3,H3,I4,qn⟩
 ·refine wpAny_passesOwn hp (thn (T.item X rfl rfl rfl hc i pins s3 σ3 H3 X.xe I3 (stat fr3) st3 go) λr s4 ⟨u,hr,h4⟩=>?_)
  subst hr
  refine wpAny_passesOwn hp (thn h4 λ_ s5 ⟨x,H5,I5,r5,y5,st5,fr5⟩=>?_)
  have I5':=I5.pinned (stat fr5) (T.obj _ _ st5)
  refine wpAny_passesOwn hp (thn (hg _ s5 σ3 H5 x u _ I5' r5 (step x H5 y5)) λ_ s6 ⟨σ6,H6,I6,q6⟩=>?_)
  refine wpAny_passesOwn hp (thn (hb _ s6 σ6 H6 _ I6 q6) λf s7 q7=>?_)
  have again:∀{σ7:St} {H7:Hp},Inv X (pins++kY fp s5.heap) σ7 H7 s7->N σ7 H7->∃m,m<n/\∃i σ' H',Inv X pins σ' H' s7/\tn i s7.heap/\(∀b∈fp,H' b=none)/\W i m σ' H':=λ{σ7 H7} I7 n7=>by
   obtain⟨m',hm,w7⟩:=hN σ7 H7 n7
   refine⟨m',hm,i+1,σ7,H7,I7.unpinned,T.keep _ _ _ st5 λb hb o e=>(I7.pin (b,o) (List.mem_append_right _ (List.mem_append_right _ (qZ hb e)))).1,λb hb=>?_,w7⟩
   obtain⟨o,e,d⟩:=T.obj _ _ st5 b hb
   exact (I7.pin (b,o) (List.mem_append_right _ (List.mem_append_right _ (qZ hb e)))).2.1
  cases f with
  |next=>obtain⟨σ7,H7,I7,n7⟩:=q7;exact again I7 n7
  |cont=>obtain⟨σ7,H7,I7,n7⟩:=q7;exact again I7 n7
  |brk=>obtain⟨σ7,H7,I7,q7⟩:=q7;exact⟨σ7,H7,I7.unpinned,q7⟩
  |ret v=>obtain⟨x7,σ7,H7,I7,r7,q7⟩:=q7;exact⟨x7,σ7,H7,I7.unpinned,r7,q7⟩
end
end L2
namespace L2
open PySem PySem.Spec PyProof.Rows
noncomputable abbrev R2:=V->V->Hp->VK->Prop
noncomputable def OpR (X:Cx)(f:Value->Value->Sem Value)(r:R2):Prop:=
 ∀(pins:List (Addr×Obj)) (s:Shared) (σ:St) (H:Hp) (x y:V) (v u:Value) (Q:VK),Inv X pins σ H s->RelV x v->RelV y u->r x y H Q->
  wpAny (model X.prog X.w) X.A (f v u) (EP X pins σ Q) X.xe s
noncomputable def UnR (X:Cx)(f:Value->Sem Value)(r:V->Hp->VK->Prop):Prop:=
 ∀(pins:List (Addr×Obj)) (s:Shared) (σ:St) (H:Hp) (x:V) (v:Value) (Q:VK),Inv X pins σ H s->RelV x v->r x H Q->
  wpAny (model X.prog X.w) X.A (f v) (EP X pins σ Q) X.xe s
noncomputable def Vj(X:Cx)(f:Value)(r:List V->Hp->VK->Prop):Prop:=
 ∀(pins:List (Addr×Obj)) (s:Shared) (σ:St) (H:Hp) (xs:List V) (us:List Value) (Q:VK),Inv X pins σ H s->Vals xs us->r xs H Q->
  wpAny (model X.prog X.w) X.A (call f us) (EP X pins σ Q) X.xe s
noncomputable def rI (C:Int->Int->Prop)(g:Int->Int->V):R2:=λx y H Q=>∃i j,x=.int i/\y=.int j/\C i j/\Q (g i j) H
noncomputable def rI0 (g:Int->Int->V):R2:=λx y H Q=>∃i j,x=.int i/\y=.int j/\Q (g i j) H
noncomputable def rU (g:Int->V):V->Hp->VK->Prop:=λx H Q=>∃i,x=.int i/\Q (g i) H
section
variable {X:Cx}{a b c:Expr}{ta tb tc:TE}{pos:Pos}
theorem opI{f:Value->Value->Sem Value}{C:Int->Int->Prop}{g:Int->Int->Int}
  (rule:∀(i j:Int) (t u:Tok) (s:Shared) (Q:Value->Shared->Prop) (E:Value->Shared->Prop),C i j->Q (.int (g i j) s.toks) {s with toks:=s.toks+1}->wpAny (model X.prog X.w) X.A (f (.int i t) (.int j u)) Q E s) :
  OpR X f (rI C λi j=>.int (g i j)):=by
 intro pins s σ H x y v u Q I rx ry h
 obtain⟨i,j,rfl,rfl,hc,q⟩:=h
 obtain⟨t,rfl⟩:=rx
 obtain⟨t',rfl⟩:=ry
 exact rule i j t t' s _ _ hc ⟨.int (g i j),H,I.tok _,⟨_,rfl⟩,q⟩
theorem z09{f:Value->Value->Sem Value}{g:Int->Int->Int}
  (rule:∀(i j:Int) (t u:Tok) (s:Shared) (Q:Value->Shared->Prop) (E:Value->Shared->Prop),Q (.int (g i j) s.toks) {s with toks:=s.toks+1}->wpAny (model X.prog X.w) X.A (f (.int i t) (.int j u)) Q E s) :
  OpR X f (rI0 λi j=>.int (g i j)):=by
 intro pins s σ H x y v u Q I rx ry h
 obtain⟨i,j,rfl,rfl,q⟩:=h
 obtain⟨t,rfl⟩:=rx
 obtain⟨t',rfl⟩:=ry
 exact rule i j t t' s _ _ ⟨.int (g i j),H,I.tok _,⟨_,rfl⟩,q⟩
theorem JN{f:Value->Value->Sem Value}{g:Int->Int->Bool}
  (rule:∀(i j:Int) (t u:Tok) (s:Shared) (Q:Value->Shared->Prop) (E:Value->Shared->Prop),Q (.bool (g i j)) s->wpAny (model X.prog X.w) X.A (f (.int i t) (.int j u)) Q E s) :
  OpR X f (rI0 λi j=>.bl (g i j)):=by
 intro pins s σ H x y v u Q I rx ry h
 obtain⟨i,j,rfl,rfl,q⟩:=h
 obtain⟨t,rfl⟩:=rx
 obtain⟨t',rfl⟩:=ry
 exact rule i j t t' s _ _ ⟨.bl (g i j),H,I,rfl,q⟩
noncomputable def z1S(i j:Int):Prop:=0<=j/\j<=1000000/\i.natAbs<2 ^ 64
noncomputable def CMul(i j:Int):Prop:=(-(2 ^ 64)<i/\i<2 ^ 64)\/(-(2 ^ 64)<j/\j<2 ^ 64)
theorem CMul.ok{i j:Int}(h:CMul i j):IntMulOk i j:=by
 rcases h with⟨h1,h2⟩|⟨h1,h2⟩
 ·exact .of_left (intBits_le_64 h1 h2)
 ·exact .of_right (intBits_le_64 h1 h2)
theorem uY(k:Nat):(0:Int)<=2 ^ k:=by
 rw[two_pow_cast]
 exact Int.natCast_nonneg _
theorem Yy:OpR X (binaryOp .Add) (rI0 λi j=>.int (i+j)):=z09 λ_ _ _ _ _ _ _ q=>add_int q
theorem YU:OpR X (binaryOp .Sub) (rI0 λi j=>.int (i-j)):=z09 λ_ _ _ _ _ _ _ q=>sub_int q
theorem z0q:OpR X (binaryOp .Mult) (rI CMul λi j=>.int (i * j)):=opI λ_ _ _ _ _ _ _ hc q=>mul_int q hc.ok
theorem z06:OpR X (binaryOp .Mod) (rI (λ_ j=>0<j) λi j=>.int (i % j)):=opI λi j _ _ _ _ _ hc q=>by
 have h1:(0:Int)<j:=hc
 exact mod_int' (by omega) (by rw[Int.fmod_eq_emod_of_nonneg i (by omega)];exact q)
theorem UH:OpR X (binaryOp .Pow) (rI z1S λi j=>.int (i ^ j.toNat)):=opI λ_ _ _ _ _ _ _ hc q=>pow_int_small hc.1 hc.2.1 hc.2.2 q
theorem Yt:OpR X (binaryOp .RShift) (rI (λ_ j=>0<=j) λi j=>.int (i / 2 ^ j.toNat)):=opI λi j _ _ _ _ _ hc q=>
 rshift_int hc (by rw[Int.fdiv_eq_ediv_of_nonneg i (uY _)];exact q)
theorem YB:OpR X (binaryOp .BitAnd) (rI0 λi j=>.int (Builtin.bitAnd i j)):=z09 λ_ _ _ _ _ _ _ q=>and_int q
theorem unI{f:Value->Sem Value}{g:Int->Int}
  (rule:∀(i:Int) (t:Tok) (s:Shared) (Q:Value->Shared->Prop) (E:Value->Shared->Prop),Q (.int (g i) s.toks) {s with toks:=s.toks+1}->wpAny (model X.prog X.w) X.A (f (.int i t)) Q E s) :
  UnR X f (rU λi=>.int (g i)):=by
 intro pins s σ H x v Q I rx h
 obtain⟨i,rfl,q⟩:=h
 obtain⟨t,rfl⟩:=rx
 exact rule i t s _ _ ⟨.int (g i),H,I.tok _,⟨_,rfl⟩,q⟩
theorem UZ:UnR X (unaryOp .USub) (rU λi=>.int (-i)):=unI λ_ _ _ _ _ q=>neg_int q
end
noncomputable def Xg:V->V->Bool
 |.non,.non=>true|.non,.int _=>true|.int _,.non=>true|.non,.bl _=>true|.bl _,.non=>true|.non,.str _=>true|.str _,.non=>true
 |.int _,.int _=>true|.bl _,.bl _=>true|.str _,.str _=>true|.byt _,.byt _=>true
 |.int _,.str _=>true|.str _,.int _=>true|.bl _,.str _=>true|.str _,.bl _=>true
 |_,_=>false
noncomputable def rEq:R2:=λx y H Q=>Xg x y=true/\Q (.bl (decide (x=y))) H
noncomputable def rNe:R2:=λx y H Q=>Xg x y=true/\Q (.bl (!decide (x=y))) H
theorem Qw{i j:Int}:decide (V.int i=V.int j)=(i == j):=by
 rw[Bool.eq_iff_iff]
 simp
theorem Vu{i j:Bool}:decide (V.bl i=V.bl j)=(i == j):=by
 rw[Bool.eq_iff_iff]
 simp
theorem Qx{i j:Str}:decide (V.str i=V.str j)=(i == j):=by
 rw[Bool.eq_iff_iff]
 simp
theorem Qo{i j:Array UInt8}:decide (V.byt i=V.byt j)=(i.toList == j.toList):=by
 rw[Bool.eq_iff_iff]
 cases i
 cases j
 simp
section
variable {X:Cx}{a b c:Expr}{ta tb tc:TE}{pos:Pos}
theorem zf{pins:List (Addr×Obj)}{σ:St}{H:Hp}{s:Shared}{Q:VK}{k k':Bool}(I:Inv X pins σ H s)(q:Q (.bl k) H)(e:k=k'):EP X pins σ Q (.bool k') s:=by
 subst e
 exact⟨.bl k,H,I,rfl,q⟩
theorem z1b:OpR X (compareOp .Eq) rEq:=by
 intro pins s σ H x y v u Q I rx ry h
 obtain⟨hs,q⟩:=h
 cases x with
 |non=>
  cases rx
  cases y with
  |non=>cases ry;exact PySem.EqNone.eq_none_none (zf I q (by simp))
  |bl j=>cases ry;exact PySem.EqNone.eq_none_bool (zf I q (by simp))
  |int j=>obtain⟨t',rfl⟩:=ry;exact PySem.EqNone.eq_none_int (zf I q (by simp))
  |str j=>obtain⟨t',rfl⟩:=ry;exact PySem.EqNone.eq_none_str (zf I q (by simp))
  |_=>exact absurd (show false=true from hs) Bool.false_ne_true
 |bl i=>
  cases rx
  cases y with
  |non=>cases ry;exact PySem.EqNone.eq_bool_none (zf I q (by simp))
  |bl j=>cases ry;exact eq_bool (zf I q Vu)
  |str j=>obtain⟨t',rfl⟩:=ry;exact PySem.EqMixed.eq_bool_str (zf I q (by simp))
  |_=>exact absurd (show false=true from hs) Bool.false_ne_true
 |int i=>
  obtain⟨t,rfl⟩:=rx
  cases y with
  |non=>cases ry;exact PySem.EqNone.eq_int_none (zf I q (by simp))
  |int j=>obtain⟨t',rfl⟩:=ry;exact eq_int (zf I q Qw)
  |str j=>obtain⟨t',rfl⟩:=ry;exact PySem.EqMixed.eq_int_str (zf I q (by simp))
  |_=>exact absurd (show false=true from hs) Bool.false_ne_true
 |str i=>
  obtain⟨t,rfl⟩:=rx
  cases y with
  |non=>cases ry;exact PySem.EqNone.eq_str_none (zf I q (by simp))
  |bl j=>cases ry;exact PySem.EqMixed.eq_str_bool (zf I q (by simp))
  |int j=>obtain⟨t',rfl⟩:=ry;exact PySem.EqMixed.eq_str_int (zf I q (by simp))
  |str j=>obtain⟨t',rfl⟩:=ry;exact eq_str (zf I q Qx)
  |_=>exact absurd (show false=true from hs) Bool.false_ne_true
 |byt i=>
  obtain⟨t,rfl⟩:=rx
  cases y with
  |byt j=>obtain⟨t',rfl⟩:=ry;exact PySem.W.eq_bytes (zf I q Qo)
  |_=>exact absurd (show false=true from hs) Bool.false_ne_true
 |_=>cases y<;>exact absurd (show false=true from hs) Bool.false_ne_true
theorem z12:OpR X (compareOp .NotEq) rNe:=by
 intro pins s σ H x y v u Q I rx ry h
 obtain⟨hs,q⟩:=h
 cases x with
 |non=>
  cases rx
  cases y with
  |non=>cases ry;exact PySem.EqNone.ne_none_none (zf I q (by simp))
  |bl j=>cases ry;exact PySem.EqNone.ne_none_bool (zf I q (by simp))
  |int j=>obtain⟨t',rfl⟩:=ry;exact PySem.EqNone.ne_none_int (zf I q (by simp))
  |str j=>obtain⟨t',rfl⟩:=ry;exact PySem.EqNone.ne_none_str (zf I q (by simp))
  |_=>exact absurd (show false=true from hs) Bool.false_ne_true
 |bl i=>
  cases rx
  cases y with
  |non=>cases ry;exact PySem.EqNone.ne_bool_none (zf I q (by simp))
  |bl j=>cases ry;exact ne_bool (zf I q (congrArg not Vu))
  |str j=>obtain⟨t',rfl⟩:=ry;exact PySem.EqMixed.ne_bool_str (zf I q (by simp))
  |_=>exact absurd (show false=true from hs) Bool.false_ne_true
 |int i=>
  obtain⟨t,rfl⟩:=rx
  cases y with
  |non=>cases ry;exact PySem.EqNone.ne_int_none (zf I q (by simp))
  |int j=>obtain⟨t',rfl⟩:=ry;exact ne_int (zf I q (congrArg not Qw))
  |str j=>obtain⟨t',rfl⟩:=ry;exact PySem.EqMixed.ne_int_str (zf I q (by simp))
  |_=>exact absurd (show false=true from hs) Bool.false_ne_true
 |str i=>
  obtain⟨t,rfl⟩:=rx
  cases y with
  |non=>cases ry;exact PySem.EqNone.ne_str_none (zf I q (by simp))
  |bl j=>cases ry;exact PySem.EqMixed.ne_str_bool (zf I q (by simp))
  |int j=>obtain⟨t',rfl⟩:=ry;exact PySem.EqMixed.ne_str_int (zf I q (by simp))
  |str j=>obtain⟨t',rfl⟩:=ry;exact ne_str (zf I q (congrArg not Qx))
  |_=>exact absurd (show false=true from hs) Bool.false_ne_true
 |byt i=>
  obtain⟨t,rfl⟩:=rx
  cases y with
  |byt j=>obtain⟨t',rfl⟩:=ry;exact PySem.W.ne_bytes (zf I q (congrArg not Qo))
  |_=>exact absurd (show false=true from hs) Bool.false_ne_true
 |_=>cases y<;>exact absurd (show false=true from hs) Bool.false_ne_true
theorem z0S:OpR X (compareOp .Lt) (rI0 λi j=>.bl (decide (i<j))):=JN λ_ _ _ _ _ _ _ q=>lt_int q
theorem z1o:OpR X (compareOp .LtE) (rI0 λi j=>.bl (decide (i<=j))):=JN λ_ _ _ _ _ _ _ q=>le_int q
theorem z1r:OpR X (compareOp .Gt) (rI0 λi j=>.bl (decide (j<i))):=JN λ_ _ _ _ _ _ _ q=>gt_int q
theorem z1j:OpR X (compareOp .GtE) (rI0 λi j=>.bl (decide (j<=i))):=JN λ_ _ _ _ _ _ _ q=>ge_int q
theorem Wm:OpR X (compareOp .In) (λx y H Q=>∃i j,x=.str i/\y=.str j/\Q (.bl (!(Builtin.Str.occurrences j i 0 j.length 1).isEmpty)) H):=by
 intro pins s σ H x y v u Q I rx ry h
 obtain⟨i,j,rfl,rfl,q⟩:=h
 obtain⟨t,rfl⟩:=rx
 obtain⟨t',rfl⟩:=ry
 exact in_str (zf I q rfl)
theorem z0c:OpR X (compareOp .Is) (λx y H Q=>y=.non/\Q (.bl (decide (x=.non))) H):=by
 intro pins s σ H x y v u Q I rx ry h
 obtain⟨rfl,q⟩:=h
 cases ry
 refine is_none_gen (zf I q ?_)
 cases x<;>first
  |(cases rx;rfl)
  |(obtain⟨t,rfl⟩:=rx;rfl)
theorem Kd:OpR X (compareOp .IsNot) (λx y H Q=>y=.non/\Q (.bl (!decide (x=.non))) H):=by
 intro pins s σ H x y v u Q I rx ry h
 obtain⟨rfl,q⟩:=h
 cases ry
 refine isnot_none_gen (zf I q ?_)
 cases x<;>first
  |(cases rx;rfl)
  |(obtain⟨t,rfl⟩:=rx;rfl)
theorem yI:OpR X (compareOp .NotIn) (λx y H Q=>∃i j,x=.str i/\y=.str j/\Q (.bl (!(!(Builtin.Str.occurrences j i 0 j.length 1).isEmpty))) H):=by
 intro pins s σ H x y v u Q I rx ry h
 obtain⟨i,j,rfl,rfl,q⟩:=h
 obtain⟨t,rfl⟩:=rx
 obtain⟨t',rfl⟩:=ry
 exact notIn_str (zf I q rfl)
theorem VS(b:Expr){op:CmpOp}(h:op≠.In:=by decide)(h2:op≠.NotIn:=by decide):behindInMarks op b=false:=by
 have e1:(op == CmpOp.In)=false:=by cases op<;>first|rfl|exact absurd rfl h
 have e2:(op == CmpOp.NotIn)=false:=by cases op<;>first|rfl|exact absurd rfl h2
 cases b<;>simp[behindInMarks,e1,e2]
theorem jQ:(sizeLine:Nat)<2 ^ 63:=by rw[sizeLine_eq];decide
theorem ZA:OpR X (binaryOp .Add) (λx y H Q=>∃i j,x=.str i/\y=.str j/\i.length+j.length<=sizeLine/\Q (.str (i++j)) H):=by
 intro pins s σ H x y v u Q I rx ry h
 obtain⟨i,j,rfl,rfl,hz,q⟩:=h
 obtain⟨t,rfl⟩:=rx
 obtain⟨t',rfl⟩:=ry
 exact add_str (λt' tk=>⟨.str (i++j),H,I.tok _,⟨_,rfl⟩,q⟩) hz
theorem vals1{x:V}{us:List Value}(r:Vals [x] us):∃u,us=[u]/\RelV x u:=by
 cases r with
 |cons r1 r2=>cases r2;exact⟨_,rfl,r1⟩
theorem vals2{x y:V}{us:List Value}(r:Vals [x,y] us):∃u w',us=[u,w']/\RelV x u/\RelV y w':=by
 cases r with
 |cons r1 r2=>
  cases r2 with
  |cons r3 r4=>cases r4;exact⟨_,_,rfl,r1,r3⟩
theorem yd:Vj X (.type "int") (λxs H Q=>(∃i,xs=[.int i]/\Q (.int i) H)\/∃k,xs=[.bl k]/\Q (.int (if k then 1 else 0)) H):=by
 intro pins s σ H xs us Q I r h
 rcases h with⟨i,rfl,q⟩|⟨k,rfl,q⟩
 ·obtain⟨u,rfl,t,rfl⟩:=vals1 r
  exact call_int_int ⟨.int i,H,I,⟨_,rfl⟩,q⟩
 ·obtain⟨u,rfl,r1⟩:=vals1 r
  cases r1
  exact call_int_bool ⟨.int (if k then 1 else 0),H,I.tok _,⟨_,rfl⟩,q⟩
end
end L2
namespace L2
open PySem PySem.Spec PyProof.Rows
structure ObjM(h:Heap)(x dx C:Addr)(mA:Str->Option Value):Prop where
 obj:h.get? x=some (PySem.W.instObj C dx)
 ns:h.Ns1 dx mA
 ne:dx≠x
theorem QJ{h:Heap}{dx:Addr}{mA:Str->Option Value}(n:h.Ns1 dx mA):∃od,h.get? dx=some od/\∀name,PySem.W.lookIn name od=some (mA name):=by
 obtain⟨o,es,ep,ho,hd,hk,_,hm⟩:=n
 refine⟨o,ho,λname=>?_⟩
 have e:=hm name
 unfold nsFind findBy at e
 rw[←Array.find?_toList] at e
 unfold PySem.W.lookIn
 rw[hd]
 dsimp only
 split
 ·rename_i y q
  rw[q] at e
  exact congrArg some e
 ·rename_i q
  rw[q] at e
  have a:es.toList.any (·.refKey)=false:=by
   rw[List.any_eq_false]
   intro y hy
   obtain⟨z,t,hkey⟩:=hk y (Array.mem_toList_iff.mp hy)
   simp[DictEntry.refKey,hkey]
  have a':¬es.toList.any (·.refKey)=true:=by rw[a];exact Bool.false_ne_true
  rw[if_neg a']
  exact congrArg some e
theorem ObjM.look{h:Heap}{x dx C:Addr}{mA:Str->Option Value}(I:ObjM h x dx C mA):∃od,PySem.W.InstAt h x (PySem.W.instObj C dx) C (some od)/\∀name,PySem.W.lookIn name od=some (mA name):=
 let ⟨od,ho,hl⟩:=QJ I.ns
 ⟨od,⟨I.obj,rfl,rfl,ho⟩,hl⟩
section
variable {prog:Program}{w:World}{A:Around}{E:Value->Shared->Prop}{s:Shared}{K:PySem.W.Frag}{x dx C f:Addr}{mA:Str->Option Value}{name:Str}{v:Value}
theorem get_map{expr:Bool}{Q:Value->Shared->Prop}(X:K.In s.heap)(I:ObjM s.heap x dx C mA)(hg:PySem.W.plainGet K C name=true)(hh:PySem.W.hasDictIn K C=true)
  (ha:PySem.W.findIn K (.ref C) name=some none) (hv:mA name=some v) (hv':PySem.W.handedIn v=true) (h:Q v {s with toks:=s.toks+1}) :
  wpAny (model prog w) A (getAttr (.ref x) name expr) Q E s:=by
 obtain⟨od,J,hl⟩:=I.look
 exact PySem.W.get_value X J (PySem.W.plainGet_of hg).1 (PySem.W.findObj_own hh ha rfl (by rw[hl,hv])) hv' h
theorem WA{pl:Sem Bool}{Q:Value×List Value->Shared->Prop}(X:K.In s.heap)(I:ObjM s.heap x dx C mA)(hg:PySem.W.plainGet K C name=true)
  (hf:PySem.W.findIn K (.ref C) name=some (some (.ref f))) (ht:PySem.W.isFn K (.ref f)=true) (hv:mA name=none) (h:Q (.ref f,[.ref x]) s) :
  wpAny (model prog w) A (getMethod (.ref x) name pl) Q E s:=by
 obtain⟨od,J,hl⟩:=I.look
 exact PySem.W.method_fn X J (PySem.W.plainGet_of hg).1 (PySem.W.plainGet_of hg).2 hf (beq_iff_eq.mp ht) (by show (PySem.W.lookIn name od).map (·.isSome)=some false;rw[hl,hv];rfl) h
theorem X6{ns:List Str}{Q:Unit->Shared->Prop}(X:K.In s.heap)(I:ObjM s.heap x dx C mA)
  (hs:PySem.W.findIn K (.ref C) "__setattr__"=some (some (.builtin "object.__setattr__"))) (hp:PySem.W.plainOver K C=true) (ht:PySem.W.takerIn K C name=some none) (hh:PySem.W.hasDictIn K C=true)
  (hw:PySem.Within mA ns) (hsz:ns.length<=sizeLine)
  (h:∀h',ObjM h' x dx C (λy=>if y=name then some v else mA y)->Heap.SameBut dx s.heap h'->Q () {s with heap:=h',toks:=s.toks+2}) :
  wpAny (model prog w) A (setAttr (.ref x) name v) Q E s:=by
 obtain⟨od,J,hl⟩:=I.look
 refine PySem.W.set_plain X J hs (PySem.W.osa_open (s:={s with toks:=s.toks+1}) (r:=none) X J hp ht λb=>?_)
 obtain⟨cd,hc,hd'⟩:=PySem.W.any_some hh
 have hx:s.heap.get? x=some ⟨.ref C,some dx,.plain,#[]⟩:=I.obj
 refine wpAny_bind (wpAny_pure (wpAny_bind (wpAny_bind (wpAny_loadPart hx (wpAny_bind (PySem.W.Looks.here (s:={s with toks:=s.toks+1}) (PySem.W.looks_clsIn X hc) ?_))))))
 rw[hd']
 refine wpAny_pure (a:=some dx) (wpAny_bind (wpAny_pure (wpAny_bind ?_)))
 refine wpAny_nsSet1 (s:={s with toks:=s.toks+1}) I.ns λh' hn2 hs2=>?_
 obtain⟨oD,esD,epD,hoD,hdD,hcD⟩:=hn2.count (PySem.Within.cons name v hw)
 refine wpAny_bind (wpAny_lookBehind hoD (by rw[hdD];exact pastItsLine_dict (Nat.le_trans hcD (by rw[List.length_cons];omega))) ?_)
 exact wpAny_pure (h _ ⟨(hs2.2 _ (Ne.symm I.ne)).trans I.obj,hn2,I.ne⟩ hs2)
theorem u6{R:Result->Shared->Prop}{vs:List Value}{kw:List (Str×Value)}(X:K.In s.heap)(hm:PySem.W.makesIn K C=true)
  (hi:PySem.W.findIn K (.ref C) "__init__"=some (some (.ref f))) (hf:PySem.W.typeIn K (.ref f)=some (.type "function"))
  (h:codeAny (model prog w) (A.under (.builtin "type.__call__" ⟨.ref C::vs,kw⟩)) (.call (.ref f) ⟨.ref (s.heap.objs.size+1)::vs,kw⟩) (PySem.W.InitBack (s.heap.objs.size+1) R)
   {s with heap:=(s.heap.push PySem.W.emptyDict).push (PySem.W.instObj C s.heap.objs.size)}) :
  codeAny (model prog w) A (.call (.ref C) ⟨vs,kw⟩) R s:=by
 obtain⟨hh,g,d,t,os⟩:=s
 exact PySem.W.make_core (PySem.W.makes_of X hm) (PySem.W.looks_findIn X hi) (λself=>PySem.W.bind_fn X self hf) (.inl rfl) h
end
noncomputable def qN(f:Str)(v:V):List (Str×V)->List (Str×V)
 |[]=>[(f,v)]
 |(g,x)::r=>if g=f then (g,v)::r else (g,x)::qN f v r
theorem jf(f g:Str)(v:V):∀fs:List (Str×V),(qN f v fs).lookup g=if g=f then some v else fs.lookup g
 |[]=>by
  show List.lookup g [(f,v)]=_
  by_cases h:g=f
  ·have hb:(g == f)=true:=beq_iff_eq.mpr h
   simp only[List.lookup,hb,if_pos h]
  ·have hb:(g == f)=false:=beq_eq_false_iff_ne.mpr h
   simp only[List.lookup,hb,if_neg h]
 |(k,x)::r=>by
  have ih:=jf f g v r
  rw[show qN f v ((k,x)::r)=(if k=f then (k,v)::r else (k,x)::qN f v r) from rfl]
  by_cases hk:k=f
  ·rw[if_pos hk]
   by_cases h:g=k
   ·have hb:(g == k)=true:=beq_iff_eq.mpr h
    simp only[List.lookup,hb,if_pos (h.trans hk)]
   ·have hb:(g == k)=false:=beq_eq_false_iff_ne.mpr h
    simp only[List.lookup,hb,if_neg (λe:g=f=>h (e.trans hk.symm))]
  ·rw[if_neg hk]
   by_cases h:g=k
   ·have hb:(g == k)=true:=beq_iff_eq.mpr h
    simp only[List.lookup,hb,if_neg (λe:g=f=>hk (h.symm.trans e))]
   ·have hb:(g == k)=false:=beq_eq_false_iff_ne.mpr h
    simp only[List.lookup,hb]
    exact ih
theorem j6(f:Str)(v:V):∀fs:List (Str×V),f∈(qN f v fs).map (·.1)/\∀g,g∈fs.map (·.1)->g∈(qN f v fs).map (·.1)
 |[]=>⟨by simp[qN],λg h=>by simp at h⟩
 |(k,x)::r=>by
  obtain⟨i1,i2⟩:=j6 f v r
  rw[show qN f v ((k,x)::r)=(if k=f then (k,v)::r else (k,x)::qN f v r) from rfl]
  by_cases hk:k=f
  ·rw[if_pos hk]
   subst hk
   exact⟨by simp,λg h=>by simpa using h⟩
  ·rw[if_neg hk]
   refine⟨?_,λg h=>?_⟩
   ·rw[List.map_cons]
    exact List.mem_cons_of_mem _ i1
   ·rw[List.map_cons] at h ⊢
    rcases List.mem_cons.mp h with e|e
    ·exact List.mem_cons.mpr (.inl e)
    ·exact List.mem_cons_of_mem _ (i2 g e)
theorem jj(f:Str)(v:V):∀fs:List (Str×V),(qN f v fs).length<=fs.length+1
 |[]=>by simp[qN]
 |(k,x)::r=>by
  have ih:=jj f v r
  rw[show qN f v ((k,x)::r)=(if k=f then (k,v)::r else (k,x)::qN f v r) from rfl]
  by_cases hk:k=f
  ·rw[if_pos hk,List.length_cons,List.length_cons];omega
  ·rw[if_neg hk,List.length_cons,List.length_cons];omega
theorem RelO.some_of{v:V}{o:Option Value}(r:RelO (some v) o):∃u,o=some u/\RelV v u:=by
 cases o with
 |none=>exact (show False from r).elim
 |some u=>exact⟨u,rfl,r⟩
theorem RelO.none_of{o:Option Value}(r:RelO none o):o=none:=by
 cases o with
 |none=>rfl
 |some u=>exact (show False from r).elim
theorem QE{v:V}{u:Value}(r:RelV v u):PySem.W.handedIn u=true:=by
 cases v with
 |non=>cases (show u=Value.none from r);rfl
 |bl b=>cases (show u=Value.bool b from r);rfl
 |int i=>obtain⟨t,e⟩:=(show ∃t,u=Value.int i t from r);cases e;rfl
 |str x=>obtain⟨t,e⟩:=(show ∃t,u=Value.str x t from r);cases e;rfl
 |byt b=>obtain⟨t,e⟩:=(show ∃t,u=Value.bytes b t from r);cases e;rfl
 |flt b=>obtain⟨t,e⟩:=(show ∃t,u=Value.float b t from r);cases e;rfl
 |ref a=>cases (show u=Value.ref a from r);rfl
 |ty n=>cases (show u=Value.type n from r);rfl
section
variable {P:Program}{w:World}{H H':Hp}{h h':Heap}{a C dx:Addr}{fs fs':List (Str×V)}
theorem jE(hok:HOk P w H h)(e:H a=some (.ins C dx fs)):∃mA,ObjM h a dx C mA/\(∀f,RelO (fs.lookup f) (mA f))/\PySem.Within mA (fs.map (·.1))/\fs.length<=1000/\H dx=some (.own a):=by
 obtain⟨d,z,ne,ob,mA,n,r,q⟩:=(show ObjOk P w H h a (.ins C dx fs) from hok a _ e)
 exact⟨mA,⟨ob,n,ne⟩,r,q,z,d⟩
end
structure Cls(K:PySem.W.Frag)(C:Addr):Prop where
 pg:PySem.W.plainGet K C Str.empty=true
 hd:PySem.W.hasDictIn K C=true
 po:PySem.W.plainOver K C=true
 sa:PySem.W.findIn K (.ref C) "__setattr__"=some (some (.builtin "object.__setattr__"))
theorem Cls.get{K:PySem.W.Frag}{C:Addr}(c:Cls K C)(f:Str):PySem.W.plainGet K C f=true:=c.pg
noncomputable def NoAttr(K:PySem.W.Frag)(C:Addr)(f:Str):Prop:=PySem.W.findIn K (.ref C) f=some none
theorem NoAttr.taker{K:PySem.W.Frag}{C:Addr}{f:Str}(n:NoAttr K C f):PySem.W.takerIn K C f=some none:=by
 unfold PySem.W.takerIn
 rw[show PySem.W.findIn K (.ref C) f=some none from n]
 rfl
structure Meth(K:PySem.W.Frag)(C:Addr)(m:Str)(f:Addr):Prop where
 at_:PySem.W.findIn K (.ref C) m=some (some (.ref f))
 fn:PySem.W.isFn K (.ref f)=true
 kp:PySem.W.keepIn K (.ref f)=true
section
variable {X:Cx}{pins:List (Addr×Obj)}{σ:St}{H:Hp}{s:Shared}{a C dx:Addr}{fs:List (Str×V)}{f:Str}{v:V}{A:Around}{E:Value->Shared->Prop}
theorem Ze{b:Bool}{Q:Value->Shared->Prop}(I:Inv X pins σ H s)(e:H a=some (.ins C dx fs))(c:Cls X.K C)(n:NoAttr X.K C f)(l:fs.lookup f=some v)
  (h:∀u s',Inv X pins σ H s'->RelV v u->Q u s'):wpAny (model X.prog X.w) A (getAttr (.ref a) f b) Q E s:=by
 obtain⟨mA,O,r,_,_,_⟩:=jE I.hok e
 obtain⟨u,hu,ru⟩:=RelO.some_of (v:=v) (o:=mA f) (by rw[←l];exact r f)
 exact get_map I.kIn O (c.get f) c.hd n hu (QE ru) (h u _ (I.tok _) ru)
theorem Zn{m:Str}{g:Addr}{pl:Sem Bool}{Q:Value×List Value->Shared->Prop}(I:Inv X pins σ H s)(e:H a=some (.ins C dx fs))(c:Cls X.K C)(k:Meth X.K C m g)(l:fs.lookup m=none)
  (h:Q (.ref g,[.ref a]) s):wpAny (model X.prog X.w) A (getMethod (.ref a) m pl) Q E s:=by
 obtain⟨mA,O,r,_,_,_⟩:=jE I.hok e
 have hn:mA m=none:=RelO.none_of (by rw[←l];exact r m)
 exact WA I.kIn O (c.get m) k.at_ k.fn hn h
theorem Z5{y:V}{u:Value}{Q:Unit->Shared->Prop}(I:Inv X pins σ H s)(e:H a=some (.ins C dx fs))(c:Cls X.K C)(n:NoAttr X.K C f)(hl:fs.length<1000)(ry:RelV y u)
  (h:∀s',Inv X pins σ (upd H a (.ins C dx (qN f y fs))) s'->Q () s'):wpAny (model X.prog X.w) A (setAttr (.ref a) f u) Q E s:=by
 obtain⟨mA,O,r,wi,_,ho⟩:=jE I.hok e
 have hz:(fs.map (·.1)).length<=sizeLine:=by rw[List.length_map,sizeLine_eq];omega
 refine X6 I.kIn O c.sa c.po n.taker c.hd wi hz λh' O' sb=>h _ ?_
 have hd:∃o,h'.get? dx=some o:=let ⟨o,_,_,e',_⟩:=O'.ns;⟨o,e'⟩
 refine I.write (x:=a) (e:=dx) (by rw[e];exact True.intro) (.inr ho) (λb q hb z=>(sb.2 b hb).trans z) hd ?_
 refine⟨by rw[z8 O.ne];exact ho,?_,O.ne,O'.obj,_,O'.ns,λg=>?_,λg hg=>?_⟩
 ·have:=jj f y fs;omega
 ·show RelO ((qN f y fs).lookup g) (if g=f then some u else mA g)
  rw[jf]
  by_cases q:g=f
  ·rw[if_pos q,if_pos q];exact ry
  ·rw[if_neg q,if_neg q];exact r g
 ·by_cases q:g=f
  ·rw[q];exact (j6 f y fs).1
  ·refine (j6 f y fs).2 g (wi g λz=>hg ?_)
   show (if g=f then some u else mA g)=none
   rw[if_neg q];exact z
theorem Inv.made(I:Inv X pins σ H s):Inv X pins σ (upd (upd H s.heap.objs.size (.own (s.heap.objs.size+1))) (s.heap.objs.size+1) (.ins C s.heap.objs.size []))
  {s with heap:=(s.heap.push PySem.W.emptyDict).push (PySem.W.instObj C s.heap.objs.size)}:=by
 have e1:(s.heap.push PySem.W.emptyDict).get? s.heap.objs.size=some PySem.W.emptyDict:=Heap.get?_push_size s.heap rfl
 have e2:((s.heap.push PySem.W.emptyDict).push (PySem.W.instObj C s.heap.objs.size)).get? (s.heap.objs.size+1)=some (PySem.W.instObj C s.heap.objs.size):=by
  have:=Heap.get?_push_size (s.heap.push PySem.W.emptyDict) (o:=PySem.W.instObj C s.heap.objs.size) rfl
  rwa[Heap.size_push] at this
 have e3:(s.heap.push PySem.W.emptyDict).Ns s.heap.objs.size (λ_=>none):=⟨PySem.W.emptyDict,#[],_,e1,rfl,(λe he=>absurd he (by simp)),λ_=>rfl⟩
 have I1:=I.laid (a:=s.heap.objs.size) (o:=.own (s.heap.objs.size+1)) (h':=s.heap.push PySem.W.emptyDict) (t':=s.toks) (λb u q=>Heap.get?_push_of_some _ q) (Nat.le_refl _) ⟨_,e1⟩
 refine I1.laid (a:=s.heap.objs.size+1) (o:=.ins C s.heap.objs.size []) (t':=s.toks) (λb u q=>Heap.get?_push_of_some _ q) (Nat.le_of_eq (Heap.size_push _ _)) ?_
 have ne:s.heap.objs.size≠s.heap.objs.size+1:=Nat.ne_of_lt (Nat.lt_succ_self _)
 refine⟨by rw[z8 ne,z6],Nat.zero_le _,ne,e2,λ_=>none,(Heap.Ns1.of_empty e3).at λo q=>Heap.get?_push_of_some _ q,λ_=>True.intro,λy hy=>absurd rfl hy⟩
theorem Kl{prog:Program}{w:World}{env:Env}{e:Expr}{f:Str}{pos:Pos}{s:Shared}{Q:Value->Shared->Prop}(hb:attributeBase e f env (eval e env)=eval e env)
  (h:wpAny (model prog w) A (eval e env) (λo s₁=>wpAny (model prog w) A (getAttr o f true) Q E s₁) E s):wpAny (model prog w) A (eval (.Attribute e f pos) env) Q E s:=
 Attribute_any_ h (by rw[arm_eval_Attribute,hb])
end
noncomputable def z1K (K:PySem.W.Frag)(ta:TE)(f:Str):TE:=λσ H Q=>ta σ H λx H1=>∃a C dx fs v,x=.ref a/\H1 a=some (.ins C dx fs)/\Cls K C/\NoAttr K C f/\fs.lookup f=some v/\Q v H1
noncomputable def wZ (K:PySem.W.Frag)(ta tv:TE)(f:Str):TS:=λD σ H=>tv σ H λy H1=>ta σ H1 λx H2=>∃a C dx fs,x=.ref a/\H2 a=some (.ins C dx fs)/\Cls K C/\NoAttr K C f/\fs.length<1000/\
 D.nx σ (upd H2 a (.ins C dx (qN f y fs)))
section
variable {X:Cx}{o e value:Expr}{f:Str}{pos pos' tpos:Pos}{ta tv:TE}
theorem Uu(he:PE X e ta)(hb:attributeBase e f X.env (eval e X.env)=eval e X.env):PE X (.Attribute e f pos) (z1K X.K ta f):=by
 intro pins s σ H Q I h
 refine Kl hb (thn (he pins s σ H _ I h) λu s1 ⟨x,H1,I1,rx,a,C,dx,fs,v,ex,ea,c,n,l,q⟩=>?_)
 subst ex
 obtain rfl:u=Value.ref a:=rx
 exact Ze I1 ea c n l λu' s2 I2 ru=>⟨v,H1,I2,ru,q⟩
theorem z0l(ha:PE X o ta)(hv:PE X value tv)(hs:swapsWith value (some (.Attribute o f pos')) pos.line X.env=pure false):PS X (.Assign [.Attribute o f pos'] value pos) (wZ X.K ta tv f):=by
 intro pins s σ H D I h
 refine plainObj_wpAny_Assign_Attribute (thn (hv pins s σ H _ I h) λu s1 ⟨y,H1,I1,ry,q⟩=>thn (ha pins s1 σ H1 _ I1 q) λov s2 ⟨x,H2,I2,rx,a,C,dx,fs,ex,ea,c,n,l,q2⟩=>?_) hs
 subst ex
 obtain rfl:ov=Value.ref a:=rx
 exact Z5 I2 ea c n l ry λs3 I3=>⟨σ,_,I3,q2⟩
noncomputable def YM:V->V->Hp->VK->Prop:=λx y H Q=>∃i j,x=.int i/\y=.int j/\Q (.int (i-j)) H
end
end L2
namespace L2
open PySem PySem.Spec PyProof.Rows
structure Room(k:Nat)(A:Around):Prop where
 hd:A.handled=none
 dp:A.depth+3 * k+5<recursionLimit
 un:A.units+16 * k+200<cLine
theorem Room.mono{j k:Nat}{A:Around}(r:Room k A)(h:j<=k):Room j A:=⟨r.hd,by have:=r.dp;omega,by have:=r.un;omega⟩
theorem Room.deeper{k:Nat}{A:Around}(r:Room (k+1) A)(env:Env):Room k (A.deeper env):=
 ⟨r.hd,by have:=r.dp;show A.depth+1+3 * k+5<_;omega,by have:=r.un;show A.units+3+16 * k+200<_;omega⟩
theorem u_{A:Around}{C:Addr}{us:List Value}{kw:List (Str×Value)}:(A.under (.builtin "type.__call__" ⟨.ref C::us,kw⟩)).depth=A.depth+1:=by
 first|rfl|simp[Around.under,Code.weight,Code.isCreation,Code.isGuard,Code.isCaller,Code.frames,Code.isFrame,guardIds]
theorem Zc{A:Around}{C:Addr}{us:List Value}{kw:List (Str×Value)}:(A.under (.builtin "type.__call__" ⟨.ref C::us,kw⟩)).units=A.units+1:=by
 first|rfl|simp[Around.under,Code.cUnits,Code.frames,Code.isFrame]
theorem Room.make{k:Nat}{A:Around}(r:Room (k+1) A)(C:Addr)(us:List Value)(kw:List (Str×Value)):Room k (A.under (.builtin "type.__call__" ⟨.ref C::us,kw⟩)):=
 ⟨r.hd,by have:=r.dp;rw[u_];omega,by have:=r.un;rw[Zc];omega⟩
theorem Room.depth{k:Nat}{A:Around}(r:Room k A):A.depth<recursionLimit:=by have:=r.dp;omega
noncomputable def z1U:TA:=λ_ H Q=>Q [] H
noncomputable def z0L(ta:TE)(tr:TA):TA:=λσ H Q=>ta σ H λx H1=>tr σ H1 λxs H2=>Q (x::xs) H2
section
variable {X:Cx}{e:Expr}{es:List Expr}{te:TE}{t:TA}{pos:Pos}
theorem qb:PA X [] z1U:=λ_ _ _ _ H Q I h=>Calls.spliced_nil ⟨[],H,I,.nil,h⟩
theorem zt(ha:PE X e te)(hr:PA X es t)(hs:starEach (e::es) X.env=(false,eval e X.env)::starEach es X.env:=by rfl):PA X (e::es) (z0L te t):=by
 intro pos pins s σ H Q I h
 rw[hs]
 show wpAny _ _ (spliced ((false,eval e X.env)::backTo pos (starEach es X.env))) _ _ s
 refine Calls.spliced_cons (thn (ha pins s σ H _ I h) λu s1 ⟨x,H1,I1,r1,q1⟩=>?_)
 exact thn (hr pos pins s1 σ H1 _ I1 q1) λus s2 ⟨xs,H2,I2,r2,q2⟩=>⟨x::xs,H2,I2,.cons r1 r2,q2⟩
noncomputable def z23 (t:TA):TE:=λσ H Q=>t σ H λxs H1=>xs.length<=sizeLine/\∀p,H1 p=none->Q (.ref p) (upd H1 p (.tup xs))
noncomputable def z1Q (t:TA):TE:=λσ H Q=>t σ H λxs H1=>xs.length<=sizeLine/\∀p,H1 p=none->Q (.ref p) (upd H1 p (.lst xs))
theorem VM{x1}(h:PA X es t):PE X (.Tuple es x1 pos) (z23 t):=by
 intro pins s σ H Q I hq
 refine wpAny_Tuple_spliced (thn (h pos pins s σ H _ I hq) λus s1 ⟨xs,H1,I1,r,z,q⟩=>⟨by rw[←r.length];exact z,?_⟩)
 have hf:H1 s1.heap.objs.size=none:=I1.hok.fresh (Nat.le_refl _)
 refine⟨.ref s1.heap.objs.size,upd H1 s1.heap.objs.size (.tup xs),I1.laid (t':=s1.toks) (λb u e=>Heap.get?_push_of_some _ e) (Nat.le_refl _) ?_,rfl,q _ hf⟩
 exact⟨z,us,r,⟨_,Heap.get?_push_size _ rfl,rfl,_,rfl⟩⟩
theorem Jx(h:PA X es t):PE X (.List es pos) (z1Q t):=by
 intro pins s σ H Q I hq
 refine wpAny_List_spliced (thn (h pos pins s σ H _ I hq) λus s1 ⟨xs,H1,I1,r,z,q⟩=>⟨by rw[←r.length];exact z,?_⟩)
 have hf:H1 s1.heap.objs.size=none:=I1.hok.fresh (Nat.le_refl _)
 refine⟨.ref s1.heap.objs.size,upd H1 s1.heap.objs.size (.lst xs),I1.laid (t':=s1.toks) (λb u e=>Heap.get?_push_of_some _ e) (Nat.le_refl _) ?_,rfl,q _ hf⟩
 exact⟨z,us,0,r,Heap.get?_push_size _ rfl⟩
end
noncomputable abbrev Sp:=List V->Hp->VK->XK->Prop
noncomputable abbrev CXT:=List Env->Hp->Shared->XK->Value->Shared->Prop
structure Env0(P:Program)(w:World)(K:PySem.W.Frag)(mg:Str->Option Value)(base:Heap)(A:Around)(outer:List Env)(s:Shared)(H:Hp):Prop where
 frames:A.frames=some outer
 mod:Mod K mg base
 bs:∀b o,base.get? b=some o->s.heap.get? b=some o/\H b=none
 bsz:base.objs.size<=s.heap.objs.size
 funs:s.heap.FunFrames base outer
 frf:∀b∈frs outer,H b=none
 hok:HOk P w H s.heap
 bare:AllBare s.gens
inductive CE(outer:List Env)(P:Program)(w:World)(H:Hp)(s:Shared)(Q:VK)(u:Value)(s':Shared):Prop where
 |mk (v:V) (H':Hp) (o:s'.os=s.os) (b:AllBare s'.gens) (n:Un (frs outer) [] H H' s.heap s'.heap) (k:HOk P w H' s'.heap) (r:RelV v u) (q:Q v H')
noncomputable def CR (CX:CXT)(outer:List Env)(P:Program)(w:World)(H:Hp)(s:Shared)(Q:VK)(E:XK)(r:Result)(s':Shared):Prop:=
 match r with
 |.ok (.ret u)=>CE outer P w H s Q u s'
 |.ok _=>False
 |.error e=>CX outer H s E e s'
structure FnOk(P:Program)(w:World)(K:PySem.W.Frag)(mg:Str->Option Value)(base:Heap)(CX:CXT)(k:Nat)(f:Addr)(fd:FuncData)(ps:List Str)(sp:Sp):Prop where
 len:∀vs H Q E,sp vs H Q E->vs.length=ps.length
 run:∀(A:Around) (outer:List Env) (s:Shared) (H:Hp) (args:Args) (us:List Value) (vs:List V) (Q:VK) (E:XK),Room k A->Env0 P w K mg base A outer s H->BindsTo s fd args (ps.zip us)->Vals vs us->sp vs H Q E->
  codeAny (model P w) A (.call (.ref f) args) (CR CX outer P w H s Q E) s
theorem FnOk.imp{P:Program}{w:World}{K:PySem.W.Frag}{mg:Str->Option Value}{base:Heap}{CX:CXT}{k:Nat}{f:Addr}{fd:FuncData}{ps:List Str}{sp sp':Sp}(F:FnOk P w K mg base CX k f fd ps sp)
  (h:∀vs H Q E,sp' vs H Q E->sp vs H Q E):FnOk P w K mg base CX k f fd ps sp':=
 ⟨λvs H Q E q=>F.len vs H Q E (h _ _ _ _ q),λA outer s H args us vs Q E hr he hb hv hs=>F.run A outer s H args us vs Q E hr he hb hv (h _ _ _ _ hs)⟩
theorem Env0.make{P:Program}{w:World}{K:PySem.W.Frag}{mg:Str->Option Value}{base:Heap}{A:Around}{outer:List Env}{s:Shared}{H:Hp}(e:Env0 P w K mg base A outer s H)(C:Addr)(us:List Value)(kw:List (Str×Value)) :
  Env0 P w K mg base (A.under (.builtin "type.__call__" ⟨.ref C::us,kw⟩)) outer s H:=⟨by first|exact e.frames|(simpa[Around.under,Code.envs,Code.isFrame,pushEnvs] using e.frames),e.mod,e.bs,e.bsz,e.funs,e.frf,e.hok,e.bare⟩
theorem Env0.in1{P:Program}{w:World}{K:PySem.W.Frag}{mg:Str->Option Value}{base:Heap}{A:Around}{outer:List Env}{s:Shared}{H:Hp}(e:Env0 P w K mg base A outer s H) :
  Env0 P w K mg base A.in1 outer s H:=⟨e.frames,e.mod,e.bs,e.bsz,e.funs,e.frf,e.hok,e.bare⟩
section
variable {X:Cx}{pins:List (Addr×Obj)}{σ:St}{H:Hp}{s s':Shared}
theorem Inv.env0(I:Inv X pins σ H s):Env0 X.prog X.w X.K X.mg X.base X.A X.stack s H:=
 ⟨I.ok.frames,I.ok.mod,I.bs,Nat.le_trans I.ok.bsz I.sz,I.stack,I.stkFree,I.hok,I.bare⟩
theorem Inv.after{Q:VK}{u:Value}(I:Inv X pins σ H s)(h:CE X.stack X.prog X.w H s Q u s'):EP X pins σ Q u s':=by
 obtain⟨v,H',os,bare,un,hok,r,q⟩:=h
 obtain⟨hh,g,d,t,os'⟩:=s'
 obtain rfl:os'=s.os:=os
 exact⟨v,H',I.call (h':=hh) (g':=g) (d':=d) (t':=t) (ch:=[]) un hok bare (λb z=>absurd z (by simp)),r,q⟩
end
noncomputable def Binds(K:PySem.W.Frag)(fd:FuncData)(ps:List Str)(ds:List Value):Prop:=
 ∀(s:Shared) (us:List Value),K.In s.heap->(us++ds).length=ps.length->BindsTo s fd ⟨us,[]⟩ (ps.zip (us++ds))
theorem Binds.all{K:PySem.W.Frag}{fd:FuncData}{ps:List Str}(h:∀us:List Value,us.length=ps.length->bindArgs fd ⟨us,[]⟩=pure (ps.zip us)):Binds K fd ps []:=λs us _ hl=>by
 rw[List.append_nil] at hl ⊢
 exact .of_eq (h us hl)
section
variable {X:Cx}{CX:CXT}{k:Nat}{f C:Addr}{fd:FuncData}{ps:List Str}{sp:Sp}{dvs:List V}{ds:List Value}{E:XK}{x m:Str}{p pos apos:Pos}{e o:Expr}{es:List Expr}{ta:TE}{t:TA}
structure Mk(K:PySem.W.Frag)(C f:Addr):Prop where
 makes:PySem.W.makesIn K C=true
 init:PySem.W.findIn K (.ref C) "__init__"=some (some (.ref f))
 fn:PySem.W.isFn K (.ref f)=true
 kp:PySem.W.keepIn K (.ref C)=true
end
structure FnScope(N P:List Str)(sc:Scope):Prop where
 kind:sc.kind=.function
 co:sc.isCoroutine=false
 gen:sc.isGenerator=false
 nd:N.Nodup
 pre:N.take P.length=P
 par:∀x∈P,sc.names.lookup x=some .local\/sc.names.lookup x=some .cell
 nofree:∀y∈sc.names,y.2≠.free
theorem yb{kindOf:Str->Option NameKind}{x:Str}:∀{binds:List (Str×Value)} {m:Str->Option Value},(∀v,(x,v)∉binds)->bindL kindOf binds m x=m x
 |[],_,_=>rfl
 |(n,v)::r,m,h=>by
  unfold bindL
  rw[yb λw hw=>h w (List.mem_cons_of_mem _ hw)]
  split
  ·have:x≠n:=by rintro rfl;exact h v List.mem_cons_self
   simp[this]
  ·rfl
theorem xQ{kindOf:Str->Option NameKind}{x:Str}:∀{binds:List (Str×Value)} {m:Str->Option Value},(∀v,(x,v)∉binds)->bindC kindOf binds m x=m x
 |[],_,_=>rfl
 |(n,v)::r,m,h=>by
  unfold bindC
  rw[xQ λw hw=>h w (List.mem_cons_of_mem _ hw)]
  split
  ·rfl
  ·have:x≠n:=by rintro rfl;exact h v List.mem_cons_self
   simp[this]
theorem xX{kindOf:Str->Option NameKind}{x:Str}{v:Value}:∀{P:List Str} {vs:List Value} {i:Nat} {m:Str->Option Value},P.Nodup->P[i]?=some x->vs[i]?=some v->kindOf x=some .local->
  bindL kindOf (P.zip vs) m x=some v
 |[],_,_,_,_,h,_,_=>by simp at h
 |_::_,[],_,_,_,_,h,_=>by simp at h
 |p::P,w::vs,0,m,nd,h1,h2,hk=>by
  simp at h1 h2;subst h1;subst h2
  show bindL kindOf ((p,w)::P.zip vs) m p=_
  unfold bindL
  rw[yb λv hv=>(List.nodup_cons.mp nd).1 (List.of_mem_zip hv).1,if_pos hk]
  simp
 |p::P,w::vs,i+1,m,nd,h1,h2,hk=>by
  show bindL kindOf ((p,w)::P.zip vs) m x=_
  unfold bindL
  exact xX (i:=i) (List.nodup_cons.mp nd).2 (by simpa using h1) (by simpa using h2) hk
theorem ye{kindOf:Str->Option NameKind}{x:Str}{v:Value}:∀{P:List Str} {vs:List Value} {i:Nat} {m:Str->Option Value},P.Nodup->P[i]?=some x->vs[i]?=some v->kindOf x≠some .local->
  bindC kindOf (P.zip vs) m x=some v
 |[],_,_,_,_,h,_,_=>by simp at h
 |_::_,[],_,_,_,_,h,_=>by simp at h
 |p::P,w::vs,0,m,nd,h1,h2,hk=>by
  simp at h1 h2;subst h1;subst h2
  show bindC kindOf ((p,w)::P.zip vs) m p=_
  unfold bindC
  rw[xQ λv hv=>(List.nodup_cons.mp nd).1 (List.of_mem_zip hv).1,if_neg hk]
  simp
 |p::P,w::vs,i+1,m,nd,h1,h2,hk=>by
  show bindC kindOf ((p,w)::P.zip vs) m x=_
  unfold bindC
  exact ye (i:=i) (List.nodup_cons.mp nd).2 (by simpa using h1) (by simpa using h2) hk
noncomputable def start(N:List Str)(vs:List V):St:=vs.map some++List.replicate (N.length-vs.length) none
noncomputable def Zv (CX:CXT)(P:Program)(w:World)(K:PySem.W.Frag)(mg:Str->Option Value)(base:Heap)(N:List Str)(qual:Str)(scope:Scope)(f:Addr)(cd:Value)(A:Around)(outer:List Env)(s:Shared)(H:Hp)(E:XK)(fnb:Str->Bool:=λ_=>true):Cx where
 prog:=P
 w:=w
 K:=K
 mg:=mg
 base:=base
 A:=A.deeper (envOfC qual scope s.heap.objs.size f cd)
 N:=N
 s₀:=s
 H₀:=H
 env:=envOfC qual scope s.heap.objs.size f cd
 outer:=outer
 stack:=envOfC qual scope s.heap.objs.size f cd::outer
 ex:=[]
 calm:=true
 fn:=fnb
 pn:=[]
 xe:=λe s'=>wpAny (model P w) (A.deeper (envOfC qual scope s.heap.objs.size f cd)) (leaving (envOfC qual scope s.heap.objs.size f cd) e) (λ_ s''=>CX outer H s E e s'') (λe' s''=>CX outer H s E e' s'') s'
theorem uU{sc:Scope}{n:Nat}{x:Str}(h:sc.names.lookup x=some .cell):∃c,(cellsFrom n sc.names []).lookup x=some c:=by
 have q:=PySem.W.cellsFrom_some sc.names n [] (.inl h)
 exact Option.isSome_iff_exists.mp q
theorem yc{CX:CXT}{P:Program}{w:World}{K:PySem.W.Frag}{mg:Str->Option Value}{base:Heap}{N ps:List Str}{qual:Str}{scope:Scope}{f:Addr}{cd:Value}{A:Around}{outer:List Env}{s s1:Shared}{H:Hp}{E:XK}{us:List Value}{vs:List V}{fnb:Str->Bool}
  (S:FnScope N ps scope) (hd:A.handled=none) (e0:Env0 P w K mg base A outer s H) (hl:vs.length=ps.length) (r:Vals vs us)
  (x:InCallC s s.heap.objs.size (bindL (envOfC qual scope s.heap.objs.size f cd).kindOf (ps.zip us) λ_=>none) (cellsFrom (s.heap.objs.size+1) scope.names []) (bindC (envOfC qual scope s.heap.objs.size f cd).kindOf (ps.zip us) λ_=>none) s1) :
  Inv (Zv CX P w K mg base N qual scope f cd A outer s H E fnb) [] (start N vs) H s1:=by
 have hpl:ps.length<=N.length:=by have:=congrArg List.length S.pre;rw[List.length_take] at this;omega
 obtain⟨h1,tk,rfl,hk⟩:=x.done
 have noA:∀b:Addr,b∉(Zv CX P w K mg base N qual scope f cd A outer s H E fnb).ex:=λb z=>absurd (show b∈([]:List Addr) from z) (by simp)
 refine⟨⟨e0.mod,S.kind,rfl,rfl,Nat.le_refl _,λy z c h1 h2=>?_,λy hy=>?_,λy c _ h=>?_,λ_=>hd,Around.frames_deeper e0.frames,.inr ⟨rfl,rfl⟩,λb z=>absurd z (noA b),e0.bs,e0.bsz,λb _ _=>noA b,λb z=>absurd z (noA b),e0.funs,e0.frf⟩,
  rfl,e0.bare,Un.kept hk,⟨_,x.toInCall.ns,λi y v h1 h2 h3=>?_⟩,λy c h=>⟨_,x.cell y c h⟩,e0.hok.fresh (Nat.le_refl _),λy c h=>?_,λp hp=>absurd (show p∈([]:List (Addr×Obj)) from hp) (by simp),e0.hok.kept hk,?_⟩
 ·exact name_of_addr x.apart (PySem.mem_of_lookup h1) (PySem.mem_of_lookup h2)
 ·have hy:scope.names.lookup y=some .cell\/scope.names.lookup y=some .free:=hy
  rcases hy with hy|hy
  ·exact uU hy
  ·exact absurd rfl (S.nofree _ (PySem.mem_of_lookup hy))
 ·exact Nat.le_of_lt (x.above y c (PySem.mem_of_lookup h))
 ·have hi:i<vs.length:=by
   unfold start at h2
   by_cases hi:i<vs.length
   ·exact hi
   ·rw[List.getElem?_append_right (by simpa using hi)] at h2
    rw[List.getElem?_replicate] at h2
    split at h2<;>cases h2
  have ha:vs[i]?=some v:=by
   unfold start at h2
   rw[List.getElem?_append_left (by simpa using hi),List.getElem?_map] at h2
   cases e:vs[i]? with
   |none=>rw[e] at h2;cases h2
   |some a=>rw[e] at h2;cases h2;rfl
  obtain⟨u,hu,rv⟩:=r.get ha
  have hp:ps[i]?=some y:=by
   rw[←S.pre,List.getElem?_take_of_lt (by omega)];exact h1
  have ndP:ps.Nodup:=by rw[←S.pre];exact S.nd.sublist (List.take_sublist _ _)
  refine⟨u,rv,?_⟩
  rcases S.par y (List.mem_of_getElem? hp) with k|k
  ·exact .inl ⟨k,xX ndP hp hu k⟩
  ·obtain⟨c,e⟩:=uU (n:=s.heap.objs.size+1) k
   refine .inr ⟨.inl k,c,e,?_⟩
   have q:=x.cell y c e
   rw[ye ndP hp hu (by show scope.names.lookup y≠_;rw[k];decide)] at q
   exact q
 ·exact .inl (e0.hok.fresh (Nat.le_of_lt (x.above y c (PySem.mem_of_lookup h))))
 ·unfold start
  show _=N.length
  rw[List.length_append,List.length_map,List.length_replicate]
  omega
theorem z1q{CX:CXT}{P:Program}{w:World}{K:PySem.W.Frag}{mg:Str->Option Value}{base:Heap}{k:Nat}{f:Addr}{name qual:Str}{params:Arguments}{body:List Stmt}{scope:Scope}{dV kV doc pm cdv ct oc:Value}{an od:Option Addr}
  {osl:Array (Option Value)} {N ps:List Str} {sp:Sp} {fnb:Str->Bool} (lk:K.lookup f=some ⟨oc,od,.func (PySem.W.fnOf name qual params body scope dV kV doc pm an cdv ct),osl⟩) (hcd:PySem.W.codeIn K cdv qual=true) (S:FnScope N ps scope)
  (len:∀vs H Q E,sp vs H Q E->vs.length=ps.length)
  (hbody:∀(A:Around) (outer:List Env) (s:Shared) (H:Hp) (vs:List V) (Q:VK) (E:XK),Room k (A.deeper (envOfC qual scope s.heap.objs.size f cdv))->sp vs H Q E->(∀y c,(envOfC qual scope s.heap.objs.size f cdv).cells.lookup y=some c->s.heap.objs.size<=c/\H c=none)->
   ∃t,PSs (Zv CX P w K mg base N qual scope f cdv A outer s H E fnb) body t/\t {nx:=λ_ H'=>Q .non H',rt:=Q} (start N vs) H) :
  FnOk P w K mg base CX (k+1) f (PySem.W.fnOf name qual params body scope dV kV doc pm an cdv ct) ps sp:=by
 refine⟨len,λA outer s H args us vs Q E hr e0 hb r hsp=>?_⟩
 have hl:=len _ _ _ _ hsp
 have KX:K.In s.heap:=e0.mod.kin.keeps λb o e=>(e0.bs b o e).1
 have lim:s.heap.NoLimit:=e0.mod.nolimit.keeps λb o e=>(e0.bs b o e).1
 have hkind:∀y∈ps.zip us,scope.names.lookup y.1=some .local\/(scope.names.lookup y.1=some .cell/\((cellsFrom (s.heap.objs.size+1) scope.names []).lookup y.1).isSome=true):=λ⟨n,v⟩ hy=>by
  rcases S.par n (List.of_mem_zip hy).1 with q|q
  ·exact .inl q
  ·exact .inr ⟨q,PySem.W.cellsFrom_some _ _ _ (.inl q)⟩
 refine codeAny_call_function hr.depth (KX _ _ lk) rfl S.co S.gen rfl (PySem.W.codeRec_of KX hcd) (hb _ _ _ _ ?_)
 refine wpAny_newFunctionEnv_cells S.kind hkind λenv he s1 x=>?_
 subst he
 refine⟨lim.keeps x.toInCall.keep,codeAny_func ?_⟩
 obtain⟨t,ht,hq⟩:=hbody A outer s H vs Q E (hr.deeper _) hsp λy c h=>have l:=Nat.le_of_lt (x.above y c (PySem.mem_of_lookup h));⟨l,e0.hok.fresh l⟩
 have I:Inv (Zv CX P w K mg base N qual scope f cdv A outer s H E fnb) [] (start N vs) H s1:=yc S hr.hd e0 hl r x
 refine wpAny_mono (ht [] s1 (start N vs) H _ I hq) (λfl s' hs=>?_) λe s' hs=>hs
 have fin:∀{σ':St} {H':Hp} {v:V} {u:Value},Inv (Zv CX P w K mg base N qual scope f cdv A outer s H E fnb) [] σ' H' s'->RelV v u->Q v H'->CE outer P w H s Q u s':=
  λ{σ' H' v u} J rv q=>⟨v,H',J.os,J.bare,J.base,J.hok,rv,q⟩
 cases fl with
 |ret u=>
  obtain⟨v,σ',H',J,rv,q⟩:=hs
  exact fin J rv q
 |next=>
  obtain⟨σ',H',J,q⟩:=hs
  exact fin (v:=V.non) (u:=Value.none) J rfl q
 |brk=>
  obtain⟨_,_,_,q⟩:=hs
  exact False.elim q
 |cont=>
  obtain⟨_,_,_,q⟩:=hs
  exact False.elim q
end L2
namespace HT
open PySem PyProof.Rows
noncomputable def lexLt:List Int->List Int->Bool
 |[],[]=>false
 |[],_::_=>true
 |_::_,[]=>false
 |x::xs,y::ys=>if x=y then lexLt xs ys else decide (x<y)
theorem Zp(x y:Int)(xs ys:List Int):lexLt (x::xs) (y::ys)=if x=y then lexLt xs ys else decide (x<y):=rfl
theorem xr:lexLt [] []=false:=rfl
theorem ku(y:Int)(ys:List Int):lexLt [] (y::ys)=true:=rfl
theorem kr(x:Int)(xs:List Int):lexLt (x::xs) []=false:=rfl
theorem kI(A:Around)(s:Shared)(a:Int)(t:Tok)(c:Int)(u:Tok):∃e,SeqAt.EqAt A s (.int a t) (.int c u) e/\(e=true↔a=c):=
 ⟨(a == c),SeqAt.EqAt.int_int a t c u,by simp⟩
theorem J9(A:Around)(s:Shared)(a:Int)(t:Tok)(c:Int)(u:Tok)(prog:Program)(w:World)(E:Value->Shared->Prop)(Q:Value->Shared->Prop)(h:Q (.bool (decide (a<c))) s) :
  wpAny (model prog w) A (richCompare .Lt (.int a t) (.int c u)) Q E s:=
 (PyProof.Rows.lt_int h:wpAny (model prog w) A (compareOp .Lt (.int a t) (.int c u)) Q E s)
section
open PySem.SeqAt
open PySem.AutoSeq1 (wpAny_loadPart')
open PySem.MeetsSeq PySem.MeetsSeq2 PySem.MeetsSeq3
theorem xB(l b:Addr)(items items2:Array Value)(n n2:Nat)(dd dd2:Option Addr)(sl sl2:Array (Option Value))(ns ms:List Int)(hi:IntsAre items.toList ns)(hj:IntsAre items2.toList ms) :
  Meets (Builtin.«tuple.__lt__» ⟨[.ref l,.ref b],[]⟩)
   (λ_ R s=>s.heap.get? l=some {cls:=.type "tuple",dict:=dd,data:=.seq items n,slots:=sl}/\s.heap.get? b=some {cls:=.type "tuple",dict:=dd2,data:=.seq items2 n2,slots:=sl2}/\
    R (.ok (.ret (.bool (lexLt ns ms)))) s):=
 .of_wp λprog w A R s h=>by
  obtain⟨hp,g,d,tk,os⟩:=s;obtain⟨hl,hb,h⟩:=h
  have f2:=AutoSeq1.sub_tuple_tuple
  have z1:items.size=ns.length:=by rw[←hi.length];simp
  have z2:items2.size=ms.length:=by rw[←hj.length];simp
  wp_walk using wpAny_loadPart' hl,wpAny_loadPart' hb,wpAny_forIn_list _ (λrest b s'=>b.1=none/\s'=⟨hp,g,d,tk,os⟩/\∃(vs ws:List Value) (ns' ms':List Int),rest=vs.zip ws/\
   IntsAre vs ns'/\IntsAre ws ms'/\ns'.length+items2.size=ms'.length+items.size/\R (.ok (.ret (.bool (lexLt ns' ms')))) ⟨hp,g,d,tk,os⟩) _
  case turn=>
   rintro⟨y,x⟩ rest b s' ⟨hb',rfl,vs,ws,ns',ms',hz,hvi,hwi,hlen,hR⟩
   cases hvi with
   |nil=>rw[List.zip_nil_left] at hz;cases hz
   |cons a t hvi'=>
    cases hwi with
    |nil=>rw[List.zip_nil_right] at hz;cases hz
    |cons c u hwi'=>
     rw[List.zip_cons_cons] at hz
     injection hz with hyx hrest
     injection hyx with hy hx
     subst hy hx
     rw[Zp] at hR
     simp only[List.length_cons] at hlen
     obtain⟨e,he,hiff⟩:=kI A.in1 ⟨hp,g,d,tk,os⟩ a t c u
     refine wpAny_bind (he prog w _ _ ?_)
     cases e with
     |true=>
      rw[if_pos (hiff.mp rfl)] at hR
      wp_walk
      exact⟨rfl,rfl,_,_,_,_,hrest,hvi',hwi',by omega,hR⟩
     |false=>
      rw[if_neg (λq=>absurd (hiff.mpr q) Bool.false_ne_true)] at hR
      have hri:=J9 A.in1 ⟨hp,g,d,tk,os⟩ a t c u prog w
      wp_walk using hri
      exact⟨_,rfl,by simpa using hR⟩
  case fin=>
   rintro⟨b1,b2⟩ s' ⟨hb',rfl,vs,ws,ns',ms',hz,hvi,hwi,hlen,hR⟩
   simp only at hb'
   subst hb'
   have hv:lexLt ns' ms'=decide (items.size<items2.size):=by
    cases hvi with
    |nil=>
     cases hwi with
     |nil=>
      simp only[List.length_nil] at hlen
      rw[xr]
      exact (decide_eq_false (by omega)).symm
     |cons c u hw=>
      simp only[List.length_nil,List.length_cons] at hlen
      rw[ku]
      exact (decide_eq_true (by omega)).symm
    |cons a t hv=>
     cases hwi with
     |nil=>
      simp only[List.length_nil,List.length_cons] at hlen
      rw[kr]
      exact (decide_eq_false (by omega)).symm
     |cons c u hw=>
      rw[List.zip_cons_cons] at hz
      cases hz
   rw[hv] at hR
   wp_walk
   exact⟨_,rfl,by simpa[Builtin.Tuple.tupleCompareSizes] using hR⟩
  case h=>
   exact⟨rfl,rfl,items.toList,items2.toList,ns,ms,rfl,hi,hj,by omega,h⟩
end
section
variable {prog:Program}{w:World}{A:Around}{E:Value->Shared->Prop}{s:Shared}
theorem lt_tupInts{l b:Addr}{items items2:Array Value}{ns ms:List Int}{Q:Value->Shared->Prop}(hl:IsTup s.heap l items)(hb:IsTup s.heap b items2)(hi:IntsAre items.toList ns)(hj:IntsAre items2.toList ms)
  (hu:A.units<cLine) (h:Q (.bool (lexLt ns ms)) s):wpAny (model prog w) A (compareOp .Lt (.ref l) (.ref b)) Q E s:=by
 obtain⟨⟨cls,dd,data,sl⟩,ho,hc,n,hd⟩:=id hl
 obtain⟨⟨cls2,dd2,data2,sl2⟩,ho2,hc2,n2,hd2⟩:=id hb
 simp only at hc hd hc2 hd2
 subst hc hd hc2 hd2
 exact richCompare_meets_room (op:=.Lt) ⟨_,ho,rfl⟩ ⟨_,ho2,rfl⟩ PySem.F.slot_tuple_lt PySem.F.entry_tuple_lt (PySem.F.args_tuple_lt_2 _ _) (xB l b items items2 n n2 dd dd2 sl sl2 ns ms hi hj)
  ⟨ho,ho2,show Value.bool (lexLt ns ms)≠Value.notImplemented/\Q (.bool (lexLt ns ms)) s from ⟨(λx=>nomatch x),h⟩⟩ hu
theorem cat_tup{t b:Addr}{vs ws:List Value}{Q:Value->Shared->Prop}(ht:IsTup s.heap t vs.toArray)(hb:IsTup s.heap b ws.toArray)(hv:vs≠[])
  (h1:ws=[]->Q (.ref t) s) (h2:ws≠[]->Q (.ref s.heap.objs.size) {s with heap:=s.heap.push {cls:=.type "tuple",data:=.seq (vs++ws).toArray}})
  (hsz:vs.length+ws.length<=sizeLine):wpAny (model prog w) A (binaryOp .Add (.ref t) (.ref b)) Q E s:=by
 obtain⟨⟨cls,dd,data,sl⟩,ho,hc,n,hd⟩:=id ht
 obtain⟨⟨cls2,dd2,data2,sl2⟩,ho2,hc2,n2,hd2⟩:=id hb
 simp only at hc hd hc2 hd2
 subst hc hd hc2 hd2
 have e:vs.toArray++ws.toArray=(vs++ws).toArray:=by simp
 by_cases hw:ws=[]
 ·exact concat_meets ⟨_,ho,rfl⟩ ⟨_,ho2,rfl⟩ noFill_tuple_add seq_tuple_add PySem.F.slot_tuple_add PySem.F.entry_tuple_add (PySem.F.args_tuple_add_2 _ _)
   (tuple_addW1 t b vs.toArray ws.toArray n n2 dd dd2 sl sl2 (by simpa using hv) (by simp[hw])) ⟨ho,ho2,h1 hw⟩
 ·refine concat_meets ⟨_,ho,rfl⟩ ⟨_,ho2,rfl⟩ noFill_tuple_add seq_tuple_add PySem.F.slot_tuple_add PySem.F.entry_tuple_add (PySem.F.args_tuple_add_2 _ _)
   (tuple_addW2 t b vs.toArray ws.toArray n n2 dd dd2 sl sl2 (by simpa using hv) (by simpa using hw) (by rw[List.size_toArray,List.size_toArray];exact hsz)) ⟨ho,ho2,?_⟩
  rw[e]
  exact h2 hw
noncomputable def sIx(n d:Nat):Option Int->Nat
 |none=>d
 |some v=>if v<0 then (v+(n:Int)).toNat else min v.toNat n
theorem U1(n d:Nat)(hd:d<=n)(o:Option Int):sIx n d o<=n:=by
 cases o with
 |none=>exact hd
 |some v=>
  show (if v<0 then (v+(n:Int)).toNat else min v.toNat n)<=n
  by_cases hv:v<0
  ·rw[if_pos hv];omega
  ·rw[if_neg hv];exact Nat.min_le_right _ _
theorem Qs(v:Int)(n d:Nat):(if v<0 then max (v+(n:Int)) 0 else min v (n:Int))=((sIx n d (some v):Nat):Int):=by
 show (if v<0 then max (v+(n:Int)) 0 else min v (n:Int))=(((if v<0 then (v+(n:Int)).toNat else min v.toNat n):Nat):Int)
 by_cases hv:v<0
 ·simp only[if_pos hv];omega
 ·simp only[if_neg hv];omega
theorem Zf(lo hi:Option Int)(n:Nat):Builtin.Slice.sliceAdjust lo hi 1 (n:Int)=(((sIx n 0 lo:Nat):Int),((sIx n n hi:Nat):Int)):=by
 have h1:¬((1:Int)<0):=by omega
 unfold Builtin.Slice.sliceAdjust
 simp only[h1,if_false]
 refine Prod.ext ?_ ?_
 ·cases lo with
  |none=>rfl
  |some v=>exact Qs v n 0
 ·cases hi with
  |none=>rfl
  |some v=>exact Qs v n n
theorem Zk(i j:Nat):Builtin.Slice.slicePlaces (i:Int) (j:Int) 1=j-i:=by
 unfold Builtin.Slice.slicePlaces
 have h1:(1:Int) > 0:=by omega
 simp only[h1,if_true,Int.ediv_one]
 split<;>omega
theorem jX{v:Value}{o:Option Int}{Q:Option Int->Shared->Prop}(p:IsPart v o)(h:Q o s):wpAny (model prog w) A (Builtin.Slice.slicePartIndex v) Q E s:=by
 cases p with
 |none=>exact slicePart_none h
 |int i t=>exact slicePart_int h
theorem sliceApplied_gen{sl:Addr}{vl vu:Value}{lo hi:Option Int}{n:Nat}{Q:Int×Int×Nat->Shared->Prop}(hs:s.heap.IsSliceOf sl vl vu .none)(pl:IsPart vl lo)(pu:IsPart vu hi)
  (h:Q (((sIx n 0 lo:Nat):Int),1,sIx n n hi-sIx n 0 lo) s):wpAny (model prog w) A (Builtin.Slice.sliceApplied (.ref sl) (pure (n:Int))) Q E s:=by
 obtain⟨os,hos,hcs,hds⟩:=id hs
 unfold Builtin.Slice.sliceApplied Builtin.Slice.sliceFields
 refine wpAny_bind (wpAny_bind (wpAny_field hos hds (x:=vl) rfl (wpAny_bind (wpAny_field hos hds (x:=vu) rfl (wpAny_bind (wpAny_field hos hds (x:=.none) rfl (wpAny_pure ?_)))))))
 refine wpAny_bind (slicePart_none ?_)
 show wpAny _ _ (if ((1:Int) == 0)=true then _ else _) _ _ s
 rw[if_neg (by decide)]
 refine wpAny_bind (jX pl (wpAny_bind (jX pu (wpAny_bind (wpAny_pure ?_)))))
 show wpAny _ _ (match Builtin.Slice.sliceAdjust lo hi 1 (n:Int) with|(lo,hi)=>pure (lo,(1:Int),Builtin.Slice.slicePlaces lo hi 1)) _ _ s
 rw[Zf lo hi n]
 show wpAny _ _ (pure (((sIx n 0 lo:Nat):Int),(1:Int),Builtin.Slice.slicePlaces ((sIx n 0 lo:Nat):Int) ((sIx n n hi:Nat):Int) 1)) _ _ s
 rw[Zk]
 exact wpAny_pure h
theorem Jg(xs:Array Value)(i k:Nat):((List.range k).filterMap λ(m:Nat)=>xs[((i:Int)+(m:Int) * 1).toNat]?).toArray=((xs.toList.drop i).take k).toArray:=by
 have e:(λ(m:Nat)=>xs[((i:Int)+(m:Int) * 1).toNat]?)=λm=>xs[i+m]?:=by
  funext m
  have:((i:Int)+(m:Int) * 1).toNat=i+m:=by omega
  rw[this]
 rw[e]
 have:=pick_run xs i k
 rw[List.filterMap_map] at this
 have e2:((λx=>xs[x]?) ∘ λx=>i+x)=λm=>xs[i+m]?:=rfl
 rw[e2] at this
 rw[this]
theorem getItem_tuple_cut{t sl:Addr}{items:Array Value}{vl vu:Value}{lo hi:Option Int}{Q:Value->Shared->Prop}(ht:IsTup s.heap t items)(hs:s.heap.IsSliceOf sl vl vu .none)(pl:IsPart vl lo)(pu:IsPart vu hi)
  (hw:¬(sIx items.size 0 lo=0/\sIx items.size items.size hi=items.size))
  (h:Q (.ref s.heap.objs.size) {s with heap:=s.heap.push {cls:=.type "tuple",data:=.seq ((items.toList.drop (sIx items.size 0 lo)).take (sIx items.size items.size hi-sIx items.size 0 lo)).toArray}})
  (hsz:items.size<=sizeLine):wpAny (model prog w) A (getItem (.ref t) (.ref sl)) Q E s:=by
 have htake:sizeOk (.seq ((items.toList.drop (sIx items.size 0 lo)).take (sIx items.size items.size hi-sIx items.size 0 lo)).toArray):=by
  show ((items.toList.drop (sIx items.size 0 lo)).take (sIx items.size items.size hi-sIx items.size 0 lo)).toArray.size<=sizeLine
  rw[List.size_toArray,List.length_take,List.length_drop,Array.length_toList]
  omega
 have hj:sIx items.size items.size hi<=items.size:=U1 _ _ (Nat.le_refl _) hi
 obtain⟨os,hos,hcs,hds⟩:=id hs
 have hTs:s.TypeIs (.ref sl) "slice":=⟨os,hos,hcs⟩
 unfold getItem
 try with_reducible refine wpAny_holding ?_
 first|refine wpAny_bind (wpAny_pure ?_)|skip
 refine wpAny_bind (wpAny_sequenceKey ht.typeIs (by decide) ?_)
 refine wpAny_bind (wpAny_callSpecial?_slot (name:=Str.ofString "__getitem__") ht.typeIs PyProof.Rows.slot_tuple_getitem
  (wpAny_call_entry PyProof.Rows.slot_tuple_getitem ht.typeIs entry_tuple_getitem ?_ (args_tuple_getitem _ _)))
 show wpAny _ _ (Builtin.Tuple.tupleItemsOf (.ref t) >>= _) _ _ s
 refine wpAny_bind (tupleItemsOf_ ht ?_)
 refine wpAny_bind (wpAny_typeOf hTs ?_)
 rw[if_pos (by decide)]
 refine wpAny_bind (sliceApplied_gen hs pl pu ?_)
 have hno:¬((((sIx items.size 0 lo:Nat):Int) == 0&&(1:Int) == 1&&(sIx items.size items.size hi-sIx items.size 0 lo) == items.size)=true):=by
  intro q
  rw[Bool.and_eq_true,Bool.and_eq_true] at q
  have q1:((sIx items.size 0 lo:Nat):Int)=0:=eq_of_beq q.1.1
  have q2:sIx items.size items.size hi-sIx items.size 0 lo=items.size:=eq_of_beq q.2
  exact hw ⟨by omega,by omega⟩
 show wpAny _ _ (if (((sIx items.size 0 lo:Nat):Int) == 0&&(1:Int) == 1&&(sIx items.size items.size hi-sIx items.size 0 lo) == items.size)=true then _ else _) _ _ s
 rw[if_neg hno,Jg]
 first
  |exact wpAny_bind (m:=Builtin.Tuple.tupleExact _) (wpAny_newObj_type (wpAny_pure ⟨_,rfl,wpAny_pure h⟩) htake)
  |exact wpAny_bind (m:=Builtin.Tuple.tupleExact _) (wpAny_newObj_type (wpAny_bind (wpAny_pure (wpAny_pure ⟨_,rfl,wpAny_pure h⟩))) htake)
  |exact wpAny_bind (wpAny_bind (m:=Builtin.Tuple.tupleExact _) (wpAny_newObj_type (wpAny_pure (wpAny_pure ⟨_,rfl,wpAny_pure h⟩)) htake))
  |exact wpAny_bind (wpAny_bind (m:=Builtin.Tuple.tupleExact _) (wpAny_newObj_type (wpAny_pure ⟨_,rfl,wpAny_pure h⟩) htake))
end
end HT
namespace L2
open PySem PySem.Spec PyProof.Rows
noncomputable abbrev TO:=St->Hp->(Option Int->Hp->Prop)->Prop
noncomputable def PO (X:Cx)(e:Option Expr)(t:TO):Prop:=
 ∀(pins:List (Addr×Obj)) (s:Shared) (σ:St) (H:Hp) (Q:Option Int->Hp->Prop),Inv X pins σ H s->t σ H Q->
  wpAny (model X.prog X.w) X.A (evalPart e X.env) (λu s'=>∃o H',Inv X pins σ H' s'/\IsPart u o/\Q o H') X.xe s
noncomputable def Ki:TO:=λ_ H Q=>Q none H
noncomputable def z0E(t:TE):TO:=λσ H Q=>t σ H λx H1=>∃i,x=.int i/\Q (some i) H1
theorem intsAre_of{ns:List Int}:∀{us:List Value},Vals (ns.map V.int) us->IntsAre us ns:=by
 induction ns with
 |nil=>intro us r;rw[List.map_nil] at r;cases r;exact .nil
 |cons n ns ih=>
  intro us r
  rw[List.map_cons] at r
  cases r with
  |cons r1 r2=>
   obtain⟨t,e⟩:=r1
   subst e
   exact .cons n t (ih r2)
section
variable {X:Cx}{e:Expr}{te:TE}{lo hi:Option Expr}{tl th:TO}{pos p2:Pos}
theorem Kr:PO X none Ki:=by
 intro pins s σ H Q I h
 rw[evalPart_none]
 exact wpAny_pure ⟨none,H,I,.none,h⟩
theorem Xv(h:PE X e te):PO X (some e) (z0E te):=by
 intro pins s σ H Q I hw
 rw[evalPart_some]
 refine thn (h pins s σ H _ I hw) λu s1 ⟨x,H1,I1,r1,q1⟩=>?_
 obtain⟨i,rfl,q⟩:=q1
 obtain⟨t,rfl⟩:=r1
 exact⟨some i,H1,I1,.int i t,q⟩
noncomputable def SlR (X:Cx)(r:V->Option Int->Option Int->Hp->VK->Prop):Prop:=
 ∀(pins:List (Addr×Obj)) (s:Shared) (σ:St) (H:Hp) (x:V) (v vl vu:Value) (lo hi:Option Int) (sl:Addr) (Q:VK),Inv X pins σ H s->RelV x v->s.heap.IsSliceOf sl vl vu .none->IsPart vl lo->IsPart vu hi->r x lo hi H Q->
  ∃T id,typeLookup (.type T) "__getitem__"=pure (some (.builtin id))/\s.TypeIs v T/\wpAny (model X.prog X.w) X.A (getItem v (.ref sl)) (EP X pins σ Q) X.xe s
theorem SlR.or{r r':V->Option Int->Option Int->Hp->VK->Prop}(h:SlR X r)(h':SlR X r'):SlR X (λx lo hi H Q=>r x lo hi H Q\/r' x lo hi H Q):=by
 intro pins s σ H x v vl vu lo hi sl Q I rx hs pl pu q
 rcases q with q|q
 ·exact h pins s σ H x v vl vu lo hi sl Q I rx hs pl pu q
 ·exact h' pins s σ H x v vl vu lo hi sl Q I rx hs pl pu q
noncomputable def tSl (r:V->Option Int->Option Int->Hp->VK->Prop)(te:TE)(tl th:TO):TE:=λσ H Q=>te σ H λx H1=>tl σ H1 λl H2=>th σ H2 λu H3=>r x l u H3 Q
theorem Vv{r:V->Option Int->Option Int->Hp->VK->Prop}(hr:SlR X r)(he:PE X e te)(hl:PO X lo tl)(hu:PO X hi th):PE X (.Subscript e (.Slice lo hi none p2) pos) (tSl r te tl th):=by
 intro pins s σ H Q I h
 refine Subscript_ (thn (he pins s σ H _ I h) λv s1 ⟨x,H1,I1,r1,q1⟩=>?_)
 refine wpAny_Slice (thn (hl pins s1 σ H1 _ I1 q1) λvl s2 ⟨l,H2,I2,pl,q2⟩=>thn (hu pins s2 σ H2 _ I2 q2) λvu s3 ⟨u,H3,I3,pu,q3⟩=>?_)
 rw[evalPart_none]
 refine wpAny_pure ?_
 have I4:Inv X pins σ H3 {s3 with heap:=s3.heap.push {cls:=.type "slice",data:=.fields #[vl,vu,.none]}}:=I3.kept (t':=s3.toks) λb ob q=>Heap.get?_push_of_some _ q
 obtain⟨T,id,hT,ht,hg⟩:=hr pins {s3 with heap:=s3.heap.push {cls:=.type "slice",data:=.fields #[vl,vu,.none]}} σ H3 x v vl vu l u s3.heap.objs.size Q I4 r1 (Heap.IsSliceOf.new ..) pl pu q3
 show wpAny (model X.prog X.w) X.A (subscriptTail e (.Slice lo hi none p2) v (.ref s3.heap.objs.size)) (EP X pins σ Q) X.xe {s3 with heap:=s3.heap.push {cls:=.type "slice",data:=.fields #[vl,vu,.none]}}
 exact tail_any (ops:=[.ref s3.heap.objs.size,v]) ht hT hg (by with_unfolding_all rfl)
noncomputable def xn (xs:List V)(lo hi:Option Int):List V:=(xs.drop (HT.sIx xs.length 0 lo)).take (HT.sIx xs.length xs.length hi-HT.sIx xs.length 0 lo)
theorem ja(xs:List V)(lo hi:Option Int):(xn xs lo hi).length<=xs.length:=by
 unfold xn
 rw[List.length_take,List.length_drop]
 omega
noncomputable def z27 (K:PySem.W.Frag):V->Option Int->Option Int->Hp->VK->Prop:=λx lo hi H Q=>∃a xs,x=.ref a/\SqT K H a xs/\
 ¬(HT.sIx xs.length 0 lo=0/\HT.sIx xs.length xs.length hi=xs.length)/\∀p,H p=none->Q (.ref p) (upd H p (.tup (xn xs lo hi)))
theorem UB:SlR X (z27 X.K):=by
 intro pins s σ H x v vl vu lo hi sl Q I rx hs pl pu h
 obtain⟨a,xs,rfl,hx,hw,q⟩:=h
 cases rx
 obtain⟨its,r,ht,hz⟩:=I.tuple hx
 have hlen:its.toArray.size=xs.length:=by rw[List.size_toArray];exact r.length.symm
 refine⟨"tuple",_,PyProof.Rows.slot_tuple_getitem.lookup,ht.typeIs,?_⟩
 refine HT.getItem_tuple_cut ht hs pl pu (by rw[hlen];exact hw) ?_ (by rw[hlen];exact hz)
 rw[hlen]
 refine⟨.ref s.heap.objs.size,_,I.laid (t':=s.toks) (o:=.tup (xn xs lo hi)) (λb ob q=>Heap.get?_push_of_some _ q) (Nat.le_refl _) ?_,rfl,q _ (I.hok.fresh (Nat.le_refl _))⟩
 exact⟨Nat.le_trans (ja xs lo hi) hz,_,(r.drop (HT.sIx xs.length 0 lo)).take (HT.sIx xs.length xs.length hi-HT.sIx xs.length 0 lo),IsTup.new _ _⟩
noncomputable def z1J (K:PySem.W.Frag):R2:=λx y H Q=>∃a b ns ms,x=.ref a/\y=.ref b/\SqT K H a (ns.map V.int)/\SqT K H b (ms.map V.int)/\Q (.bl (HT.lexLt ns ms)) H
theorem z0n(hu:X.A.units<cLine):OpR X (compareOp .Lt) (z1J X.K):=by
 intro pins s σ H x y v u Q I rx ry h
 obtain⟨a,b,ns,ms,rfl,rfl,ha,hb,q⟩:=h
 cases rx
 cases ry
 obtain⟨its,r1,p1,_⟩:=I.tuple ha
 obtain⟨its2,r2,p2,_⟩:=I.tuple hb
 have i1:IntsAre its.toArray.toList ns:=intsAre_of r1
 have i2:IntsAre its2.toArray.toList ms:=intsAre_of r2
 exact HT.lt_tupInts p1 p2 i1 i2 hu ⟨.bl (HT.lexLt ns ms),H,I,rfl,q⟩
noncomputable def z1A(K:PySem.W.Frag):R2:=λx y H Q=>∃a b xs ys,x=.ref a/\y=.ref b/\SqT K H a xs/\SqT K H b ys/\xs≠[]/\xs.length+ys.length<=sizeLine/\
 (ys=[]->Q (.ref a) H)/\(ys≠[]->∀p,H p=none->Q (.ref p) (upd H p (.tup (xs++ys))))
theorem Vals.nil_iff{xs:List V}{us:List Value}(r:Vals xs us):us=[]↔xs=[]:=by
 cases r with
 |nil=>simp
 |cons _ _=>simp
theorem Kt:OpR X (binaryOp .Add) (z1A X.K):=by
 intro pins s σ H x y v u Q I rx ry h
 obtain⟨a,b,xs,ys,rfl,rfl,ha,hb,hx,hz,q1,q2⟩:=h
 cases rx
 cases ry
 obtain⟨its,r1,p1,_⟩:=I.tuple ha
 obtain⟨its2,r2,p2,_⟩:=I.tuple hb
 refine HT.cat_tup p1 p2 (λz=>hx (r1.nil_iff.mp z)) (λz=>⟨.ref a,H,I,rfl,q1 (r2.nil_iff.mp z)⟩) (λz=>?_) (by rw[←r1.length,←r2.length];exact hz)
 refine⟨.ref s.heap.objs.size,_,I.laid (t':=s.toks) (o:=.tup (xs++ys)) (λb ob q=>Heap.get?_push_of_some _ q) (Nat.le_refl _) ?_,rfl,q2 (λw=>z (r2.nil_iff.mpr w)) _ (I.hok.fresh (Nat.le_refl _))⟩
 exact⟨by rw[List.length_append];exact hz,_,r1.append r2,IsTup.new _ _⟩
end
end L2
namespace L2
open PySem PySem.Spec PyProof.Rows
noncomputable def ixN(n:Nat)(i:Int):Option Nat:=if 0<=i then (if i<n then some i.toNat else none) else if -(n:Int)<=i then some (i+n).toNat else none
noncomputable def atI {α:Type}(xs:List α)(i:Int):Option α:=(ixN xs.length i).bind λj=>xs[j]?
theorem Xi{n:Nat}{i:Int}{j:Nat}(h:ixN n i=some j):seqIndex? i n=some j/\j<n /\ -(n:Int)<=i/\i<n:=by
 unfold ixN at h
 by_cases h0:0<=i
 ·rw[if_pos h0] at h
  by_cases h1:i<n
  ·rw[if_pos h1] at h
   have e:i.toNat=j:=Option.some.inj h
   exact⟨by rw[seqIndex_of h0 h1,e],by omega,by omega,h1⟩
  ·rw[if_neg h1] at h;cases h
 ·rw[if_neg h0] at h
  by_cases h1:-(n:Int)<=i
  ·rw[if_pos h1] at h
   have e:(i+n).toNat=j:=Option.some.inj h
   exact⟨by rw[seqIndex_neg (by omega) h1,e],by omega,h1,by omega⟩
  ·rw[if_neg h1] at h;cases h
theorem yO{α:Type}{xs:List α}{i:Int}{v:α}(h:atI xs i=some v):∃j,seqIndex? i xs.length=some j/\xs[j]?=some v/\j<xs.length /\ -(xs.length:Int)<=i/\i<xs.length:=by
 unfold atI at h
 cases e:ixN xs.length i with
 |none=>rw[e] at h;cases h
 |some j=>
  rw[e] at h
  obtain⟨h1,h2,h3,h4⟩:=Xi e
  exact⟨j,h1,h,h2,h3,h4⟩
noncomputable def JS(b:Expr):Prop:=∀o i,subscripted b false o i=operate [o,i] (getItem o i)
noncomputable def IxR (X:Cx)(r:R2):Prop:=
 ∀(value slice:Expr) (pins:List (Addr×Obj)) (s:Shared) (σ:St) (H:Hp) (x y:V) (v u:Value) (Q:VK),Inv X pins σ H s->RelV x v->RelV y u->r x y H Q->
  subscripted slice false v u=operate [v,u] (getItem v u)->wpAny (model X.prog X.w) X.A (subscriptTail value slice v u) (EP X pins σ Q) X.xe s
noncomputable def MtR (X:Cx)(id:String)(r:V->List V->Hp->VK->Prop):Prop:=
 ∀(pins:List (Addr×Obj)) (s:Shared) (σ:St) (H:Hp) (x:V) (xs:List V) (v:Value) (us:List Value) (Q:VK),Inv X pins σ H s->RelV x v->Vals xs us->r x xs H Q->
  wpAny (model X.prog X.w) X.A (call (.builtin id) (v::us)) (EP X pins σ Q) X.xe s
section
variable {X:Cx}{a b:Expr}{ta tb:TE}{pos:Pos}
noncomputable def z1L (K:PySem.W.Frag):R2:=λx y H Q=>∃p xs i v,x=.ref p/\y=.int i/\SqL K H p xs/\atI xs i=some v/\Q v H
noncomputable def z22 (K:PySem.W.Frag):R2:=λx y H Q=>∃p xs i v,x=.ref p/\y=.int i/\SqT K H p xs/\atI xs i=some v/\Q v H
noncomputable def z1O:R2:=λx y H Q=>∃z i c,x=.str z/\y=.int i/\z.length<=sizeLine/\atI z.cps.toList i=some c/\Q (.str ⟨#[c]⟩) H
theorem Q1:IxR X (z1L X.K):=by
 intro value slice pins s σ H x y v u Q I rx ry h hs
 obtain⟨p,xs,i,z,rfl,rfl,hq,he,q⟩:=h
 cases rx
 obtain⟨t,rfl⟩:=ry
 obtain⟨its,r,pl,hz⟩:=I.list hq
 obtain⟨j,h1,h2,h3,h4,h5⟩:=yO he
 obtain⟨w,ew,rw'⟩:=r.get h2
 have hl:=r.length
 have hn:=jQ
 have fin:EP X pins σ Q w s:=⟨z,H,I,rw',q⟩
 by_cases h0:0<=i
 ·have hj:i.toNat=j:=by
   rw[seqIndex_of h0 h5] at h1
   exact Option.some.inj h1
  exact item_listR pl.isList h0 (by omega) (by rw[hj];simpa using ew) fin hs
 ·have hj:(i+(its.toArray.size:Int)).toNat=j:=by
   rw[seqIndex_neg (by omega) h4] at h1
   rw[List.size_toArray,←hl]
   exact Option.some.inj h1
  exact subscriptTail_builtinR (x:=w) pl.isList.typeIs slot_list_getitem.lookup
   (wpAny_getItem_list_neg (Q:=λr s'=>r=w/\EP X pins σ Q r s') pl.isList (by omega) (by rw[List.size_toArray]<;>omega) (by omega) (by rw[hj];simpa using ew) ⟨rfl,fin⟩) hs
theorem YK:IxR X (z22 X.K):=by
 intro value slice pins s σ H x y v u Q I rx ry h hs
 obtain⟨p,xs,i,z,rfl,rfl,hq,he,q⟩:=h
 cases rx
 obtain⟨t,rfl⟩:=ry
 obtain⟨its,r,pl,hz⟩:=I.tuple hq
 obtain⟨j,h1,h2,h3,h4,h5⟩:=yO he
 obtain⟨w,ew,rw'⟩:=r.get h2
 have hl:=r.length
 have hn:=jQ
 have fin:EP X pins σ Q w s:=⟨z,H,I,rw',q⟩
 exact subscriptTail_builtinR (x:=w) pl.typeIs slot_tuple_getitem.lookup
  (getItem_tuple (j:=j) (Q:=λr s'=>r=w/\EP X pins σ Q r s') pl (by omega) (by omega) (by rw[List.size_toArray,←hl];exact h1) (by simpa using ew) ⟨rfl,fin⟩) hs
theorem Ux:IxR X z1O:=by
 intro value slice pins s σ H x y v u Q I rx ry h hs
 obtain⟨z,i,c,rfl,rfl,hz,he,q⟩:=h
 obtain⟨t,rfl⟩:=rx
 obtain⟨t',rfl⟩:=ry
 obtain⟨j,h1,h2,h3,h4,h5⟩:=yO he
 have hl:z.cps.toList.length=z.length:=by simp[Str.length]
 rw[hl] at h1 h4 h5
 have hn:=jQ
 exact tail_any (typeIs_str s z t) slot_str_getitem.lookup (getItem_str (c:=c) (by
  have e1:decide (i < -(2 ^ 63:Int))=false:=decide_eq_false (by omega)
  have e2:decide (i ≥ 2 ^ 63)=false:=decide_eq_false (by omega)
  rw[e1,e2,Bool.or_false]) (by rw[h1];simpa using h2) ⟨.str ⟨#[c]⟩,H,I.tok _,⟨_,rfl⟩,q⟩) hs
theorem yM(lo hi:Option Int)(n:Nat):(sliceBounds lo hi none n).1=((HT.sIx n 0 lo:Nat):Int)/\(sliceBounds lo hi none n).2.1=((HT.sIx n n hi:Nat):Int)/\(sliceBounds lo hi none n).2.2=1:=by
 refine⟨?_,?_,rfl⟩
 ·cases lo with
  |none=>simp[sliceBounds,HT.sIx]
  |some i=>
   simp only[sliceBounds,HT.sIx,Option.getD_none,show (1:Int) > 0 by decide,if_true]
   by_cases h:i<0
   ·simp only[h,if_true]<;>omega
   ·simp only[h,if_false]<;>omega
 ·cases hi with
  |none=>simp[sliceBounds,HT.sIx]
  |some i=>
   simp only[sliceBounds,HT.sIx,Option.getD_none,show (1:Int) > 0 by decide,if_true]
   by_cases h:i<0
   ·simp only[h,if_true]<;>omega
   ·simp only[h,if_false]<;>omega
theorem xx(its:List Value)(lo hi:Option Int):slicePick its.toArray lo hi none=((its.drop (HT.sIx its.length 0 lo)).take (HT.sIx its.length its.length hi-HT.sIx its.length 0 lo)).toArray:=by
 obtain⟨h1,h2,h3⟩:=yM lo hi its.toArray.size
 unfold slicePick
 rw[h1,h2,h3]
 simp only[sliceRange_one,pick_run,List.size_toArray]<;>rfl
noncomputable def z1F (K:PySem.W.Frag):V->Option Int->Option Int->Hp->VK->Prop:=λx lo hi H Q=>∃a xs,x=.ref a/\SqL K H a xs/\∀p,H p=none->Q (.ref p) (upd H p (.lst (xn xs lo hi)))
theorem KN:SlR X (z1F X.K):=by
 intro pins s σ H x v vl vu lo hi sl Q I rx hs pl pu h
 obtain⟨a,xs,rfl,hx,q⟩:=h
 cases rx
 obtain⟨its,r,ht,hz⟩:=I.list hx
 have hlen:=r.length
 refine⟨"list",_,slot_list_getitem.lookup,ht.isList.typeIs,?_⟩
 refine wpAny_getItem_list_slice ht.isList hs pl pu .none (by simp) ?_ (by rw[List.size_toArray]<;>omega)
 rw[xx,←hlen]
 refine⟨.ref s.heap.objs.size,_,I.laid (t':=s.toks) (o:=.lst (xn xs lo hi)) (λb ob q=>Heap.get?_push_of_some _ q) (Nat.le_refl _) ?_,rfl,q _ (I.hok.fresh (Nat.le_refl _))⟩
 exact⟨Nat.le_trans (ja xs lo hi) hz,_,0,(r.drop (HT.sIx xs.length 0 lo)).take (HT.sIx xs.length xs.length hi-HT.sIx xs.length 0 lo),Heap.get?_push_size _ rfl⟩
theorem qT:Vj X (.builtin "len") (λxs H Q=>∃p ys,xs=[.ref p]/\(SqL X.K H p ys\/SqT X.K H p ys)/\Q (.int ys.length) H):=by
 intro pins s σ H xs us Q I r h
 obtain⟨p,ys,rfl,hq,q⟩:=h
 obtain⟨u,rfl,rx⟩:=vals1 r
 cases rx
 have hn:=jQ
 rcases hq with hq|hq
 ·obtain⟨its,r',pl,hz⟩:=I.list hq
  have hlen:=r'.length
  exact Calls.call_len_list pl.isList (by simp only[List.size_toArray]<;>omega) ⟨.int ys.length,H,I.tok _,⟨s.toks+1,by rw[List.size_toArray,hlen]⟩,q⟩
 ·obtain⟨its,r',pl,hz⟩:=I.tuple hq
  have hlen:=r'.length
  exact len_tuple pl (by simp only[List.size_toArray]<;>omega) ⟨.int ys.length,H,I.tok _,⟨s.toks+1,by rw[List.size_toArray,hlen]⟩,q⟩
theorem yD:Vj X (.builtin "len") (λxs H Q=>∃z,xs=[.str z]/\z.length<=sizeLine/\Q (.int z.length) H):=by
 intro pins s σ H xs us Q I r h
 obtain⟨z,rfl,hz,q⟩:=h
 obtain⟨u,rfl,t,rfl⟩:=vals1 r
 have hn:=jQ
 exact len_str (by omega) ⟨.int z.length,H,I.tok _,⟨_,rfl⟩,q⟩
noncomputable def tyV (K:PySem.W.Frag)(T:String)(x:V)(H:Hp):Prop:=match x with
 |.str _=>T="str"
 |.int _=>T="int"
 |.ref p=>(T="list"/\∃xs,SqL K H p xs)\/(T="tuple"/\∃o,K.lookup p=some o/\o.cls=.type "tuple"/\o.dict=none)\/
   (T="dict"/\((∃kvs,H p=some (.dK kvs))\/∃kvs,H p=some (.dT kvs)))\/(T="set"/\∃S n,H p=some (.set S n))
 |_=>False
theorem Ug{pins:List (Addr×Obj)}{σ:St}{H:Hp}{s:Shared}{T:String}{x:V}{v:Value}(I:Inv X pins σ H s)(r:RelV x v)(ty:tyV X.K T x H) :
  s.TypeIs v T/\∀a,v=.ref a->∃ob,s.heap.get? a=some ob/\ob.dict=none:=by
 cases x with
 |str z=>
  obtain⟨t,rfl⟩:=r
  cases (show T="str" from ty)
  exact⟨typeIs_str s z t,λ_ e=>nomatch e⟩
 |int i=>
  obtain⟨t,rfl⟩:=r
  cases (show T="int" from ty)
  exact⟨typeIs_int s i t,λ_ e=>nomatch e⟩
 |ref p=>
  cases r
  rcases ty with⟨rfl,xs,hq⟩|⟨rfl,o,hk,hc,hd⟩|⟨rfl,hk⟩|⟨rfl,S,n,hk⟩
  ·obtain⟨its,_,pl,_⟩:=I.list hq
   refine⟨pl.isList.typeIs,λa e=>?_⟩
   cases e
   obtain⟨o,n,e,c,hd,_⟩:=pl
   exact⟨o,e,hd⟩
  ·refine⟨⟨o,I.kIn p o hk,hc⟩,λa e=>?_⟩
   cases e
   exact⟨o,I.kIn _ o hk,hd⟩
  ·have z:∃o,s.heap.get? p=some o/\o.ExactDict:=by
    rcases hk with⟨kvs,hk⟩|⟨kvs,hk⟩
    ·obtain⟨_,_,_,_,o,_,_,e,ex,_⟩:=I.hok p _ hk
     exact⟨o,e,ex⟩
    ·obtain⟨_,_,_,_,o,_,_,e,ex,_⟩:=I.hok p _ hk
     exact⟨o,e,ex⟩
   obtain⟨o,e,ex⟩:=z
   refine⟨⟨o,e,ex.1⟩,λa e2=>?_⟩
   cases e2
   exact⟨o,e,ex.2.1⟩
  ·obtain⟨o,_,_,_,e,ex,_⟩:=I.hok p _ hk
   refine⟨⟨o,e,ex.1⟩,λa e2=>?_⟩
   cases e2
   exact⟨o,e,ex.2.1⟩
 |_=>exact False.elim ty
noncomputable def tBM (K:PySem.W.Frag)(T:String)(r:V->List V->Hp->VK->Prop)(to:TE)(t:TA):TE:=λσ H Q=>to σ H λx H1=>tyV K T x H1/\t σ H1 λxs H2=>r x xs H2 Q
variable {o e:Expr}{es:List Expr}{to:TE}{t:TA}{name:Str}{apos cpos:Pos}{T id:String}{r:V->List V->Hp->VK->Prop}
theorem XR (pa:PlainAttrs T) (slot:Slot T name id) (hty:typeOf (.builtin id)=pure (.type "method_descriptor")) (hm:MtR X id r) (ho:PE X o to) (ha:PA X (e::es) t)
  (hbase:attributeBase o name X.env (eval o X.env)=eval o X.env:=by rfl)
  (hfew:((backTo cpos (starEach (e::es) X.env)).all (λx=>!x.1)&&(backToKw cpos (keywordEach [] X.env)).all (λx=>x.1.isSome)
   &&decide ((e::es).length+([]:List Keyword).length+(if ([]:List Keyword).isEmpty then 0 else 1)<30))=true:=by rfl)
  (hline:(apos.endLine == cpos.line)=true:=by rfl) (hs:starEach (e::es) X.env=(false,eval e X.env)::starEach es X.env:=by rfl) (hplain:(backTo cpos (starEach es X.env)).any (·.1)=false:=by rfl) :
  PE X (.Call (.Attribute o name apos) (e::es) [] cpos) (tBM X.K T r to t):=by
 intro pins s σ H Q I h
 refine wpAny_Call_method_late hbase hfew hline rfl (thn (ho pins s σ H _ I h) λv s1 ⟨x,H1,I1,r1,ty,q1⟩=>?_)
 obtain⟨h1,h2⟩:=Ug I1 r1 ty
 refine⟨T,id,pa,slot,hty,h1,h2,?_⟩
 have hA:=ha cpos pins s1 σ H1 _ I1 q1
 rw[hs] at hA ⊢
 refine Calls.callWith_builtin (by show (false || (backTo cpos (starEach es X.env)).any (·.1))=false;rw[hplain]<;>rfl) (Calls.evalArgs_plain ?_)
 exact thn hA λus s2 ⟨vs,H2,I2,r2,q2⟩=>hm pins s2 σ H2 x vs v us Q I2 r1 r2 q2
end
end L2
namespace L2
open PySem PySem.Spec PyProof.Rows
noncomputable def MtM (X:Cx)(id:String)(r:V->List V->Hp->VK->Prop):Prop:=
 ∀(pins:List (Addr×Obj)) (s:Shared) (σ:St) (H:Hp) (x:V) (xs:List V) (v:Value) (us:List Value) (Q:VK),Inv X pins σ H s->RelV x v->Vals xs us->r x xs H Q->
  wpAny (model X.prog X.w) X.A (call (.builtin id) (v::us)) (EP X pins σ Q) X.xe s
theorem Vals.one:∀{x:V} {us:List Value},Vals [x] us->∃u,us=[u]/\RelV x u
 |_,_,.cons r .nil=>⟨_,rfl,r⟩
theorem Vals.eraseIdx:∀{xs:List V} {us:List Value} (i:Nat),Vals xs us->Vals (xs.eraseIdx i) (us.eraseIdx i)
 |_,_,_,.nil=>.nil
 |_,_,0,.cons _ t=>t
 |_,_,i+1,.cons r t=>.cons r (Vals.eraseIdx i t)
theorem y6{α:Type}:∀(l:List α) (i:Nat),(l.eraseIdx i).length<=l.length
 |[],_=>Nat.le_refl _
 |_::_,0=>Nat.le_succ _
 |_::r,i+1=>Nat.succ_le_succ (y6 r i)
section
variable {X:Cx}{pins:List (Addr×Obj)}{σ:St}{H:Hp}{s:Shared}{l b:Addr}{xs ys zs:List V}
theorem Inv.lset{its its':List Value}{n:Nat}{f:Array Value->Array Value}{t':Nat}(I:Inv X pins σ H s)(hH:H l=some (.lst xs))
  (e:s.heap.get? l=some {cls:=.type "list",data:=.seq its.toArray n}) (hf:f its.toArray=its'.toArray) (hv:Vals ys its') (hz:ys.length<=sizeLine) :
  Inv X pins σ (upd H l (.lst ys)) {s with heap:=s.heap.update l (Obj.mapSeq f),toks:=t'}:=by
 have q:=PySem.IsL.update e f
 rw[hf] at q
 refine I.write (x:=l) (e:=l) (by rw[hH];exact trivial) (.inl rfl) (λb' u hb hu=>(Heap.get?_update_other s.heap (Obj.mapSeq f) (Ne.symm hb)).trans hu) ⟨_,q⟩ ?_
 exact⟨hz,its',_,hv,q⟩
theorem Inv.lnew{its:List Value}{t':Nat}(I:Inv X pins σ H s)(hv:Vals ys its)(hz:ys.length<=sizeLine) :
  Inv X pins σ (upd H s.heap.objs.size (.lst ys)) {s with heap:=s.heap.push {cls:=.type "list",data:=.seq its.toArray},toks:=t'}:=
 I.laid (λ_ _ q=>Heap.get?_push_of_some _ q) (Nat.le_refl _) ⟨hz,its,0,hv,Heap.get?_push_size _ rfl⟩
theorem Inv.fresh(I:Inv X pins σ H s):H s.heap.objs.size=none:=I.hok.fresh (Nat.le_refl _)
theorem Inv.lstM(I:Inv X pins σ H s)(hH:H l=some (.lst xs)):xs.length<=sizeLine/\∃(its:List Value) (n:Nat),Vals xs its/\xs.length=its.length/\s.heap.get? l=some {cls:=.type "list",data:=.seq its.toArray n}:=by
 obtain⟨z,its,n,r,e⟩:=I.hok l _ hH
 exact⟨z,its,n,r,r.length,e⟩
end
section
variable {X:Cx}
noncomputable def JP:V->List V->Hp->VK->Prop:=λx vs H Q=>∃l xs y,x=.ref l/\vs=[y]/\H l=some (.lst xs)/\xs.length<sizeLine/\Q .non (upd H l (.lst (xs++[y])))
theorem y7:MtM X "list.append" JP:=by
 intro pins s σ H x vs v us Q I rx rv h
 obtain⟨l,xs,y,rfl,rfl,hH,hz,q⟩:=h
 cases rx
 obtain⟨u,rfl,ru⟩:=rv.one
 obtain⟨z,its,n,r,hl,e⟩:=I.lstM hH
 refine call_meets F.slot_list_append ⟨_,e,rfl⟩ F.entry_list_append (F.args_list_append_2 _ _) (PySem.list_append l its.toArray n u (by rw[List.size_toArray];omega)) ⟨e,?_⟩
 refine⟨.non,_,I.lset (its':=its++[u]) hH e (by simp) (r.append (.cons ru .nil)) ?_,rfl,q⟩
 rw[List.length_append,List.length_singleton]
 omega
noncomputable def Ya:V->List V->Hp->VK->Prop:=λx vs H Q=>∃l xs i k y,x=.ref l/\vs=[.int i]/\H l=some (.lst xs) /\ -(2 ^ 63)<=i/\i<2 ^ 63/\seqIndex? i xs.length=some k/\xs[k]?=some y/\Q y (upd H l (.lst (xs.eraseIdx k)))
theorem VW:MtM X "list.pop" Ya:=by
 intro pins s σ H x vs v us Q I rx rv h
 obtain⟨l,xs,i,k,y,rfl,rfl,hH,h1,h2,hk,hy,q⟩:=h
 cases rx
 obtain⟨u,rfl,ru⟩:=rv.one
 obtain⟨t,rfl⟩:=ru
 obtain⟨z,its,n,r,hl,e⟩:=I.lstM hH
 obtain⟨w,hw,rw'⟩:=r.get hy
 refine call_meets F.slot_list_pop ⟨_,e,rfl⟩ F.entry_list_pop (F.args_list_pop_2 _ _)
  (MeetsSeq.list_pop_at l its.toArray n i t k w (fitsIndex_both h1 h2) (by rw[List.size_toArray,←hl];exact hk) (by rw[←Array.getElem?_toList];exact hw) (by rw[List.size_toArray];omega)) ⟨e,?_⟩
 refine⟨y,_,I.lset (its':=its.eraseIdx k) hH e ?_ (r.eraseIdx k) ?_,rw',q⟩
 ·show its.toArray.eraseIdxIfInBounds k=(its.eraseIdx k).toArray
  rw[List.eraseIdxIfInBounds_toArray]
 ·have:=y6 xs k
  omega
end
end L2
namespace Att
open PySem PySem.W PySem.Calls PyProof.Rows
theorem jo{P:Params}{h:Heap}:∀(ns:List Int) (vs:List Value),WellAll P h vs (ns.map WData.int)->IntsAre vs ns:=by
 intro ns
 induction ns with
 |nil=>
  intro vs w
  rw[List.map_nil] at w
  cases w
  exact .nil
 |cons n ns ih=>
  intro vs w
  rw[List.map_cons] at w
  cases w with
  |cons a b=>
   cases a
   exact .cons _ _ (ih _ b)
theorem Wj{l:OpenLaw}{n:Nat}(hn:l.most=some n){P:Params}{h:Heap}{args:List WData}{vals:List Value}
  (hpre:l.row.toRowW.claim.pre args=true) (hwl:WellAll P h vals args) :
  ∃a vs ns,vals=[Value.ref a]/\args=[WData.list (ns.map WData.int)]/\h.get? a=some {cls:=.type "list",data:=.seq vs.toArray}/\IntsAre vs ns/\ns.length<=n:=by
 have hsh:WShape.hasAll [] args [.list .int]=true:=(pre_splitW hpre).1
 have hc:l.pre.holds [] {args:=args}=true:=(pre_splitW hpre).2
 obtain⟨d,r,rfl,h1,h2⟩:=hasAllW_cons hsh
 obtain rfl:=hasAllW_nil h2
 obtain⟨xs,rfl,h3⟩:=hasW_list h1
 obtain⟨ns,rfl⟩:=items_int h3
 have hlen:ns.length<=n:=by
  unfold OpenLaw.pre at hc
  have h4:(WTm.not (.lt (.lit (.int (n:Int))) (.len (.arg 0)))).holds [] {args:=[.list (ns.map .int)]}=true:=by
   have h4:=(holds_andW hc).1
   rw[hn] at h4
   exact h4
  have h5:=condW_of h4 (w_not (w_lt w_lit (w_len_list (w_arg rfl))))
  rw[List.length_map] at h5
  refine Nat.le_of_not_lt λq=>?_
  have q':(n:Int)<((ns.length:Nat):Int):=by omega
  first
   |(rw[decide_eq_true q'] at h5;exact absurd h5 (by decide))
   |(simp at h5;omega)
 cases hwl with
 |cons w1 w2=>
  cases w2
  cases w1 with
  |list ho hall=>exact⟨_,_,ns,rfl,rfl,ho,jo ns _ hall,hlen⟩
theorem Wl(l:OpenLaw)(args:List WData):l.row.toRowW.claim.post args (.bool true) args=true:=
 postW_of (r:=l.row.toRowW) (X:=(true == true))
  (show WShape.has [] (.bool true) .bool=true by first|rfl|decide|simp[WShape.has,WShape.arms,WShape.armsAll])
  (show (WTm.eq .res (.lit (.bool true))).value [] {args:=args,res:=some (.bool true),after:=args}=some (.bool (true == true)) from w_eq_bool (w_res rfl) w_lit) rfl
theorem attach_call{l:OpenLaw}{n:Nat}{q:Program}{loose:List Str}{XP:(Str->Option Value)->Heap->Prop}{YP:World->Heap->Prop}{d:DefRec}
  (hn:l.most=some n) (hdf:d.params.defaults=[])
  (call:∀(w:World) (s₀ s₁:Shared) (mg mb:Str->Option Value) (fa:Addr) (o:Obj) (pm cd doc:Value) (a:Addr) (vs:List Value) (ns:List Int),
   Ground q loose [] XP w s₀ mg mb s₁.heap->YP w s₁.heap->
   s₁.heap.get? fa=some o->o.data=.func (docDef d.name d.params d.body d.scope pm cd doc)->s₁.heap.CodeRec cd d.name->mg d.name=some (.ref fa)->
   s₁.heap.get? a=some {cls:=.type "list",data:=.seq vs.toArray}->IntsAre vs ns->ns.length<=n->s₁.gens=#[]->
   codeAny (model l.prog w) callerA (.call (.ref fa) ⟨[.ref a],[]⟩) (λr s'=>r=.ok (.ret (.bool true))/\OldK s₁.heap s'.heap/\s'.os=s₁.os/\AllBare s'.gens) s₁) :
  WalkO q loose XP YP l.row.toRowW d [] (λf vs=>PySem.call f vs):=by
 intro w s₀ s₁ mg mb G Y fa o pm cd doc dV kV ho hd hcd hD hmg hg args vals as hpre hlay hrd hwl hlo
 obtain rfl:dV=.none:=Dflts.none hD hdf
 obtain rfl:kV=.none:=Dflts.noKw hD
 obtain⟨a,vs,ns,rfl,rfl,hobj,hints,hlen⟩:=Wj hn hpre hwl
 refine enter_call (codeAny_mono (call w s₀ s₁ mg mb fa o pm cd doc a vs ns G Y ho (fd_plain hd) hcd hmg hobj hints hlen hg) λr s' hq=>?_)
 obtain⟨rfl,h2,h3,h4⟩:=hq
 exact⟨.inl ⟨.bool true,.bool true,[],rfl,λ_=>rfl,.bool true,Wl l _,λ_=>⟨List.Pairwise.nil,λ_ hm=>(nomatch hm)⟩⟩,h2,h3,h4⟩
section
variable {prog:Program}{w:World}{A:Around}{E:Value->Shared->Prop}{s:Shared}{K:Frag}
noncomputable def ledger(h:Heap)(L d:Addr):List (Addr×Obj):=(List.range h.objs.size).filterMap λa=>if a=L\/a=d then none else (h.get? a).map λo=>(a,o)
end
end Att
namespace L2
open PySem PySem.Spec PyProof.Rows
theorem vals_ints:∀{vs:List Value} {ns:List Int},IntsAre vs ns->Vals (ns.map V.int) vs
 |_,_,.nil=>.nil
 |_,_,.cons n t h=>.cons ⟨t,rfl⟩ (vals_ints h)
end L2
namespace L2
open PySem PySem.Spec PyProof.Rows
noncomputable abbrev KOf{K:PySem.W.Frag}{h:Heap}(_:K.In h):PySem.W.Frag:=K
end L2
namespace L2
open PySem PySem.Spec PyProof.Rows
noncomputable def inClass(s:Stmt)(j:Nat):Stmt:=match s with
 |.ClassDef _ _ _ body _ _ _ _ _ _ _=>body.getD j (.Pass ⟨0,0,0,0⟩)
 |_=>.Pass ⟨0,0,0,0⟩
noncomputable def zQ(s:Stmt):Arguments:=match s with
 |.FunctionDef _ a _ _ _ _ _ _ _ _=>a
 |_=>{posonlyargs:=[],args:=[],vararg:=none,kwonlyargs:=[],kw_defaults:=[],kwarg:=none,defaults:=[]}
noncomputable def z7(s:Stmt):List Stmt:=match s with
 |.FunctionDef _ _ b _ _ _ _ _ _ _=>b
 |_=>[]
noncomputable def zr(s:Stmt):Scope:=match s with
 |.FunctionDef _ _ _ _ _ _ sc _ _ _=>sc
 |_=>{kind:=.function,names:=[],isGenerator:=false,isCoroutine:=false}
noncomputable abbrev E0:XK:=λ_ _ _=>False
structure Fun(K:PySem.W.Frag)(x qual:Str)(st:Stmt)(f:Addr)(fd:FuncData):Prop where
 ex:∃(oc:Value) (od:Option Addr) (kV doc pm:Value) (an:Option Addr) (cdv ct:Value) (osl:Array (Option Value)),
  fd=PySem.W.fnOf x qual (zQ st) (z7 st) (zr st) .none kV doc pm an cdv ct/\K.lookup f=some ⟨oc,od,.func fd,osl⟩/\PySem.W.codeIn K cdv qual=true
 kp:PySem.W.keepIn K (.ref f)=true
section
variable {P:Program}{w:World}{K:PySem.W.Frag}{mg:Str->Option Value}{base:Heap}
theorem Fun.binds{x qual:Str}{st:Stmt}{f:Addr}{fd:FuncData}{ps:List Str}(F:Fun K x qual st f fd)
  (h:∀(kV doc pm:Value) (an:Option Addr) (cdv ct:Value) (us:List Value),us.length=ps.length->bindArgs (PySem.W.fnOf x qual (zQ st) (z7 st) (zr st) .none kV doc pm an cdv ct) ⟨us,[]⟩=pure (ps.zip us)):Binds K fd ps []:=by
 obtain⟨oc,od,kV,doc,pm,an,cdv,ct,osl,rfl,lk,hcd⟩:=F.ex
 exact .all (h kV doc pm an cdv ct)
theorem xc{x qual:Str}{st:Stmt}{f:Addr}{oc:Value}{od an:Option Addr}{osl:Array (Option Value)}{kV doc pm cdv ct:Value}(l:K.lookup f=some ⟨oc,od,.func (PySem.W.fnOf x qual (zQ st) (z7 st) (zr st) .none kV doc pm an cdv ct),osl⟩)
  (c:PySem.W.codeIn K cdv qual=true) (k:PySem.W.keepIn K (.ref f)=true):Fun K x qual st f (PySem.W.fnOf x qual (zQ st) (z7 st) (zr st) .none kV doc pm an cdv ct):=⟨⟨oc,od,kV,doc,pm,an,cdv,ct,osl,rfl,l,c⟩,k⟩
end
noncomputable def jY (H H':Hp):Prop:=∀b o,H b=some o->H' b=some o
end L2
end
namespace NH
open PySem
noncomputable def z1R (h:Heap)(x:Addr)(cls:Value)(d:Option Addr):Prop:=∃oe vs a0,h.get? x=some oe/\(oe.cls=cls/\oe.dict=d)/\oe.data=.fields vs/\vs[0]?=some a0/\vs[1]?=some .none
inductive XTr(h:Heap)(x T:Addr)(cls:Value)(d:Option Addr)(fl:Value):Prop where
 |mk (oe:Obj) (vs:Array Value) (a0:Value) (oT:Obj) (ts:Array Value) (h1:h.get? x=some oe) (h2:oe.cls=cls/\oe.dict=d) (h3:oe.data=.fields vs) (h4:vs[0]?=some a0) (h5:vs[1]?=some (.ref T)) (h6:T≠x) (h7:h.get? T=some oT) (h8:oT.data=.fields ts) (h9:ts[3]?=some fl)
noncomputable def z0M (h:Heap)(x:Addr)(cls:Value)(d:Option Addr):Option Addr->Value->Prop
 |none,fl=>z1R h x cls d/\fl=.none
 |some T,fl=>XTr h x T cls d fl
structure XMove(fs:List Addr)(x:Addr)(T T':Option Addr)(h h':Heap):Prop where
 keep:∀b o,h.get? b=some o->b∉fs->b≠x->b∉T.toList->h'.get? b=some o
 slot:∀b o,h.get? b=some o->b∈fs->b≠x->b∉T.toList->∃sl,h'.get? b=some {o with slots:=sl}
 newT:∀t∈T'.toList,t∈T.toList\/h.objs.size<=t
theorem XMove.refl(fs:List Addr)(x:Addr)(T:Option Addr)(h:Heap):XMove fs x T T h h:=⟨λ_ _ e _ _ _=>e,λ_ o e _ _ _=>⟨o.slots,e⟩,λ_ ht=>.inl ht⟩
theorem kL(o:Obj)(f:Array Value->Array Value):(Obj.mapFields f o).dict=o.dict:=by
 obtain⟨c,d,dt,sl⟩:=o
 cases dt<;>rfl
section
variable {M:Model}{A:Around}{E:Value->Shared->Prop}{s:Shared}
theorem WD{base:Heap}{env e0:Env}{outer:List Env}{L:Addr}{Q:Value->Shared->Prop}(hfr:A.frames=some (e0::outer))(hl:s.heap.FunFrames base (e0::outer))
  (hf:env.frame=some L) (h0:e0.frame=some L) (h:∀h',Heap.SlotsOnly ((e0::outer).filterMap (·.frame)) s.heap h'->Q (.ref L) {s with heap:=h'}):wpAny M A (frameOf env) Q E s:=by
 unfold frameOf
 refine wpAny_bind (wpAny_frameEnvs hfr ?_)
 have hw:((e0::outer).dropWhile λy=>y.frame != env.frame)=e0::outer:=by simp[List.dropWhile,hf,h0]
 rw[hw]
 unfold frameObject
 refine wpAny_bind (wpAny_bind (wpAny_readyFrames_fun hl λh1 q1=>wpAny_pure ?_))
 rw[h0]
 exact wpAny_pure (h h1 q1)
theorem jV{base:Heap}{env e0:Env}{outer:List Env}{L x:Addr}{cls head:Value}{d T:Option Addr}{had:Bool}{oe:Obj}{vs:Array Value}{a0:Value}{Q:Unit->Shared->Prop}
  (hfr:A.frames=some (e0::outer)) (hl:s.heap.FunFrames base (e0::outer)) (hf:env.frame=some L) (h0:e0.frame=some L)
  (ho:s.heap.get? x=some oe) (hc:oe.cls=cls/\oe.dict=d) (hd:oe.data=.fields vs) (hv0:vs[0]?=some a0) (hsz:1<vs.size)
  (h:∀h' t,XTr h' x t cls d (rawInt L)->XMove ((e0::outer).filterMap (·.frame)) x T (some t) s.heap h'->s.heap.objs.size<=t->Q () {s with heap:=h'}) :
  wpAny M A (do let a ←frameOf env;let pl ←entryPlaceOf L had;let b ←EntryCells.newEntry head a .none (rawInt L) .none pl;setField (.ref x) 1 b) Q E s:=by
 have nin:x∉(e0::outer).filterMap (·.frame):=λhm=>by
  obtain⟨_,o,ho',nf⟩:=hl.mem hm
  rw[ho] at ho';cases ho';exact nf vs hd
 refine wpAny_bind (WD hfr hl hf h0 λh1 q1=>?_)
 refine wpAny_bind (wpAny_entryPlaceOf λpl hpl=>?_)
 unfold EntryCells.newEntry newFields
 refine wpAny_bind (wpAny_newObj_type ?_ (hpl.sizeOk5 _ _ _ _ _))
 have e1:h1.get? x=some oe:=(q1.2.1 x nin).trans ho
 generalize hob:({cls:=.type "traceback",dict:=none,data:=.fields ([head,.ref L,.none,rawInt L,.none]++(if pl.isEmpty then List.replicate 6 Value.none else pl)).toArray}:Obj)=ob
 have e2:=Heap.get?_push_of_some (h:=h1) ob e1
 have hdata:ob.data=.fields ([head,.ref L,.none,rawInt L,.none]++(if pl.isEmpty then List.replicate 6 Value.none else pl)).toArray:=by rw[←hob]
 have hfree:ob.isFreed=false:=by rw[←hob];rfl
 refine wpAny_setField e2 hd hsz ?_
 have tx:h1.objs.size≠x:=Nat.ne_of_gt (Heap.lt_size e1)
 have d3:=Obj.data_mapFields hd (·.setIfInBounds 1 (Value.ref h1.objs.size))
 have e3:=Heap.get?_update_self (Obj.mapFields (·.setIfInBounds 1 (Value.ref h1.objs.size))) e2 (Obj.isFreed_of_fields d3)
 have other:∀b o,b≠x->h1.get? b=some o->((h1.push ob).update x (Obj.mapFields (·.setIfInBounds 1 (Value.ref h1.objs.size)))).get? b=some o:=λb o hb e=>by
  rw[Heap.get?_update_other _ _ (Ne.symm hb)];exact Heap.get?_push_of_some _ e
 refine h _ h1.objs.size ⟨_,_,a0,ob,_,e3,⟨(Obj.cls_mapFields _ _).trans hc.1,(kL _ _).trans hc.2⟩,d3,by rw[Array.getElem?_setIfInBounds_ne (by decide)];exact hv0,by simp[hsz],tx,?_,hdata,?_⟩ ⟨λb o e nb nx _=>?_,λb o e _ nx _=>?_,λt ht=>.inr ?_⟩ (Nat.le_of_eq q1.1.symm)
 ·rw[Heap.get?_update_other _ _ (Ne.symm tx)];exact Heap.get?_push_size _ hfree
 ·first|(simp;done)|(rcases hpl with rfl|⟨_,_,_,_,_,_,_,rfl⟩<;>simp)
 ·exact other b o nx ((q1.2.1 b nb).trans e)
 ·obtain⟨sl,e'⟩:=q1.2.2 b o e
  exact⟨sl,other b _ nx e'⟩
 ·have:t=h1.objs.size:=by simpa using ht
  rw[this];exact Nat.le_of_eq q1.1.symm
theorem WZ{base:Heap}{env e0:Env}{outer:List Env}{L x:Addr}{cls:Value}{d T:Option Addr}{fl:Value}{Q:Unit->Shared->Prop}
  (hfr:A.frames=some (e0::outer)) (hl:s.heap.FunFrames base (e0::outer)) (hf:env.frame=some L) (h0:e0.frame=some L) (hx:z0M s.heap x cls d T fl) (hfl:fl=.none\/fl=rawInt L)
  (h:∀h' t,XTr h' x t cls d (rawInt L)->XMove ((e0::outer).filterMap (·.frame)) x T (some t) s.heap h'->Q () {s with heap:=h'}):wpAny M A (noteFrame (.ref x) env) Q E s:=by
 unfold noteFrame
 simp only[hf]
 cases T with
 |none=>
  obtain⟨⟨oe,vs,a0,ho,hc,hd,hv0,hv1⟩,_⟩:=hx
  refine wpAny_bind (wpAny_field ho hd hv1 ?_)
  rw[if_neg (by decide)]
  exact jV (T:=none) hfr hl hf h0 ho hc hd hv0 (Array.getElem?_eq_some_iff.mp hv1).1 λh' t a b _=>h h' t a b
 |some T=>
  obtain⟨oe,vs,a0,oT,ts,ho,hc,hd,hv0,hv1,hT,hoT,hdT,h3⟩:=hx
  refine wpAny_bind (wpAny_field ho hd hv1 ?_)
  rw[if_pos (show (Value.ref T != Value.none)=true from by simp)]
  refine wpAny_bind (wpAny_field hoT hdT h3 ?_)
  by_cases hq:fl=rawInt L
  ·subst hq
   rw[if_pos (show (rawInt L == rawInt L)=true from by simp)]
   exact wpAny_pure (h s.heap T ⟨oe,vs,a0,oT,ts,ho,hc,hd,hv0,hv1,hT,hoT,hdT,h3⟩ (XMove.refl _ _ _ _))
  ·obtain rfl:fl=.none:=hfl.resolve_right hq
   rw[if_neg (show ¬((Value.none == rawInt L)=true) from by simp[rawInt])]
   refine wpAny_bind (wpAny_setField hoT hdT (Array.getElem?_eq_some_iff.mp h3).1 ?_)
   have oth:∀b,b≠T->(s.heap.update T (Obj.mapFields (·.setIfInBounds 3 Value.none))).get? b=s.heap.get? b:=λb hb=>Heap.get?_update_other _ _ (Ne.symm hb)
   have fr:∀b∈(e0::outer).filterMap (·.frame),b≠T:=λb hb z=>by
    obtain⟨_,o,ho',nf⟩:=hl.mem hb
    rw[z,hoT] at ho';cases ho';exact nf ts hdT
   refine jV (T:=some T) (s:={s with heap:=s.heap.update T (Obj.mapFields (·.setIfInBounds 3 Value.none))}) (base:=base) hfr (hl.of_keeps λb o e nf=>⟨o,(oth b λz=>?_).trans e,rfl⟩) hf h0 ((oth x (Ne.symm hT)).trans ho) hc hd hv0 (Array.getElem?_eq_some_iff.mp hv1).1 λh' t a b c=>h h' t a ⟨?_,?_,?_⟩
   ·rw[z,hoT] at e;cases e;exact nf ts hdT
   ·exact λd o e n1 n2 n3=>b.keep d o ((oth d λz=>n3 (by simp[z])).trans e) n1 n2 n3
   ·exact λd o e n1 n2 n3=>b.slot d o ((oth d λz=>n3 (by simp[z])).trans e) n1 n2 n3
   ·intro t' ht'
    rcases b.newT t' ht' with z|z
    ·exact .inl z
    ·refine .inr (Nat.le_trans (Nat.le_of_eq ?_) z)
     exact (Heap.size_after_update ..).symm
theorem Zw{x T:Addr}{cls fl:Value}{d fr:Option Addr}{fs:List Addr}{Q:Unit->Shared->Prop}(hx:XTr s.heap x T cls d fl)
  (h:∀h',XTr h' x T cls d (fr.elim .none λf=>rawInt f)->XMove fs x (some T) (some T) s.heap h'->Q () {s with heap:=h'}):wpAny M A (setFlight (.ref x) fr) Q E s:=by
 obtain⟨oe,vs,a0,oT,ts,ho,hc,hd,hv0,hv1,hT,hoT,hdT,h3⟩:=hx
 have sz:3<ts.size:=(Array.getElem?_eq_some_iff.mp h3).1
 unfold setFlight
 refine wpAny_bind (wpAny_field ho hd hv1 ?_)
 rw[if_pos (show (Value.ref T != Value.none)=true from by simp)]
 refine wpAny_setField hoT hdT sz ?_
 have oth:∀b,b≠T->(s.heap.update T (Obj.mapFields (·.setIfInBounds 3 (fr.elim .none λf=>rawInt f)))).get? b=s.heap.get? b:=λb hb=>Heap.get?_update_other _ _ (Ne.symm hb)
 have dT:=Obj.data_mapFields hdT (·.setIfInBounds 3 (fr.elim Value.none λf=>rawInt f))
 exact h _ ⟨oe,vs,a0,_,_,(oth x (Ne.symm hT)).trans ho,hc,hd,hv0,hv1,hT,Heap.get?_update_self _ hoT (Obj.isFreed_of_fields dT),dT,by simp[sz]⟩
  ⟨λb o e _ _ n=>(oth b λz=>n (by simp[z])).trans e,λb o e _ _ n=>⟨o.slots,(oth b λz=>n (by simp[z])).trans e⟩,λt ht=>.inl ht⟩
end
end NH
namespace NH
open PySem PySem.Spec PyProof.Rows L2
noncomputable abbrev St:=L2.St
theorem xF{P:Program}{w:World}{H:Hp}{h:Heap}{a:Addr}{o:HO}(x:ObjOk P w H h a o):∃ob,h.get? a=some ob:=by
 cases o with
 |lst xs=>obtain⟨_,_,_,_,e⟩:=x;exact⟨_,e⟩
 |tup xs=>obtain⟨_,_,_,ob,e,_⟩:=x;exact⟨ob,e⟩
 |dK kvs=>obtain⟨_,_,_,_,o,_,_,e,_⟩:=x;exact⟨o,e⟩
 |dT kvs=>obtain⟨_,_,_,_,o,_,_,e,_⟩:=x;exact⟨o,e⟩
 |set S n=>obtain⟨o,_,_,_,e,_⟩:=x;exact⟨o,e⟩
 |ins C dx fs=>obtain⟨_,_,_,e,_⟩:=x;exact⟨_,e⟩
 |own y=>obtain⟨o,e⟩:=x;exact⟨o,e⟩
 |xd fs=>obtain⟨_,⟨o,_,_,e,_⟩,_⟩:=x;exact⟨o,e⟩
 |rng lo hi=>obtain⟨_,_,_,e⟩:=x;exact⟨_,e⟩
 |frz ob u=>obtain⟨e,_⟩:=x;exact⟨_,e⟩
 |tbl ps=>exact⟨_,(show h.get? a=some _ from x)⟩
 |met f y=>exact⟨_,(show h.get? a=some _ from x)⟩
 |ext φ=>obtain⟨_,⟨o,e⟩,_⟩:=x;exact⟨o,e⟩
structure XOk(X:Cx)(H:Hp)(b:Addr):Prop where
 free:H b=none
 loc:b≠X.env.locals
 nfs:b∉X.fs
 new:b∈X.ex\/X.s₀.heap.get? b=none
 cel:∀x c,X.env.cells.lookup x=some c->c≠b
 pin:∀p∈X.pn,p.1≠b
section
variable {X:Cx}{pins:List (Addr×Obj)}{σ:St}{H H':Hp}{s:Shared}{h':Heap}
theorem u5(I:Inv X pins σ H s){b:Addr}(e:s.heap.get? b=none):H b=none:=by
 cases q:H b with
 |none=>rfl
 |some o=>
  obtain⟨ob,z⟩:=xF (I.hok b o q)
  rw[e] at z;cases z
theorem vn(I:Inv X pins σ H s){b:Addr}(e:s.heap.get? b=none):XOk X H b:=by
 refine⟨u5 I e,λz=>?_,λz=>?_,?_,λx c q z=>?_,λp hp z=>?_⟩
 ·obtain⟨m,⟨o,_,_,ho,_⟩,_⟩:=I.loc
  rw[←z,e] at ho;cases ho
 ·obtain⟨_,o,ho,_⟩:=I.funs.mem z
  rw[e] at ho;cases ho
 ·by_cases hx:b∈X.ex
  ·exact .inl hx
  ·refine .inr ?_
   cases q:X.s₀.heap.get? b with
   |none=>rfl
   |some o=>
    obtain⟨o',z⟩:=I.base.there b o q hx
    rw[e] at z;cases z
 ·obtain⟨v,o,ho,_⟩:=I.cell x c q
  rw[z,e] at ho;cases ho
 ·have:=(I.pin p (List.mem_append_left _ hp)).1
  rw[z,e] at this;cases this
theorem uH{ch:List Addr}(I:Inv X pins σ H s)(hch:∀b∈ch,XOk X H b/\∀p∈pins,p.1≠b)
  (keep:∀b o,b∉frs X.stack->b∉ch->s.heap.get? b=some o->h'.get? b=some o)
  (slot:∀b o,b∈frs X.stack->b∉ch->s.heap.get? b=some o->∃sl,h'.get? b=some {o with slots:=sl}) :
  Inv X pins σ H {s with heap:=h'}:=by
 have tr:∀b u,H b=some u->b∉ch:=λb u e z=>by rw[(hch b z).1.free] at e;cases e
 have trf:∀b u,H b=some u->b∉frs X.stack:=λb u e z=>by rw[I.stkFree b z] at e;cases e
 have any:∀b o,b∉ch->s.heap.get? b=some o->∃sl,h'.get? b=some {o with slots:=sl}:=λb o hb e=>by
  by_cases hf:b∈frs X.stack
  ·exact slot b o hf hb e
  ·exact⟨o.slots,keep b o hf hb e⟩
 have inf:∀b,b≠X.env.locals->b∉X.fs->b∉frs X.stack:=λb h1 h2 z=>(List.mem_cons.mp (I.stkSub b z)).elim h1 h2
 have nec:∀b o,X.s₀.heap.get? b=some o->b∉X.ex->b∉ch:=λb o e hx z=>by
  rcases (hch b z).1.new with q|q
  ·exact hx q
  ·rw[e] at q;cases q
 have neL:∀b o,X.s₀.heap.get? b=some o->b≠X.env.locals:=λb o e=>Nat.ne_of_lt (Nat.lt_of_lt_of_le (Heap.lt_size e) I.ok.above)
 have cellK:∀x c,X.env.cells.lookup x=some c->∀v,s.heap.IsCell c v->h'.IsCell c v:=λx c e v ⟨o,ho,hd⟩=>by
  obtain⟨sl,q⟩:=any c o (λz=>(hch c z).1.cel x c e rfl) ho
  exact⟨_,q,hd⟩
 refine⟨I.ok,I.os,I.bare,⟨λb o e n hb hx=>?_,λb o e n hb hx=>?_,λb o e n hx=>I.base.free b o e n hx,λb o e hx=>?_,λb xs e=>I.base.tups b xs e,λb o xs e=>I.base.frzs b o xs e,λb ps e=>I.base.tbls b ps e⟩,?_,λx c e=>?_,I.free,λx c e=>I.freeC x c e,λp hp=>?_,λb u e=>?_,I.len⟩
 ·exact keep b o (inf b (neL b o e) hb) (nec b o e hx) (I.base.keep b o e n hb hx)
 ·obtain⟨sl,e1⟩:=I.base.slot b o e n hb hx
  obtain⟨sl',e2⟩:=any b _ (nec b o e hx) e1
  exact⟨sl',e2⟩
 ·obtain⟨o',e1⟩:=I.base.there b o e hx
  obtain⟨sl,e2⟩:=any b o' (nec b o e hx) e1
  exact⟨_,e2⟩
 ·obtain⟨m,⟨o,es,ep,ho,r⟩,hl⟩:=I.loc
  obtain⟨sl,hL⟩:=any X.env.locals o (λz=>(hch _ z).1.loc rfl) ho
  refine⟨m,⟨_,es,ep,hL,r⟩,λi x v e1 e2 e3=>?_⟩
  obtain⟨u,ru,l⟩:=hl i x v e1 e2 e3
  refine⟨u,ru,?_⟩
  rcases l with l|⟨k,c,e,z⟩
  ·exact .inl l
  ·exact .inr ⟨k,c,e,cellK x c e _ z⟩
 ·obtain⟨v,z⟩:=I.cell x c e
  exact⟨v,cellK x c e v z⟩
 ·obtain⟨e,n,ne,nf,d⟩:=I.pin p hp
  have nch:p.1∉ch:=λz=>by
   rcases List.mem_append.mp hp with q|q
   ·exact (hch p.1 z).1.pin p q rfl
   ·exact (hch p.1 z).2 p q rfl
  exact⟨keep p.1 p.2 (inf p.1 ne nf) nch e,n,ne,nf,d⟩
 ·refine (I.hok b u e).stay (λc v hc q=>?_) (λ_ q=>q) λ_ _ q=>q
  rcases hc with z|z
  ·subst z;exact keep c v (trf c u e) (tr c u e) q
  ·exact keep c v (trf c _ z) (tr c _ z) q
structure Frm(X:Cx)(e0:Env)(out:List Env)(L:Addr):Prop where
 stk:X.stack=e0::out
 f0:e0.frame=some L
 fe:X.env.frame=some L
noncomputable abbrev XW:=Value->Option Addr->St->Hp->Prop
inductive XP(X:Cx)(W:XW)(e:Value)(s:Shared):Prop where
 |mk (x:Addr) (cls:Value) (d:Option Addr) (σ:St) (H:Hp) (T:Option Addr) (fl:Value) (ee:e=.ref x) (i:Inv X [] σ H s) (ox:XOk X H x) (ot:∀t∈T.toList,XOk X H t) (r:z0M s.heap x cls d T fl) (hf:fl=.none\/∃L,X.env.frame=some L/\fl=rawInt L) (w:W cls d σ H)
theorem ZU{x:Addr}{T:Option Addr}{t:Addr}(I:Inv X [] σ H s)(ox:XOk X H x)(ot:∀t∈T.toList,XOk X H t)(mv:XMove (frs X.stack) x T (some t) s.heap h') :
  Inv X [] σ H {s with heap:=h'}/\XOk X H t:=by
 refine⟨uH (ch:=x::T.toList) I (λb hb=>⟨?_,λp hp=>absurd hp (by simp)⟩) (λb o hf hc e=>?_) (λb o hf hc e=>?_),?_⟩
 ·rcases List.mem_cons.mp hb with z|z
  ·rw[z];exact ox
  ·exact ot b z
 ·exact mv.keep b o e hf (λz=>hc (by simp[z])) (λz=>hc (List.mem_cons_of_mem _ z))
 ·exact mv.slot b o e hf (λz=>hc (by simp[z])) (λz=>hc (List.mem_cons_of_mem _ z))
 ·rcases mv.newT t (by simp) with z|z
  ·exact ot t z
  ·exact vn I (Heap.get?_none_of_le z)
theorem jI{M:Model}{A:Around}{E:Value->Shared->Prop}{W:XW}{e:Value}{e0:Env}{out:List Env}{L:Addr}{Q:Unit->Shared->Prop}(F:Frm X e0 out L)(hfr:A.frames=some X.stack)(p:XP X W e s)
  (h:∀x cls d σ H T h',e=.ref x->Inv X [] σ H {s with heap:=h'}->XOk X H x->XOk X H T->XTr h' x T cls d (rawInt L)->W cls d σ H->Q () {s with heap:=h'}):wpAny M A (noteFrame e X.env) Q E s:=by
 obtain⟨x,cls,d,σ,H,T,fl,rfl,I,ox,ot,hr,hfl,w⟩:=p
 have hst:=I.stack
 rw[F.stk] at hfr hst
 refine WZ hfr hst F.fe F.f0 hr (hfl.imp_right λ⟨L',e1,e2⟩=>by rw[F.fe] at e1;cases e1;exact e2) λh' t tr mv=>?_
 have mv':XMove (frs X.stack) x T (some t) s.heap h':=by rw[F.stk];exact mv
 obtain⟨I',o'⟩:=ZU I ox ot mv'
 exact h x cls d σ H t h' rfl I' ox o' tr w
theorem zW{M:Model}{A:Around}{E:Value->Shared->Prop}{x T:Addr}{cls fl:Value}{d fr:Option Addr}{Q:Unit->Shared->Prop}(I:Inv X [] σ H s)(ox:XOk X H x)(oT:XOk X H T)(tr:XTr s.heap x T cls d fl)
  (h:∀h',Inv X [] σ H {s with heap:=h'}->XTr h' x T cls d (fr.elim .none λf=>rawInt f)->Q () {s with heap:=h'}):wpAny M A (setFlight (.ref x) fr) Q E s:=by
 refine Zw (fs:=frs X.stack) tr λh' tr' mv=>h h' (ZU (T:=some T) I ox (λt ht=>?_) mv).1 tr'
 have:t=T:=by simpa using ht
 rw[this];exact oT
theorem xO{W:XW}{M:Model}{e0:Env}{out:List Env}{L:Addr}(F:Frm X e0 out L)(hfr:X.A.frames=some X.stack):PassesOwn M X.A X.env (XP X W):=by
 intro e s p
 unfold notedBy
 refine jI F hfr p λx cls d σ H T h' ee I ox oT tr w=>?_
 subst ee
 unfold cameBackBy
 obtain⟨oe,vs,a0,oT',ts,ho,hc,hd,hv0,hv1,hT,hoT,hdT,h3⟩:=id tr
 refine wpAny_bind (wpAny_field ho hd hv1 ?_)
 rw[if_neg (show ¬((Value.ref T == Value.none)=true) from by simp)]
 rw[F.fe]
 have go:wpAny M X.A (setFlight (.ref x) (some L)) (λ_ s''=>XP X W (.ref x) s'') (XP X W) {s with heap:=h'}:=
  zW (s:={s with heap:=h'}) I ox oT tr λh2 I2 tr2=>⟨x,cls,d,σ,H,some T,rawInt L,rfl,I2,ox,λt ht=>by
   have:t=T:=by simpa using ht
   rw[this];exact oT,tr2,.inr ⟨L,F.fe,rfl⟩,w⟩
 first|exact go|exact wpAny_bind (wpAny_pure go)
inductive CXP(P:Program)(w:World)(outer:List Env)(H:Hp)(s:Shared)(E:XK)(e:Value)(s':Shared):Prop where
 |mk (x T:Addr) (cls:Value) (d:Option Addr) (H':Hp) (ee:e=.ref x) (o:s'.os=s.os) (b:AllBare s'.gens) (n:Un (frs outer) [] H H' s.heap s'.heap) (k:HOk P w H' s'.heap) (h1:s.heap.get? x=none) (h2:s.heap.get? T=none) (h3:H' x=none) (h4:H' T=none) (t:XTr s'.heap x T cls d .none) (q:E cls d H')
noncomputable def CX1 (P:Program)(w:World):CXT:=CXP P w
noncomputable def wOf (E:XK):XW:=λc d _ H=>E c d H
theorem Jy{M:Model}{E:XK}{e:Value}{e0:Env}{out:List Env}{L:Addr}{F2:Value->Shared->Prop}(F:Frm X e0 out L)(hfr:X.A.frames=some X.stack)(hex:X.ex=[])(p:XP X (wOf E) e s) :
  wpAny M X.A (leaving X.env e) (λ_ s''=>CX1 X.prog X.w X.outer X.H₀ X.s₀ E e s'') F2 s:=by
 unfold leaving
 refine wpAny_bind (jI F hfr p λx cls d σ H T h' ee I ox oT tr w=>?_)
 subst ee
 refine zW (s:={s with heap:=h'}) I ox oT tr λh2 I2 tr2=>?_
 have nw:∀b,XOk X H b->X.s₀.heap.get? b=none:=λb o=>o.new.resolve_left (by rw[hex];simp)
 refine⟨x,T,cls,d,H,rfl,I2.os,I2.bare,?_,I2.hok,nw x ox,nw T oT,ox.free,oT.free,tr2,w⟩
 have:=I2.base
 rw[hex] at this
 exact this
theorem yU{E:XK}{W:XW}{e:Value}{s':Shared}(I:Inv X pins σ H s)(c:CX1 X.prog X.w X.stack H s E e s')(h:∀cls d H',E cls d H'->W cls d σ H'):XP X W e s':=by
 obtain⟨x,T,cls,d,H',rfl,os,bare,un,hok,nx,nT,fx,fT,tr,w⟩:=c
 have J:Inv X pins σ H' s':=I.call' (ch:=[]) os un hok bare λb z=>absurd z (by simp)
 have k:∀b,s.heap.get? b=none->H' b=none->XOk X H' b:=λb e f=>by
  have o:=vn I e
  exact⟨f,o.loc,o.nfs,o.new,o.cel,o.pin⟩
 refine⟨x,cls,d,σ,H',some T,.none,rfl,J.pins_of (λp hp=>absurd hp (by simp)),k x nx fx,λt ht=>?_,tr,.inl rfl,h cls d H' w⟩
 have:t=T:=by simpa using ht
 rw[this];exact k T nT fT
theorem Kk{W:XW}{x:Addr}{cls:Value}{args:List Value}{h2:Heap}(I:Inv X pins σ H s)(mk:Heap.MadeExcOf s.heap h2 x cls args)(w:W cls none σ H):XP X W (.ref x) {s with heap:=h2}:=by
 have J:Inv X pins σ H {s with heap:=h2,toks:=s.toks}:=I.kept mk.keeps
 obtain⟨t,ho,_,_⟩:=mk.there
 exact⟨x,cls,none,σ,H,none,.none,rfl,J.pins_of (λp hp=>absurd hp (by simp)),vn I mk.new,λt ht=>absurd ht (by simp),⟨⟨_,_,.ref t,ho,⟨rfl,rfl⟩,rfl,rfl,rfl⟩,rfl⟩,.inl rfl,w⟩
noncomputable abbrev Cx.pin'(X:Cx)(pins:List (Addr×Obj)):Cx:={X with pn:=X.pn++pins}
noncomputable abbrev Cx.han(X:Cx)(x:Addr):Cx:={X with A:=X.A.mark (some (.ref x)),calm:=false,xe:=λ_ _=>False}
theorem WK(ok:X.Ok):(Cx.pin' X pins).Ok:=⟨ok.mod,ok.kind,ok.glob,ok.blt,ok.above,ok.inj,ok.has,ok.cab,ok.hd,ok.frames,ok.stk,ok.exf,ok.bs,ok.bsz,ok.noex,ok.exfs,ok.funs,ok.frf⟩
theorem ug(ok:(Cx.pin' X pins).Ok):X.Ok:=⟨ok.mod,ok.kind,ok.glob,ok.blt,ok.above,ok.inj,ok.has,ok.cab,ok.hd,ok.frames,ok.stk,ok.exf,ok.bs,ok.bsz,ok.noex,ok.exfs,ok.funs,ok.frf⟩
theorem YT{x:Addr}(ok:X.Ok):(Cx.han X x).Ok:=⟨ok.mod,ok.kind,ok.glob,ok.blt,ok.above,ok.inj,ok.has,ok.cab,(λh=>by cases h),ok.frames,ok.stk,ok.exf,ok.bs,ok.bsz,ok.noex,ok.exfs,ok.funs,ok.frf⟩
theorem uR(I:Inv X pins σ H s):Inv (Cx.pin' X pins) [] σ H s:=⟨WK I.ok,I.os,I.bare,I.base,I.loc,I.cell,I.free,I.freeC,λp hp=>I.pin p (by simpa using hp),I.hok,I.len⟩
theorem zw(I:Inv (Cx.pin' X pins) [] σ H s):Inv X pins σ H s:=⟨ug I.ok,I.os,I.bare,I.base,I.loc,I.cell,I.free,I.freeC,λp hp=>I.pin p (by simpa using hp),I.hok,I.len⟩
theorem ym{x:Addr}(I:Inv X pins σ H s):Inv (Cx.han X x) pins σ H s:=⟨YT I.ok,I.os,I.bare,I.base,I.loc,I.cell,I.free,I.freeC,I.pin,I.hok,I.len⟩
theorem vN{x:Addr}(ok:X.Ok)(I:Inv (Cx.han X x) pins σ H s):Inv X pins σ H s:=⟨ok,I.os,I.bare,I.base,I.loc,I.cell,I.free,I.freeC,I.pin,I.hok,I.len⟩
theorem j5{E:Value->Shared->Prop}{W:XW}{e:Value}(p:XP (X.wish E) W e s):XP X W e s:=by
 obtain⟨x,cls,d,σ,H,T,fl,a,I,b,c,r,r2,r3⟩:=p
 exact⟨x,cls,d,σ,H,T,fl,a,I.unwish,⟨b.free,b.loc,b.nfs,b.new,b.cel,b.pin⟩,λt ht=>let b:=c t ht;⟨b.free,b.loc,b.nfs,b.new,b.cel,b.pin⟩,r,r2,r3⟩
end
end NH
namespace NH
open PySem
inductive T where
 |non|bl (b:Bool)|int (i:Int)|str (x:Str)
 |tup (ts:List T)|lst (ts:List T)|obj (c:Nat) (fs:List (Nat×T))
 |mut (i:Nat)
 |exc (c:Nat) (fs:List (Nat×T))
 |dic (kvs:List (L2.Key×T))
 |clo (j:Nat) (cs:List T)
inductive MO where
 |lst (ts:List T)|obj (c:Nat) (fs:List (Nat×T))|dic (kvs:List (L2.Key×T))
 |tab (j:Nat)|dct (ks:List (Int×Int))
noncomputable abbrev Y3:MO->Bool
 |.tab _=>true
 |_=>false
noncomputable abbrev Mem:=List MO
noncomputable abbrev Sl:=List (Option T)
mutual
def wo:T->Bool
 |.mut _=>false
 |.tup ts=>kG ts
 |.lst ts=>kG ts
 |.obj _ fs=>jn fs
 |.exc _ fs=>jn fs
 |.dic kvs=>ZY kvs
 |.clo _ cs=>kG cs
 |_=>true
def kG:List T->Bool
 |[]=>true
 |t::r=>wo t&&kG r
def jn:List (Nat×T)->Bool
 |[]=>true
 |p::r=>wo p.2&&jn r
def ZY:List (L2.Key×T)->Bool
 |[]=>true
 |p::r=>wo p.2&&ZY r
end
noncomputable abbrev Xp:=Nat->List (Nat×T)->Mem->Prop
noncomputable abbrev RE(β:Type):=(β->Mem->Prop)->Xp->Prop
noncomputable abbrev RE.ok{β:Type}(a:β)(μ:Mem):RE β:=λK _=>K a μ
noncomputable abbrev RE.st{β:Type}:RE β:=λ_ _=>False
noncomputable abbrev RE.bind{β γ:Type}(r:RE γ)(k:γ->Mem->RE β):RE β:=λK Z=>r (λa μ=>k a μ K Z) Z
noncomputable abbrev RE.grd{β:Type}(p:Prop)(r:RE β):RE β:=λK Z=>p/\r K Z
noncomputable abbrev RE.som{β γ:Type}(o:Option γ)(k:γ->RE β):RE β:=λK Z=>∃a,o=some a/\k a K Z
@[reducible] noncomputable def brW(b:Bool)(A B:Prop):Prop:=match b with
 |true=>A
 |false=>B
noncomputable abbrev RE.br{β:Type}(b:Bool)(r s:RE β):RE β:=λK Z=>brW b (r K Z) (s K Z)
structure En where
 nx:Sl->Mem->Prop
 rt:T->Mem->Prop
 bk:Sl->Mem->Prop
 ct:Sl->Mem->Prop
 ex:Nat->List (Nat×T)->Sl->Mem->Prop
noncomputable abbrev Out:=En->Prop
noncomputable abbrev En.nxt(E:En)(f:Sl->Mem->Prop):En:=⟨f,E.rt,E.bk,E.ct,E.ex⟩
noncomputable abbrev En.turn(E:En)(N:Sl->Mem->Prop):En:=⟨N,E.rt,E.nx,N,E.ex⟩
noncomputable abbrev En.tri(E:En)(X:Nat->List (Nat×T)->Sl->Mem->Prop):En:=⟨E.nx,E.rt,E.bk,E.ct,X⟩
noncomputable abbrev En.fn(K:T->Mem->Prop)(Z:Xp):En:=⟨λ_ μ1=>K .non μ1,K,λ_ _=>False,λ_ _=>False,λc fs _ μ1=>Z c fs μ1⟩
noncomputable abbrev Out.nx(τ:Sl)(μ:Mem):Out:=λE=>E.nx τ μ
noncomputable abbrev Out.rt(t:T)(μ:Mem):Out:=λE=>E.rt t μ
noncomputable abbrev Out.ex(c:Nat)(fs:List (Nat×T))(τ:Sl)(μ:Mem):Out:=λE=>E.ex c fs τ μ
noncomputable abbrev Out.st:Out:=λ_=>False
noncomputable abbrev Out.grd(p:Prop)(o:Out):Out:=λE=>p/\o E
noncomputable abbrev Out.som{γ:Type}(o:Option γ)(k:γ->Out):Out:=λE=>∃a,o=some a/\k a E
noncomputable abbrev Out.br(b:Bool)(r s:Out):Out:=λE=>brW b (r E) (s E)
noncomputable abbrev Out.seq(o:Out)(f:Sl->Mem->Out):Out:=λE=>o (E.nxt λτ μ=>f τ μ E)
noncomputable abbrev RE.out{β:Type}(r:RE β)(τ:Sl)(f:β->Mem->Out):Out:=λE=>r (λa μ=>f a μ E) (λc fs μ=>E.ex c fs τ μ)
noncomputable abbrev Fn:=List T->Mem->RE T
noncomputable abbrev De:=Sl->Mem->RE T
noncomputable abbrev Dt:=Sl->Mem->RE Bool
noncomputable abbrev Da:=Sl->Mem->RE (List T)
noncomputable abbrev Ds:=Sl->Mem->Out
noncomputable abbrev RI:=(List T->(Mem->Prop)->Mem->Prop)->Xp->Prop
noncomputable abbrev RI.ok(xs:List T)(o:Mem->Prop)(μ:Mem):RI:=λK _=>K xs o μ
noncomputable abbrev RI.st:RI:=λ_ _=>False
noncomputable abbrev RI.grd(p:Prop)(r:RI):RI:=λK Z=>p/\r K Z
noncomputable abbrev RI.go{β:Type}(r:RI)(k:List T->(Mem->Prop)->Mem->RE β):RE β:=λK Z=>r (λxs o μ=>k xs o μ K Z) Z
noncomputable abbrev RI.out(r:RI)(τ:Sl)(f:List T->(Mem->Prop)->Mem->Out):Out:=λE=>r (λxs o μ=>f xs o μ E) (λc fs μ=>E.ex c fs τ μ)
noncomputable abbrev RI.re(r:RI):RE (List T×(Mem->Prop)):=λK Z=>r (λxs o μ=>K (xs,o) μ) Z
noncomputable abbrev RE.it{β:Type}(r:RE β)(k:β->Mem->RI):RI:=λK Z=>r (λa μ=>k a μ K Z) Z
noncomputable abbrev Di:=Sl->Mem->RI
abbrev lvT:Mem->Prop:=λ_=>True
abbrev lvM(i:Nat)(xs:List T):Mem->Prop:=λμ=>μ[i]?=some (.lst xs)
structure LamD where
 jt:Nat
 qn:Str
 y:Str
 body:Expr
 sc:Scope
 fr:List Str
 g:De
noncomputable abbrev z1G(j jt:Nat)(ts:List T):T:=.clo (300+j) (.clo (100+jt) []::ts.map λt=>.clo 200 [t])
inductive GM where
 |fn (f:Fn)
 |fnh (nm:Str) (f:Fn)
 |met (c:Nat) (nm:Str) (f:Fn)
 |mk (c:Nat) (frozen:Bool) (f:Fn)
 |cst (t:T)
 |xcl (c:Nat)
 |xcf (c:Nat) (f:Nat)
 |xin (c f:Nat) (nm fl:Str)
 |mkd (c:Nat) (nm:Str) (n:Nat) (f:Fn)
 |metd (c:Nat) (nm:Str) (n:Nat) (d:T) (f:Fn)
 |kpr
 |kap (ls:List LamD)
 |none
 |bad
noncomputable abbrev QF(τ:Sl):Nat->Option T:=List.rec (motive:=λ_=>Nat->Option T) (λ_=>none) (λo _ ih i=>Nat.rec (motive:=λ_=>Option T) o (λn _=>ih n) i) τ
noncomputable abbrev w_(τ:Sl):Nat->Option T->Sl:=List.rec (motive:=λ_=>Nat->Option T->Sl) (λ_ _=>[]) (λo r ih i t=>Nat.rec (motive:=λ_=>Sl) (t::r) (λn _=>o::ih n t) i) τ
theorem ZV:∀{τ:Sl} {i:Nat} {t:T},QF τ i=some t↔τ[i]?=some (some t)
 |[],_,_=>by simp
 |o::r,0,t=>by show o=some t↔_;simp
 |o::r,n+1,t=>by
  show QF r n=some t↔_
  rw[ZV (τ:=r) (i:=n)];simp
theorem jB:∀{τ:Sl} {i:Nat} {t:Option T},w_ τ i t=τ.set i t
 |[],_,_=>by simp
 |o::r,0,t=>rfl
 |o::r,n+1,t=>by
  show o::w_ r n t=_
  rw[jB (τ:=r) (i:=n)];simp
noncomputable abbrev Zs(fs:List (Nat×T)):Nat->Option T:=List.rec (motive:=λ_=>Nat->Option T) (λ_=>none) (λp _ ih i=>Bool.rec (motive:=λ_=>Option T) (ih i) (some p.2) (Nat.beq p.1 i)) fs
noncomputable abbrev W5(f:Nat)(v:T)(fs:List (Nat×T)):List (Nat×T):=List.rec (motive:=λ_=>List (Nat×T)) [(f,v)] (λp r ih=>Bool.rec (motive:=λ_=>List (Nat×T)) (p::ih) ((p.1,v)::r) (Nat.beq p.1 f)) fs
theorem QR{p:Nat×T}{r:List (Nat×T)}{i:Nat}:Zs (p::r) i=match Nat.beq p.1 i with
  |true=>some p.2
  |false=>Zs r i:=by
 show (Bool.rec (Zs r i) (some p.2) (Nat.beq p.1 i):Option T)=_
 cases Nat.beq p.1 i<;>rfl
theorem QA{f:Nat}{v:T}{p:Nat×T}{r:List (Nat×T)}:W5 f v (p::r)=match Nat.beq p.1 f with
  |true=>(p.1,v)::r
  |false=>p::W5 f v r:=by
 show (Bool.rec (p::W5 f v r) ((p.1,v)::r) (Nat.beq p.1 f):List (Nat×T))=_
 cases Nat.beq p.1 f<;>rfl
noncomputable def idx:List Str->Str->Option Nat
 |[],_=>none
 |y::r,x=>if y=x then some 0 else (idx r x).map (·+1)
noncomputable abbrev tyN:T->Mem->Option Nat
 |.non,_=>some 0
 |.bl _,_=>some 1
 |.int _,_=>some 2
 |.str _,_=>some 3
 |.tup _,_=>some 4
 |.lst _,_=>some 5
 |.dic _,_=>some 6
 |.exc c _,_=>some c
 |.obj c _,_=>some c
 |_,_=>none
noncomputable abbrev tyO:MO->Nat
 |.lst _=>5
 |.obj c _=>c
 |.dic _=>6
 |.tab _=>99
 |.dct _=>6
noncomputable abbrev KH(a b:Bool):Bool:=match a with
 |true=>b
 |false=>false
noncomputable abbrev bOr(a b:Bool):Bool:=match a with
 |true=>true
 |false=>b
noncomputable abbrev wj(a c:Nat):Bool:=bOr (Nat.beq a c) (bOr (KH (Nat.beq a 1) (Nat.beq c 2)) (KH (Nat.ble 10 a) (KH (Nat.ble a 39) (bOr (Nat.beq c 11) (KH (Nat.beq c 10) (Nat.ble 12 a))))))
noncomputable abbrev isAny(t:Nat)(cs:List Nat):Bool:=List.rec (motive:=λ_=>Bool) false (λc _ ih=>bOr (wj t c) ih) cs
theorem ke{t c:Nat}{r:List Nat}:isAny t (c::r)=bOr (wj t c) (isAny t r):=rfl
noncomputable def big:Int:=18446744073709551616
noncomputable def room:Nat:=1000000
noncomputable abbrev Uh:T->T->Mem->RE T
 |.int i,.int j,μ=>.ok (.int (i+j)) μ
 |.str x,.str y,μ=>.grd (x.length+y.length<=room) (.ok (.str (x++y)) μ)
 |.lst xs,.lst ys,μ=>.grd (xs.length+ys.length<=room) (.ok (.lst (xs++ys)) μ)
 |.tup xs,.tup ys,μ=>.grd (xs.length+ys.length<=room) (.ok (.tup (xs++ys)) μ)
 |.mut i,.lst ys,μ=>λK _=>∃xs,μ[i]?=some (.lst xs)/\xs.length+ys.length<=room/\K (.lst (xs++ys)) μ
 |.lst xs,.mut j,μ=>λK _=>∃ys,μ[j]?=some (.lst ys)/\xs.length+ys.length<=room/\K (.lst (xs++ys)) μ
 |.mut i,.mut j,μ=>λK _=>∃p:List T×List T,(μ[i]?=some (.lst p.1)/\μ[j]?=some (.lst p.2))/\p.1.length+p.2.length<=room/\K (.lst (p.1++p.2)) μ
 |_,_,_=>.st
noncomputable abbrev yx(f:Int->Int->Mem->RE T):T->T->Mem->RE T
 |.int i,.int j,μ=>f i j μ
 |_,_,_=>.st
noncomputable abbrev z0R:Operator->T->T->Mem->RE T
 |.Add=>Uh
 |.Sub=>yx λi j μ=>.ok (.int (i-j)) μ
 |.Mult=>yx λi j μ=>.grd ((-big<i/\i<big)\/(-big<j/\j<big)) (.ok (.int (i * j)) μ)
 |.FloorDiv=>yx λi j μ=>.grd (0<j/\j<1606938044258990275541962092341162602522202993782792835301376) (.ok (.int (i / j)) μ)
 |.Mod=>yx λi j μ=>.grd (0<j) (.ok (.int (i % j)) μ)
 |.Pow=>yx λi j μ=>.grd (0<=j/\j<=1000000/\i.natAbs<18446744073709551616) (.ok (.int (i ^ j.toNat)) μ)
 |.RShift=>yx λi j μ=>.grd (0<=j) (.ok (.int (i / 2 ^ j.toNat)) μ)
 |.BitAnd=>yx λi j μ=>.ok (.int (Builtin.bitAnd i j)) μ
 |_=>λ_ _ _=>.st
mutual
def eqT:T->T->Option Bool
 |.int i,b=>match b with
  |.int j=>some (i == j)
  |.bl k=>some (i == (if k then 1 else 0))
  |.str _=>some false
  |.non=>some false
  |.tup _=>some false
  |.lst _=>some false
  |_=>none
 |.bl k,b=>match b with
  |.int j=>some ((if k then 1 else 0) == j)
  |.bl j=>some (k == j)
  |.str _=>some false
  |.non=>some false
  |.tup _=>some false
  |.lst _=>some false
  |_=>none
 |.str x,b=>match b with
  |.str y=>some (x == y)
  |.int _=>some false
  |.bl _=>some false
  |.non=>some false
  |.tup _=>some false
  |.lst _=>some false
  |_=>none
 |.non,b=>match b with
  |.non=>some true
  |.int _=>some false
  |.bl _=>some false
  |.str _=>some false
  |.tup _=>some false
  |.lst _=>some false
  |_=>none
 |.tup xs,b=>match b with
  |.tup ys=>eqL xs ys
  |.non=>some false
  |.int _=>some false
  |.bl _=>some false
  |.str _=>some false
  |.lst _=>some false
  |_=>none
 |.lst xs,b=>match b with
  |.lst ys=>eqL xs ys
  |.non=>some false
  |.int _=>some false
  |.bl _=>some false
  |.str _=>some false
  |.tup _=>some false
  |_=>none
 |_,_=>none
def eqL:List T->List T->Option Bool
 |[],[]=>some true
 |[],_::_=>some false
 |_::_,[]=>some false
 |x::xs,y::ys=>match eqT x y,eqL xs ys with
  |some a,some b=>some (a&&b)
  |_,_=>none
end
mutual
def wx:T->Nat
 |.tup ts=>zV ts+1
 |.lst ts=>zV ts+1
 |_=>0
def zV:List T->Nat
 |[]=>0
 |t::r=>max (wx t) (zV r)
end
noncomputable abbrev scT:T->T->Option Bool
 |.non,.non=>some true
 |.non,.int _=>some false|.int _,.non=>some false|.non,.bl _=>some false|.bl _,.non=>some false|.non,.str _=>some false|.str _,.non=>some false
 |.int i,.int j=>some (decide (i=j))|.bl i,.bl j=>some (decide (i=j))|.str i,.str j=>some (decide (i=j))
 |.int _,.str _=>some false|.str _,.int _=>some false|.bl _,.str _=>some false|.str _,.bl _=>some false
 |_,_=>none
noncomputable abbrev eqW(x y:T)(μ:Mem)(k:Bool->RE T):RE T:=match x,y with
 |.tup xs,.tup ys=>.grd (zV xs<=40) (.som (eqL xs ys) k)
 |.lst xs,.lst ys=>.grd (zV xs<=40) (.som (eqL xs ys) k)
 |.mut i,.lst ys=>λK Z=>∃xs,μ[i]?=some (.lst xs)/\RE.grd (zV xs<=40) (.som (eqL xs ys) k) K Z
 |.lst xs,.mut j=>λK Z=>∃ys,μ[j]?=some (.lst ys)/\RE.grd (zV xs<=40) (.som (eqL xs ys) k) K Z
 |.mut i,.mut j=>λK Z=>∃p:List T×List T,(μ[i]?=some (.lst p.1)/\μ[j]?=some (.lst p.2))/\RE.grd (zV p.1<=40) (.som (eqL p.1 p.2) k) K Z
 |x,y=>match scT x y with
  |some b=>k b
  |none=>.st
noncomputable def intsOf:List T->Option (List Int)
 |[]=>some []
 |.int i::r=>(intsOf r).map (i::·)
 |_::_=>none
noncomputable abbrev ltW(x y:T)(k:Bool->RE T):RE T:=match x,y with
 |.int i,.int j=>k (decide (i<j))
 |.tup xs,.tup ys=>.som (intsOf xs) λns=>.som (intsOf ys) λms=>k (HT.lexLt ns ms)
 |.str a,.str b=>k (decide (a.cps.toList<b.cps.toList))
 |_,_=>.st
noncomputable abbrev xm(op:CmpOp)(x y:T)(μ:Mem):RE T:=
 match op with
 |.Eq=>eqW x y μ λb=>.ok (.bl b) μ
 |.NotEq=>eqW x y μ λb=>.ok (.bl (!b)) μ
 |.Lt=>ltW x y λb=>.ok (.bl b) μ
 |.LtE=>match x,y with|.int i,.int j=>.ok (.bl (decide (i<=j))) μ|_,_=>.st
 |.Gt=>match x,y with|.int i,.int j=>.ok (.bl (decide (j<i))) μ|_,_=>.st
 |.GtE=>match x,y with|.int i,.int j=>.ok (.bl (decide (j<=i))) μ|_,_=>.st
 |.Is=>(match y with
  |.non=>.ok (.bl (match x with|.non=>true|_=>false)) μ
  |.bl b=>(match x with|.bl a=>.ok (.bl (decide (a=b))) μ|_=>.st)
  |_=>.st)
 |.IsNot=>(match y with
  |.non=>.ok (.bl (match x with|.non=>false|_=>true)) μ
  |.bl b=>(match x with|.bl a=>.ok (.bl (!decide (a=b))) μ|_=>.st)
  |_=>.st)
 |.In=>(match x,y with|.str i,.str j=>.ok (.bl (!(Builtin.Str.occurrences j i 0 j.length 1).isEmpty)) μ|_,_=>.st)
 |.NotIn=>(match x,y with|.str i,.str j=>.ok (.bl (!(!(Builtin.Str.occurrences j i 0 j.length 1).isEmpty))) μ|_,_=>.st)
noncomputable abbrev kj:T->Mem->RE Bool
 |.bl b,μ=>.ok b μ
 |_,_=>.st
noncomputable abbrev eC(t:T):De:=λ_ μ=>.ok t μ
noncomputable abbrev eV(i:Nat):De:=λτ μ=>match QF τ i with
 |some t=>.ok t μ
 |none=>.st
noncomputable abbrev zb(op:Operator)(f g:De):De:=λτ μ=>(f τ μ).bind λx μ1=>(g τ μ1).bind λy μ2=>z0R op x y μ2
noncomputable abbrev z0v(f:De):De:=λτ μ=>(f τ μ).bind λx μ1=>match x with|.int i=>.ok (.int (-i)) μ1|_=>.st
noncomputable abbrev Xf(f:De):De:=λτ μ=>(f τ μ).bind λx μ1=>match x with|.bl b=>.ok (.bl (!b)) μ1|_=>.st
noncomputable abbrev VN(f g:De):De:=λτ μ=>(f τ μ).bind λx μ1=>match x with|.bl b=>.br b (g τ μ1) (.ok (.bl false) μ1)|_=>.st
noncomputable abbrev eOr(f g:De):De:=λτ μ=>(f τ μ).bind λx μ1=>match x with|.bl b=>.br b (.ok (.bl true) μ1) (g τ μ1)|_=>.st
noncomputable abbrev zB(op:CmpOp)(f g:De):De:=λτ μ=>(f τ μ).bind λx μ1=>(g τ μ1).bind λy μ2=>xm op x y μ2
noncomputable abbrev chS(op:CmpOp)(last:Bool)(ih:T->Sl->Mem->RE T)(x y:T)(τ:Sl)(μ1:Mem):RE T:=match last with
 |true=>xm op x y μ1
 |false=>(xm op x y μ1).bind λk μ2=>match k with
  |.bl b=>.br b (ih y τ μ2) (.ok (.bl false) μ2)
  |_=>.st
noncomputable abbrev Wo(ps:List (CmpOp×De)):T->Sl->Mem->RE T:=List.rec (motive:=λ_=>T->Sl->Mem->RE T) (λ_ _ _=>.st) (λp r ih x τ μ=>(p.2 τ μ).bind λy μ1=>chS p.1 r.isEmpty ih x y τ μ1) ps
noncomputable abbrev eCh(f:De)(ps:List (CmpOp×De)):De:=λτ μ=>(f τ μ).bind λx μ1=>Wo ps x τ μ1
noncomputable abbrev tE(f:De):Dt:=λτ μ=>(f τ μ).bind kj
noncomputable abbrev vo(f g:Dt):Dt:=λτ μ=>(f τ μ).bind λb μ1=>.br b (g τ μ1) (.ok false μ1)
noncomputable abbrev tOr(f g:Dt):Dt:=λτ μ=>(f τ μ).bind λb μ1=>.br b (.ok true μ1) (g τ μ1)
noncomputable abbrev wY(f:Dt):Dt:=λτ μ=>(f τ μ).bind λb μ1=>.ok (!b) μ1
noncomputable abbrev ZG(t:T)(f:Nat)(μ:Mem):RE T:=match t with
 |.obj _ fs=>(match Zs fs f with|some v=>.ok v μ|none=>.st)
 |.mut i=>λK _=>∃c fs v,μ[i]?=some (.obj c fs)/\Zs fs f=some v/\K v μ
 |_=>.st
noncomputable abbrev zC(f:De)(n:Nat):De:=λτ μ=>(f τ μ).bind λt μ1=>ZG t n μ1
noncomputable def KR(n:Nat)(i:Int):Option Nat:=if 0<=i then (if i<n then some i.toNat else none) else if -(n:Int)<=i then some (i+n).toNat else none
noncomputable def j7 {α:Type}(xs:List α)(i:Int):Option α:=(KR xs.length i).bind λj=>xs[j]?
noncomputable abbrev XN(t i:T)(μ:Mem):RE T:=match i with
 |.int k=>(match t with
  |.lst ts=>.som (j7 ts k) λv=>.ok v μ
  |.tup ts=>.som (j7 ts k) λv=>.ok v μ
  |.mut j=>λK _=>∃ts v,μ[j]?=some (.lst ts)/\j7 ts k=some v/\K v μ
  |.str z=>.grd (z.length<=room) (.som (j7 z.cps.toList k) λc=>.ok (.str ⟨#[c]⟩) μ)
  |_=>.st)
 |_=>.st
noncomputable abbrev eIx(f g:De):De:=λτ μ=>(f τ μ).bind λx μ1=>(g τ μ1).bind λy μ2=>XN x y μ2
noncomputable def Vs(n d:Nat):Option Int->Nat
 |none=>d
 |some v=>if v<0 then (v+(n:Int)).toNat else min v.toNat n
noncomputable def xt {α:Type}(xs:List α)(lo hi:Option Int):List α:=(xs.drop (Vs xs.length 0 lo)).take (Vs xs.length xs.length hi-Vs xs.length 0 lo)
noncomputable abbrev Dp:=Sl->Mem->RE (Option Int)
noncomputable abbrev pN:Dp:=λ_ μ=>.ok none μ
noncomputable abbrev pS(f:De):Dp:=λτ μ=>(f τ μ).bind λt μ1=>match t with|.int i=>.ok (some i) μ1|_=>.st
noncomputable abbrev z0u(x:T)(l h:Option Int)(μ:Mem):RE T:=match x with
 |.lst xs=>.ok (.lst (xt xs l h)) μ
 |.tup xs=>.ok (.tup (xt xs l h)) μ
 |.str z=>.grd (z.length<=room) (.ok (.str (Txt.slice z l h)) μ)
 |.mut i=>λK _=>∃ts,μ[i]?=some (.lst ts)/\K (.lst (xt ts l h)) μ
 |_=>.st
noncomputable abbrev eSl(f:De)(lo hi:Dp):De:=λτ μ=>(f τ μ).bind λx μ1=>(lo τ μ1).bind λl μ2=>(hi τ μ2).bind λh μ3=>z0u x l h μ3
noncomputable abbrev evs(fs:List De):Da:=List.rec (motive:=λ_=>Da) (λ_ μ=>.ok [] μ) (λf _ ih τ μ=>(f τ μ).bind λt μ1=>(ih τ μ1).bind λts μ2=>.ok (t::ts) μ2) fs
noncomputable abbrev js(fs:List De):De:=λτ μ=>(evs fs τ μ).bind λts μ1=>.ok (.lst ts) μ1
noncomputable abbrev wq(fs:List De):De:=λτ μ=>(evs fs τ μ).bind λts μ1=>.ok (.tup ts) μ1
noncomputable abbrev JW(fs:List De):De:=λτ μ=>(evs fs τ μ).bind λts μ1=>.ok (.mut μ1.length) (μ1++[.lst ts])
noncomputable abbrev z9(g:Fn)(fs:List De):De:=λτ μ=>(evs fs τ μ).bind g
noncomputable abbrev uw(c:Nat)(g:Fn)(ts:List T)(μ:Mem):RE T:=λK Z=>
 kG ts=true/\g (.mut 0::ts) [.obj c []] (λr μ1=>r=.non/\∃fs,μ1[0]?=some (.obj c fs)/\jn fs=true/\K (.obj c fs) μ) (λk fs _=>jn fs=true/\Z k fs μ)
noncomputable abbrev eMk(c:Nat)(g:Fn)(fs:List De):De:=λτ μ=>(evs fs τ μ).bind (uw c g)
noncomputable abbrev WN(cs:List Nat)(x:T)(μ:Mem):RE T:=match x with
 |.mut i=>.som μ[i]? λo=>.br (Y3 o) .st (.ok (.bl (isAny (tyO o) cs)) μ)
 |x=>match tyN x μ with
  |some t=>.ok (.bl (isAny t cs)) μ
  |none=>.st
noncomputable abbrev W7(cs:List Nat)(f:De):De:=λτ μ=>(f τ μ).bind (WN cs)
noncomputable abbrev eB1(op:T->Mem->RE T)(f:De):De:=λτ μ=>(f τ μ).bind op
noncomputable abbrev yE(t:T)(μ:Mem):RE T:=match t with
 |.lst xs=>.ok (.int xs.length) μ
 |.tup xs=>.ok (.int xs.length) μ
 |.str s=>.grd (s.length<=room) (.ok (.int s.length) μ)
 |.mut i=>λK _=>∃xs,μ[i]?=some (.lst xs)/\K (.int xs.length) μ
 |_=>.st
noncomputable abbrev W3(t:T)(μ:Mem):RE T:=match t with
 |.int i=>.ok (.int i) μ
 |.bl b=>.ok (.int (if b then 1 else 0)) μ
 |_=>.st
noncomputable def bools:List T->Option (List Bool)
 |[]=>some []
 |.bl b::r=>(bools r).map (b::·)
 |_::_=>none
noncomputable abbrev KC(t:T)(μ:Mem):RE T:=match t with
 |.lst xs=>.som (bools xs) λbs=>.ok (.bl (bs.all id)) μ
 |_=>.st
noncomputable abbrev QS(o f:De):De:=λτ μ=>(o τ μ).bind λot μ1=>match ot with
 |.mut i=>λK Z=>(∃ts,μ1[i]?=some (.lst ts))/\f τ μ1 (λt μ2=>∃ts,μ2[i]?=some (.lst ts)/\ts.length<room/\K .non (μ2.set i (.lst (ts++[t])))) Z
 |_=>.st
noncomputable abbrev kM(z:Str):List T:=z.cps.toList.map λc=>T.str ⟨#[c]⟩
noncomputable abbrev z0i(t:T)(μ:Mem):RI:=match t with
 |.lst xs=>.ok xs lvT μ
 |.tup xs=>.ok xs lvT μ
 |.str z=>.ok (kM z) lvT μ
 |.mut i=>λK _=>∃xs,μ[i]?=some (.lst xs)/\K xs (lvM i xs) μ
 |_=>.st
noncomputable abbrev iE(f:De):Di:=λτ μ=>(f τ μ).it z0i
noncomputable def rangeT(n:Int):List T:=(List.range n.toNat).map λ(i:Nat)=>T.int i
noncomputable def zU(a b c:Int):List T:=(List.range (if a<b then (b-a-1) / c+1 else 0:Int).toNat).map λ(i:Nat)=>T.int (a+i * c)
noncomputable abbrev inL(a:Int):Prop := -1606938044258990275541962092341162602522202993782792835301376<=a/\a<1606938044258990275541962092341162602522202993782792835301376
noncomputable abbrev WR(f:De):Di:=λτ μ=>(f τ μ).it λt μ1=>match t with
 |.int n=>.grd (inL n) (.ok (rangeT n) lvT μ1)
 |_=>.st
noncomputable abbrev Ve(x y z:T)(μ:Mem):RI:=match x,y,z with
 |.int a,.int b,.int c=>.grd (inL a/\inL b/\0<c/\c<1073741824) (.ok (zU a b c) lvT μ)
 |_,_,_=>.st
noncomputable abbrev XT(f g h:De):Di:=λτ μ=>(f τ μ).it λx μ1=>(g τ μ1).it λy μ2=>(h τ μ2).it λz μ3=>Ve x y z μ3
noncomputable abbrev kW(f g:De):Di:=λτ μ=>(f τ μ).it λx μ1=>(g τ μ1).it λy μ2=>match x,y with
 |.int a,.int b=>.grd (inL a/\inL b) (.ok (zU a b 1) lvT μ2)
 |_,_=>.st
inductive Tg where
 |one (i:Nat)|tup (is:List Nat)
noncomputable abbrev uL(is:List Nat):List T->Sl->Option Sl:=List.rec (motive:=λ_=>List T->Sl->Option Sl) (λts τ=>List.rec (motive:=λ_=>Option Sl) (some τ) (λ_ _ _=>none) ts) (λi _ ih ts τ=>List.rec (motive:=λ_=>Option Sl) none (λt ts' _=>ih ts' (w_ τ i (some t))) ts) is
noncomputable abbrev asg:Tg->T->Sl->Option Sl
 |.one i,t,τ=>some (w_ τ i (some t))
 |.tup is,.tup ts,τ=>uL is ts τ
 |_,_,_=>none
noncomputable def zy(tg:Tg)(g:Sl->Mem->RE (Option T))(lv:Mem->Prop)(τ:Sl):List T->Mem->RE (List T)
 |[],μ=>.ok [] μ
 |x::r,μ=>.som (asg tg x τ) λτ'=>(g τ' μ).bind λo μ1=>.grd (lv μ1) (match o with
  |some y=>(zy tg g lv τ r μ1).bind λys μ2=>.ok (y::ys) μ2
  |none=>zy tg g lv τ r μ1)
noncomputable abbrev jr(cs:List Dt)(f:De):Sl->Mem->RE (Option T):=List.rec (motive:=λ_=>Sl->Mem->RE (Option T)) (λτ μ=>(f τ μ).bind λy μ1=>.ok (some y) μ1) (λc _ ih τ μ=>(c τ μ).bind λb μ1=>.br b (ih τ μ1) (.ok none μ1)) cs
noncomputable abbrev Z4(is:List Nat)(τ:Sl):Sl:=List.rec (motive:=λ_=>Sl) [] (λi _ ih=>QF τ i::ih) is
noncomputable abbrev blk(n:Nat)(fs:List Nat)(τ:Sl):Sl:=Nat.rec (motive:=λ_=>Sl) (Z4 fs τ) (λ_ ih=>none::ih) n
noncomputable abbrev qw(n:Nat)(fs:List Nat)(tg:Tg)(it:Di)(cs:List Dt)(f:De):De:=λτ μ=>(it τ μ).go λxs o μ1=>.grd (xs.length<=room) ((zy tg (jr cs f) o (blk n fs τ) xs μ1).bind λys μ2=>.ok (.lst ys) μ2)
noncomputable abbrev v_(n:Nat)(fs:List Nat)(tg:Tg)(it:Di)(cs:List Dt)(f:De):De:=λτ μ=>(it τ μ).go λxs o μ1=>.grd (xs.length<=room) ((zy tg (jr cs f) o (blk n fs τ) xs μ1).bind λys μ2=>.ok (.mut μ2.length) (μ2++[.lst ys]))
noncomputable abbrev zz(f:De):Ds:=λτ μ=>(f τ μ).out τ λt μ1=>.rt t μ1
noncomputable abbrev XE:Ds:=λ_ μ=>.rt .non μ
noncomputable abbrev qd(f:De):Ds:=λτ μ=>(f τ μ).out τ λ_ μ1=>.nx τ μ1
noncomputable abbrev zT(ss:List Ds):Ds:=List.rec (motive:=λ_=>Ds) (λτ μ=>.nx τ μ) (λs _ ih τ μ=>(s τ μ).seq ih) ss
noncomputable abbrev sIf(c:Dt)(a b:List Ds):Ds:=λτ μ=>(c τ μ).out τ λk μ1=>.br k (zT a τ μ1) (zT b τ μ1)
noncomputable abbrev zo(i:Nat)(f:De):Ds:=λτ μ=>(f τ μ).out τ λt μ1=>.nx (w_ τ i (some t)) μ1
noncomputable abbrev UX(is:List Nat)(f:De):Ds:=λτ μ=>(f τ μ).out τ λt μ1=>.som (asg (.tup is) t τ) λτ'=>.nx τ' μ1
noncomputable abbrev wZ(o:De)(n:Nat)(f:De):Ds:=λτ μ=>(f τ μ).out τ λt μ1=>(o τ μ1).out τ λot μ2=>match ot with
 |.mut i=>λE=>∃c fs,μ2[i]?=some (.obj c fs)/\fs.length<900/\E.nx τ (μ2.set i (.obj c (W5 n t fs)))
 |_=>.st
noncomputable abbrev z15(o b f:De):Ds:=λτ μ=>(f τ μ).out τ λt μ1=>(o τ μ1).out τ λot μ2=>(b τ μ2).out τ λit μ3=>match ot,it with
 |.mut i,.int k=>λE=>∃ts,μ3[i]?=some (.lst ts)/\(0<=k/\k<ts.length/\k<9223372036854775808)/\E.nx τ (μ3.set i (.lst (ts.set k.toNat t)))
 |_,_=>.st
noncomputable def forM(tg:Tg)(body:Ds)(lv:Mem->Prop):List T->Ds
 |[],τ,μ=>.nx τ μ
 |x::r,τ,μ=>.som (asg tg x τ) λτ'=>λE=>body τ' μ (E.turn λτ2 μ2=>lv μ2/\forM tg body lv r τ2 μ2 E)
noncomputable abbrev yl(tg:Tg)(it:Di)(body:List Ds):Ds:=λτ μ=>(it τ μ).out τ λxs o μ1=>forM tg (zT body) o xs τ μ1
noncomputable def ko(c:Dt)(body:List Ds):Ds:=λτ μ E=>∃I:Nat->Sl->Mem->Prop,(∃n,I n τ μ)/\∀n τ μ,I n τ μ->
 c τ μ (λb μ1=>brW b (zT body τ μ1 (E.turn λτ2 μ2=>∃m,m<n/\I m τ2 μ2)) (E.nx τ μ1)) (λk fs μ1=>E.ex k fs τ μ1)
noncomputable abbrev qp(c:Nat)(fs:List De):Ds:=λτ μ=>(evs fs τ μ).out τ λts μ1=>.grd (ts.length<=room) (.ex c [] τ μ1)
noncomputable abbrev z0C(i:Option Nat)(v:List Ds)(k:Nat)(fs:List (Nat×T))(τ:Sl)(μ:Mem):Out:=λE=>match i with
 |some j=>zT v (w_ τ j (some (.exc k fs))) μ {nx:=λτ2 μ2=>E.nx (w_ τ2 j none) μ2,rt:=E.rt,bk:=λ_ _=>False,ct:=λ_ _=>False,ex:=λ_ _ _ _=>False}
 |none=>zT v τ μ {nx:=E.nx,rt:=E.rt,bk:=λ_ _=>False,ct:=λ_ _=>False,ex:=λ_ _ _ _=>False}
noncomputable abbrev JO(hs:List (List Nat×Option Nat×List Ds)):Nat->List (Nat×T)->Sl->Mem->Out:=List.rec (motive:=λ_=>Nat->List (Nat×T)->Sl->Mem->Out) (λk fs τ μ=>.ex k fs τ μ) (λp _ ih k fs τ μ=>.br (isAny k p.1) (z0C p.2.1 p.2.2 k fs τ μ) (ih k fs τ μ)) hs
noncomputable abbrev z0k(b:List Ds)(hs:List (List Nat×Option Nat×List Ds)):Ds:=λτ μ E=>zT b τ μ (E.tri λk fs τ1 μ1=>JO hs k fs τ1 μ1 E)
noncomputable abbrev pad(n:Nat):Sl:=Nat.rec (motive:=λ_=>Sl) [] (λ_ ih=>none::ih) n
noncomputable abbrev X4(ts:List T)(n:Nat):Sl:=List.rec (motive:=λ_=>Sl) (pad n) (λt _ ih=>some t::ih) ts
noncomputable abbrev fnW(n m:Nat)(body:List Ds):Fn:=λts μ K Z=>ts.length=n/\zT body (X4 ts m) μ (En.fn K Z)
end NH
namespace NH
open PySem PySem.Spec PyProof.Rows L2
section
structure DP where
 K:PySem.W.Frag
 adr:Nat->Option Addr
 cad:Nat->Option Addr
 fn:Nat->Option Str
 inj:∀i j x,fn i=some x->fn j=some x->i=j
 clo:Nat->Addr->Option HO->List V->Prop
 tabs:Nat->Option (Addr×List Pos×Str)
noncomputable def XcAt (a C:Addr)(d:Option Addr):Heap->Prop:=λh=>∃oe vs,h.get? a=some oe/\oe.cls=.ref C/\oe.data=.fields vs/\oe.dict=d
noncomputable def Vx(x:Int×Int):Int:=reduceHash (Builtin.Tuple.tupleHashOf [hashInt x.1,hashInt x.2])
noncomputable def qE(a:Addr)(xs:List ((Int×Int)×Addr)):Heap->Prop:=λh=>∃o es ep,h.get? a=some o/\o.ExactDict/\o.data=.dict es ep/\es.toList=xs.map λx=>(⟨Vx x.1,.ref x.2,.bool true⟩:DictEntry)
noncomputable def qY(c:Addr)(qn:Str):Heap->Prop:=λh=>h.CodeRec (.ref c) qn
mutual
def Den (D:DP)(φ α:List Addr)(H:Hp):T->V->Prop
 |.non,v=>v=.non
 |.bl b,v=>v=.bl b
 |.int i,v=>v=.int i
 |.str x,v=>v=.str x
 |.mut i,v=>∃a,α[i]?=some a/\v=.ref a
 |.tup ts,v=>∃a xs,v=.ref a/\a∉φ/\a∉α/\Rd H a (.tup xs)/\DenL D φ α H ts xs
 |.lst ts,v=>∃a xs,v=.ref a/\a∉φ/\a∉α/\Rd H a (.lst xs)/\DenL D φ α H ts xs
 |.obj c fs,v=>∃a C dx gs,v=.ref a/\a∉φ/\a∉α/\D.cad c=some C/\H a=some (.ins C dx gs)/\DenF D φ α H fs gs
 |.exc c fs,v=>∃a C d,v=.ref a/\a∉φ/\a∉α/\D.adr c=some C/\H a=some (.ext (XcAt a C d))/\(match d with
  |none=>fs=[]
  |some dx=>∃gs,dx∉φ/\dx∉α/\H dx=some (.xd gs)/\DenF D φ α H fs gs)
 |.dic kvs,v=>∃a gs,v=.ref a/\a∉φ/\a∉α/\H a=some (.dK gs)/\DenK D φ α H kvs gs
 |.clo j cs,v=>∃a ob xs,v=.ref a/\D.clo j a ob xs/\(∀o,ob=some o->a∉φ/\a∉α/\H a=some o)/\DenL D φ α H cs xs
def DenL (D:DP)(φ α:List Addr)(H:Hp):List T->List V->Prop
 |[],vs=>vs=[]
 |t::ts,vs=>∃v r,vs=v::r/\Den D φ α H t v/\DenL D φ α H ts r
def DenF (D:DP)(φ α:List Addr)(H:Hp):List (Nat×T)->List (Str×V)->Prop
 |[],gs=>gs=[]
 |p::fs,gs=>∃x v r,D.fn p.1=some x/\gs=(x,v)::r/\Den D φ α H p.2 v/\DenF D φ α H fs r
def DenK (D:DP)(φ α:List Addr)(H:Hp):List (Key×T)->List (Key×V)->Prop
 |[],gs=>gs=[]
 |p::fs,gs=>∃v r,gs=(p.1,v)::r/\Den D φ α H p.2 v/\DenK D φ α H fs r
end
noncomputable def XDict(D:DP)(φ α:List Addr)(H:Hp)(fs:List (Nat×T)):Option Addr->Prop
 |none=>fs=[]
 |some dx=>∃gs,dx∉φ/\dx∉α/\H dx=some (.xd gs)/\DenF D φ α H fs gs
noncomputable def DenO (D:DP)(φ α:List Addr)(H:Hp):MO->Addr->Prop
 |.lst ts,a=>∃xs,H a=some (.lst xs)/\DenL D φ α H ts xs
 |.obj c fs,a=>∃C dx gs,D.cad c=some C/\H a=some (.ins C dx gs)/\DenF D φ α H fs gs
 |.dic kvs,a=>∃gs,H a=some (.dK gs)/\DenK D φ α H kvs gs
 |.tab j,a=>∃poss qn ps,D.tabs j=some (a,poss,qn)/\H a=some (.tbl ps)/\TriplesOk ps.toList/\∀pos∈poss,codeAmong pos ps.toList=none\/∃c,codeAmong pos ps.toList=some (.ref c)/\c∉φ/\c∉α/\H c=some (.ext (qY c qn))
 |.dct ks,a=>∃xs:List ((Int×Int)×Addr),ks=xs.map (·.1)/\ks.Nodup/\ks.length<=100000/\(a == sysModules)=false/\H a=some (.ext (qE a xs))/\∀x∈xs,x.2∉φ/\x.2∉α/\Rd H x.2 (.tup [.int x.1.1,.int x.1.2])
structure Stp(α:List Addr)(H:Hp)(α':List Addr)(H':Hp):Prop where
 ext:∃β,α'=α++β/\∀b∈β,H b=none
 keep:∀b o,b∉α->H b=some o->H' b=some o
 live:∀b,H' b=none->H b=none
theorem Stp.refl(α:List Addr)(H:Hp):Stp α H α H:=⟨⟨[],by simp,by simp⟩,λ_ _ _ e=>e,λ_ e=>e⟩
theorem Stp.trans{α α1 α2:List Addr}{H H1 H2:Hp}(a:Stp α H α1 H1)(b:Stp α1 H1 α2 H2):Stp α H α2 H2:=by
 obtain⟨β,rfl,hβ⟩:=a.ext
 obtain⟨γ,rfl,hγ⟩:=b.ext
 refine⟨⟨β++γ,by simp,λc hc=>?_⟩,λc o n e=>?_,λc e=>a.live c (b.live c e)⟩
 ·rcases List.mem_append.mp hc with h|h
  ·exact hβ c h
  ·exact a.live c (hγ c h)
 ·refine b.keep c o (λh=>?_) (a.keep c o n e)
  rcases List.mem_append.mp h with h|h
  ·exact n h
  ·rw[hβ c h] at e;cases e
theorem Stp.new{α:List Addr}{H H':Hp}(s:jY H H'):Stp α H α H':=⟨⟨[],by simp,by simp⟩,λb o _ e=>s b o e,λb e=>by
 cases q:H b with
 |none=>rfl
 |some o=>rw[s b o q] at e;cases e⟩
theorem zd{H:Hp}{p:Addr}{o:HO}(h:H p=none):jY H (upd H p o):=λb u e=>by rw[z8 (zv e h)];exact e
theorem Stp.out{α α':List Addr}{H H':Hp}(s:Stp α H α' H'){a:Addr}{o:HO}(n:a∉α)(e:H a=some o):a∉α':=by
 obtain⟨β,rfl,hβ⟩:=s.ext
 intro h
 rcases List.mem_append.mp h with h|h
 ·exact n h
 ·rw[hβ a h] at e;cases e
section
variable {D:DP}{φ φ' α α':List Addr}{H H':Hp}
structure Lk(φ α:List Addr)(H:Hp)(φ' α':List Addr)(H':Hp):Prop where
 ob:∀a o,a∉φ->a∉α->H a=some o->a∉φ'/\a∉α'/\H' a=some o
 st:∀(i:Nat) (a:Addr),α[i]?=some a->α'[i]?=some a
mutual
theorem Den.lk(h:Lk φ α H φ' α' H'):∀{t:T} {v:V},Den D φ α H t v->Den D φ' α' H' t v
 |.non,_,d=>d
 |.bl _,_,d=>d
 |.int _,_,d=>d
 |.str _,_,d=>d
 |.mut i,_,d=>by obtain⟨a,e,q⟩:=d;exact⟨a,h.st i a e,q⟩
 |.tup ts,_,d=>by
  obtain⟨a,xs,rfl,n1,n2,r,l⟩:=d
  rcases r with r|⟨o,r⟩
  ·obtain⟨m1,m2,e⟩:=h.ob a _ n1 n2 r
   exact⟨a,xs,rfl,m1,m2,.inl e,DenL.lk h l⟩
  ·obtain⟨m1,m2,e⟩:=h.ob a _ n1 n2 r
   exact⟨a,xs,rfl,m1,m2,.inr ⟨o,e⟩,DenL.lk h l⟩
 |.lst ts,_,d=>by
  obtain⟨a,xs,rfl,n1,n2,r,l⟩:=d
  rcases r with r|⟨o,r⟩
  ·obtain⟨m1,m2,e⟩:=h.ob a _ n1 n2 r
   exact⟨a,xs,rfl,m1,m2,.inl e,DenL.lk h l⟩
  ·obtain⟨m1,m2,e⟩:=h.ob a _ n1 n2 r
   exact⟨a,xs,rfl,m1,m2,.inr ⟨o,e⟩,DenL.lk h l⟩
 |.obj c fs,_,d=>by
  obtain⟨a,C,dx,gs,rfl,n1,n2,ad,e,l⟩:=d
  obtain⟨m1,m2,e⟩:=h.ob a _ n1 n2 e
  exact⟨a,C,dx,gs,rfl,m1,m2,ad,e,DenF.lk h l⟩
 |.exc c fs,_,d=>by
  obtain⟨a,C,d,rfl,n1,n2,ad,e,l⟩:=d
  obtain⟨m1,m2,e⟩:=h.ob a _ n1 n2 e
  refine⟨a,C,d,rfl,m1,m2,ad,e,?_⟩
  cases d with
  |none=>exact l
  |some dx=>
   obtain⟨gs,k1,k2,e2,l⟩:=l
   obtain⟨k1,k2,e2⟩:=h.ob dx _ k1 k2 e2
   exact⟨gs,k1,k2,e2,DenF.lk h l⟩
 |.dic kvs,_,d=>by
  obtain⟨a,gs,rfl,n1,n2,e,l⟩:=d
  obtain⟨m1,m2,e⟩:=h.ob a _ n1 n2 e
  exact⟨a,gs,rfl,m1,m2,e,DenK.lk h l⟩
 |.clo j cs,_,d=>by
  obtain⟨a,ob,xs,rfl,c,e,l⟩:=d
  exact⟨a,ob,xs,rfl,c,λo z=>let ⟨n1,n2,q⟩:=e o z;h.ob a o n1 n2 q,DenL.lk h l⟩
theorem DenL.lk(h:Lk φ α H φ' α' H'):∀{ts:List T} {vs:List V},DenL D φ α H ts vs->DenL D φ' α' H' ts vs
 |[],_,l=>l
 |t::ts,_,l=>by
  obtain⟨v,r,rfl,a,b⟩:=l
  exact⟨v,r,rfl,Den.lk h a,DenL.lk h b⟩
theorem DenF.lk(h:Lk φ α H φ' α' H'):∀{fs:List (Nat×T)} {gs:List (Str×V)},DenF D φ α H fs gs->DenF D φ' α' H' fs gs
 |[],_,l=>l
 |p::fs,_,l=>by
  obtain⟨x,v,r,e,rfl,a,b⟩:=l
  exact⟨x,v,r,e,rfl,Den.lk h a,DenF.lk h b⟩
theorem DenK.lk(h:Lk φ α H φ' α' H'):∀{fs:List (Key×T)} {gs:List (Key×V)},DenK D φ α H fs gs->DenK D φ' α' H' fs gs
 |[],_,l=>l
 |p::fs,_,l=>by
  obtain⟨v,r,rfl,a,b⟩:=l
  exact⟨v,r,rfl,Den.lk h a,DenK.lk h b⟩
end
theorem Stp.lk(s:Stp α H α' H'):Lk φ α H φ α' H':=⟨λa o n1 n2 e=>⟨n1,s.out n2 e,s.keep a o n2 e⟩,λi a e=>by
 obtain⟨β,rfl,_⟩:=s.ext
 rw[List.getElem?_append_left (List.getElem?_eq_some_iff.mp e).1];exact e⟩
theorem Den.step(s:Stp α H α' H'){t:T}{v:V}(d:Den D φ α H t v):Den D φ α' H' t v:=d.lk s.lk
theorem DenL.step(s:Stp α H α' H'){t:List T}{v:List V}(d:DenL D φ α H t v):DenL D φ α' H' t v:=d.lk s.lk
theorem DenF.step(s:Stp α H α' H'){t:List (Nat×T)}{v:List (Str×V)}(d:DenF D φ α H t v):DenF D φ α' H' t v:=d.lk s.lk
theorem DenK.step(s:Stp α H α' H'){t:List (Key×T)}{v:List (Key×V)}(d:DenK D φ α H t v):DenK D φ α' H' t v:=d.lk s.lk
theorem XDict.lk{fs:List (Nat×T)}{d:Option Addr}(h:Lk φ α H φ' α' H')(x:XDict D φ α H fs d):XDict D φ' α' H' fs d:=by
 cases d with
 |none=>exact x
 |some dx=>
  obtain⟨gs,k1,k2,e2,l⟩:=x
  obtain⟨k1,k2,e2⟩:=h.ob dx _ k1 k2 e2
  exact⟨gs,k1,k2,e2,DenF.lk h l⟩
mutual
theorem Den.hide{β:List Addr}:∀{t:T} {v:V},wo t=true->Den D φ α H t v->(∀a,a∉φ->a∉α->a∉φ'/\a∉β)->Den D φ' β H t v
 |.non,_,_,h,_=>h
 |.bl _,_,_,h,_=>h
 |.int _,_,_,h,_=>h
 |.str _,_,_,h,_=>h
 |.mut i,_,p,_,_=>by simp[wo] at p
 |.tup ts,_,p,h,k=>by
  obtain⟨a,xs,rfl,n1,n2,r,l⟩:=h
  exact⟨a,xs,rfl,(k a n1 n2).1,(k a n1 n2).2,r,DenL.hide (by simpa[wo] using p) l k⟩
 |.lst ts,_,p,h,k=>by
  obtain⟨a,xs,rfl,n1,n2,r,l⟩:=h
  exact⟨a,xs,rfl,(k a n1 n2).1,(k a n1 n2).2,r,DenL.hide (by simpa[wo] using p) l k⟩
 |.obj c fs,_,p,h,k=>by
  obtain⟨a,C,dx,gs,rfl,n1,n2,ad,e,l⟩:=h
  exact⟨a,C,dx,gs,rfl,(k a n1 n2).1,(k a n1 n2).2,ad,e,DenF.hide (by simpa[wo] using p) l k⟩
 |.exc c fs,_,p,h,k=>by
  obtain⟨a,C,d,rfl,n1,n2,ad,e,l⟩:=h
  refine⟨a,C,d,rfl,(k a n1 n2).1,(k a n1 n2).2,ad,e,?_⟩
  cases d with
  |none=>exact l
  |some dx=>
   obtain⟨gs,k1,k2,e2,l⟩:=l
   exact⟨gs,(k dx k1 k2).1,(k dx k1 k2).2,e2,DenF.hide (by simpa[wo] using p) l k⟩
 |.dic kvs,_,p,h,k=>by
  obtain⟨a,gs,rfl,n1,n2,e,l⟩:=h
  exact⟨a,gs,rfl,(k a n1 n2).1,(k a n1 n2).2,e,DenK.hide (by simpa[wo] using p) l k⟩
 |.clo j cs,_,p,h,k=>by
  obtain⟨a,ob,xs,rfl,c,e,l⟩:=h
  exact⟨a,ob,xs,rfl,c,λo z=>let ⟨n1,n2,q⟩:=e o z;⟨(k a n1 n2).1,(k a n1 n2).2,q⟩,DenL.hide (by simpa[wo] using p) l k⟩
theorem DenL.hide{β:List Addr}:∀{ts:List T} {vs:List V},kG ts=true->DenL D φ α H ts vs->(∀a,a∉φ->a∉α->a∉φ'/\a∉β)->DenL D φ' β H ts vs
 |[],_,_,h,_=>h
 |t::ts,_,p,h,k=>by
  obtain⟨v,r,rfl,a,b⟩:=h
  simp only[kG,Bool.and_eq_true] at p
  exact⟨v,r,rfl,Den.hide p.1 a k,DenL.hide p.2 b k⟩
theorem DenF.hide{β:List Addr}:∀{fs:List (Nat×T)} {gs:List (Str×V)},jn fs=true->DenF D φ α H fs gs->(∀a,a∉φ->a∉α->a∉φ'/\a∉β)->DenF D φ' β H fs gs
 |[],_,_,h,_=>h
 |q::fs,_,p,h,k=>by
  obtain⟨x,v,r,e,rfl,a,b⟩:=h
  simp only[jn,Bool.and_eq_true] at p
  exact⟨x,v,r,e,rfl,Den.hide p.1 a k,DenF.hide p.2 b k⟩
theorem DenK.hide{β:List Addr}:∀{fs:List (Key×T)} {gs:List (Key×V)},ZY fs=true->DenK D φ α H fs gs->(∀a,a∉φ->a∉α->a∉φ'/\a∉β)->DenK D φ' β H fs gs
 |[],_,_,h,_=>h
 |q::fs,_,p,h,k=>by
  obtain⟨v,r,rfl,a,b⟩:=h
  simp only[ZY,Bool.and_eq_true] at p
  exact⟨v,r,rfl,Den.hide p.1 a k,DenK.hide p.2 b k⟩
end
theorem XDict.hide{fs:List (Nat×T)}{d:Option Addr}{β:List Addr}(p:jn fs=true)(x:XDict D φ α H fs d)(k:∀a,a∉φ->a∉α->a∉φ'/\a∉β):XDict D φ' β H fs d:=by
 cases d with
 |none=>exact x
 |some dx=>
  obtain⟨gs,k1,k2,e2,l⟩:=x
  exact⟨gs,(k dx k1 k2).1,(k dx k1 k2).2,e2,DenF.hide p l k⟩
theorem X2:∀a:Addr,a∉φ->a∉α->a∉φ++α/\a∉([]:List Addr):=λa n1 n2=>⟨λz=>(List.mem_append.mp z).elim n1 n2,by simp⟩
theorem yZ{β:List Addr}:∀a:Addr,a∉φ++α->a∉β->a∉φ/\a∉α:=λa n1 _=>⟨λz=>n1 (List.mem_append_left _ z),λz=>n1 (List.mem_append_right _ z)⟩
theorem DenL.length:∀{ts:List T} {vs:List V},DenL D φ α H ts vs->ts.length=vs.length
 |[],_,h=>by have:_=[]:=h;subst this;rfl
 |t::ts,_,h=>by
  obtain⟨v,r,rfl,_,b⟩:=h
  simp[DenL.length b]
theorem DenL.get:∀{ts:List T} {vs:List V} {i:Nat} {t:T},DenL D φ α H ts vs->ts[i]?=some t->∃v,vs[i]?=some v/\Den D φ α H t v
 |[],_,_,_,_,e=>by simp at e
 |t::ts,_,0,_,h,e=>by
  obtain⟨v,r,rfl,a,b⟩:=h
  simp at e;subst e
  exact⟨v,rfl,a⟩
 |t::ts,_,i+1,u,h,e=>by
  obtain⟨v,r,rfl,a,b⟩:=h
  obtain⟨w,e',d⟩:=DenL.get (i:=i) (t:=u) b (by simpa using e)
  exact⟨w,by simpa using e',d⟩
theorem DenL.append:∀{ts us:List T} {vs ws:List V},DenL D φ α H ts vs->DenL D φ α H us ws->DenL D φ α H (ts++us) (vs++ws)
 |[],us,_,ws,h,k=>by have:_=[]:=h;subst this;exact k
 |t::ts,us,_,ws,h,k=>by
  obtain⟨v,r,rfl,a,b⟩:=h
  exact⟨v,r++ws,rfl,a,DenL.append b k⟩
theorem DenL.drop:∀(n:Nat) {ts:List T} {vs:List V},DenL D φ α H ts vs->DenL D φ α H (ts.drop n) (vs.drop n)
 |0,_,_,h=>h
 |n+1,[],_,h=>by have:_=[]:=h;subst this;exact rfl
 |n+1,t::ts,_,h=>by
  obtain⟨v,r,rfl,a,b⟩:=h
  exact DenL.drop n b
theorem DenL.take:∀(n:Nat) {ts:List T} {vs:List V},DenL D φ α H ts vs->DenL D φ α H (ts.take n) (vs.take n)
 |0,_,_,h=>by simp[DenL]
 |n+1,[],_,h=>by have:_=[]:=h;subst this;exact rfl
 |n+1,t::ts,_,h=>by
  obtain⟨v,r,rfl,a,b⟩:=h
  exact⟨v,r.take n,rfl,a,DenL.take n b⟩
theorem DenL.set:∀{ts:List T} {vs:List V} {i:Nat} {t:T} {v:V},DenL D φ α H ts vs->Den D φ α H t v->DenL D φ α H (ts.set i t) (vs.set i v)
 |[],vs,i,t,v,l,d=>by have l:vs=[]:=l;subst l;exact rfl
 |x::ts,_,0,t,v,l,d=>by
  obtain⟨w,r,rfl,dw,l⟩:=l
  exact⟨v,r,rfl,d,l⟩
 |x::ts,_,i+1,t,v,l,d=>by
  obtain⟨w,r,rfl,dw,l⟩:=l
  exact⟨w,r.set i v,rfl,dw,DenL.set l d⟩
theorem DenF.look:∀{fs:List (Nat×T)} {gs:List (Str×V)} {f:Nat} {t:T},DenF D φ α H fs gs->Zs fs f=some t->∃x v,D.fn f=some x/\gs.lookup x=some v/\Den D φ α H t v
 |[],_,_,_,_,e=>by simp[Zs] at e
 |p::fs,_,f,t,h,e=>by
  obtain⟨x,v,r,ex,rfl,a,b⟩:=h
  rw[QR] at e
  cases q:Nat.beq p.1 f with
  |true=>
   have q':=Nat.eq_of_beq_eq_true q
   rw[q] at e
   have e:some p.2=some t:=e
   cases e
   exact⟨x,v,by rw[←q'];exact ex,by simp[List.lookup_cons],a⟩
  |false=>
   rw[q] at e
   obtain⟨y,w,h1,h2,h3⟩:=DenF.look b e
   refine⟨y,w,h1,?_,h3⟩
   rw[List.lookup_cons]
   have ne:(y == x)=false:=by
    refine beq_eq_false_iff_ne.mpr λz=>?_
    subst z
    have:=D.inj _ _ _ ex h1
    rw[this] at q
    simp at q
   rw[ne];exact h2
theorem DenF.put{f:Nat}{x:Str}{t:T}{w:V}(hx:D.fn f=some x):∀{fs:List (Nat×T)} {gs:List (Str×V)},DenF D φ α H fs gs->Den D φ α H t w->DenF D φ α H (W5 f t fs) (qN x w gs)
 |[],gs,h,d=>by
  have:gs=[]:=h
  subst this
  exact⟨x,w,[],hx,rfl,d,rfl⟩
 |p::fs,gs,h,d=>by
  obtain⟨z,y,r,ez,rfl,dy,l⟩:=h
  rw[QA]
  show DenF D φ α H _ (if z=x then (z,w)::r else (z,y)::qN x w r)
  cases q:Nat.beq p.1 f with
  |true=>
   have q':=Nat.eq_of_beq_eq_true q
   have:z=x:=by rw[q',hx] at ez;exact (Option.some.inj ez).symm
   rw[if_pos this]
   exact⟨z,w,r,ez,rfl,d,l⟩
  |false=>
   have:z≠x:=λe=>by
    subst e
    have:=D.inj _ _ _ ez hx
    rw[this] at q
    simp at q
   rw[if_neg this]
   exact⟨z,y,qN x w r,ez,rfl,dy,DenF.put hx l d⟩
theorem DenF.length:∀{fs:List (Nat×T)} {gs:List (Str×V)},DenF D φ α H fs gs->fs.length=gs.length
 |[],_,h=>by have:_=[]:=h;subst this;rfl
 |p::fs,_,h=>by
  obtain⟨x,v,r,_,rfl,_,b⟩:=h
  simp[DenF.length b]
noncomputable def noF:HO->Bool
 |.frz _ _=>false
 |_=>true
structure MRel(D:DP)(φ α:List Addr)(H:Hp)(μ:Mem):Prop where
 len:α.length=μ.length
 nd:α.Nodup
 dis:∀b∈α,b∉φ
 phi:∀b∈φ,∃o,H b=some o/\noF o=true
 ob:∀(i:Nat) (a:Addr) (o:MO),α[i]?=some a->μ[i]?=some o->DenO D φ α H o a
theorem DenO.lk{o:MO}{a:Addr}(s:Lk φ α H φ' α' H')(e:H' a=H a)(h:DenO D φ α H o a):DenO D φ' α' H' o a:=by
 cases o with
 |lst ts=>
  obtain⟨xs,q,l⟩:=h
  exact⟨xs,e.trans q,DenL.lk s l⟩
 |obj c fs=>
  obtain⟨C,dx,gs,ad,q,l⟩:=h
  exact⟨C,dx,gs,ad,e.trans q,DenF.lk s l⟩
 |dic kvs=>
  obtain⟨xs,q,l⟩:=h
  exact⟨xs,e.trans q,DenK.lk s l⟩
 |tab j=>
  obtain⟨pos,qn,ps,h1,h2,h3,h4⟩:=h
  refine⟨pos,qn,ps,h1,e.trans h2,h3,λp hp=>(h4 p hp).imp id λ⟨c,k1,k2,k3,k4⟩=>?_⟩
  obtain⟨m1,m2,m3⟩:=s.ob c _ k2 k3 k4
  exact⟨c,k1,m1,m2,m3⟩
 |dct ks=>
  obtain⟨xs,h1,h2,h3,h4,h5,h6⟩:=h
  refine⟨xs,h1,h2,h3,h4,e.trans h5,λx hx=>?_⟩
  obtain⟨k1,k2,k3⟩:=h6 x hx
  rcases k3 with k3|⟨o,k3⟩
  ·obtain⟨m1,m2,m3⟩:=s.ob _ _ k1 k2 k3
   exact⟨m1,m2,.inl m3⟩
  ·obtain⟨m1,m2,m3⟩:=s.ob _ _ k1 k2 k3
   exact⟨m1,m2,.inr ⟨o,m3⟩⟩
theorem DenO.step{o:MO}{a:Addr}(s:Stp α H α' H')(e:H' a=H a)(h:DenO D φ α H o a):DenO D φ α' H' o a:=h.lk s.lk e
theorem DenO.some{o:MO}{a:Addr}(h:DenO D φ α H o a):∃u,H a=Option.some u/\noF u=true:=by
 cases o with
 |lst ts=>obtain⟨xs,q,_⟩:=h;exact⟨_,q,rfl⟩
 |obj c fs=>obtain⟨C,dx,gs,_,q,_⟩:=h;exact⟨_,q,rfl⟩
 |dic ts=>obtain⟨xs,q,_⟩:=h;exact⟨_,q,rfl⟩
 |tab j=>obtain⟨_,_,ps,_,q,_⟩:=h;exact⟨_,q,rfl⟩
 |dct ks=>obtain⟨_,_,_,_,_,q,_⟩:=h;exact⟨_,q,rfl⟩
theorem MRel.new{μ:Mem}(m:MRel D φ α H μ)(s:jY H H'):MRel D φ α H' μ:=
 ⟨m.len,m.nd,m.dis,λb hb=>let ⟨o,e,n⟩:=m.phi b hb;⟨o,s b o e,n⟩,λi a o e1 e2=>by
  have d:=m.ob i a o e1 e2
  obtain⟨u,q,_⟩:=d.some
  exact d.step (Stp.new s) ((s _ _ q).trans q.symm)⟩
theorem MRel.lk{μ:Mem}(h:Lk φ α H φ' α H')(hα:∀a∈α,H' a=H a/\a∉φ')(hφ:∀b∈φ',∃o,H' b=some o/\noF o=true)(m:MRel D φ α H μ):MRel D φ' α H' μ:=
 ⟨m.len,m.nd,λb hb=>(hα b hb).2,hφ,λi a o e1 e2=>(m.ob i a o e1 e2).lk h (hα a (List.mem_of_getElem? e1)).1⟩
structure SRel(D:DP)(φ α:List Addr)(H:Hp)(τ:Sl)(σ:St):Prop where
 len:τ.length=σ.length
 val:∀(i:Nat) (t:T),τ[i]?=some (some t)->∃v,σ[i]?=some (some v)/\Den D φ α H t v
theorem SRel.lk{τ:Sl}{σ:St}(r:SRel D φ α H τ σ)(s:Lk φ α H φ' α' H'):SRel D φ' α' H' τ σ:=⟨r.len,λi t e=>by
 obtain⟨v,q,d⟩:=r.val i t e
 exact⟨v,q,d.lk s⟩⟩
theorem SRel.step{τ:Sl}{σ:St}(r:SRel D φ α H τ σ)(s:Stp α H α' H'):SRel D φ α' H' τ σ:=r.lk s.lk
theorem SRel.set{τ:Sl}{σ:St}(r:SRel D φ α H τ σ){i:Nat}{t:T}{v:V}(d:Den D φ α H t v):SRel D φ α H (w_ τ i (some t)) (σ.set i (some v)):=by
 rw[jB]
 refine⟨by simp[r.len],λj u e=>?_⟩
 by_cases h:i=j
 ·subst h
  rw[List.getElem?_set_self'] at e
  cases q:τ[i]? with
  |none=>rw[q] at e;cases e
  |some o=>
   rw[q] at e
   simp at e
   subst e
   have hl:i<σ.length:=by rw[←r.len];exact (List.getElem?_eq_some_iff.mp q).1
   exact⟨v,by simp[hl],d⟩
 ·rw[List.getElem?_set_ne h] at e ⊢
  exact r.val j u e
theorem SRel.unset{τ:Sl}{σ:St}{i:Nat}(r:SRel D φ α H τ σ):SRel D φ α H (w_ τ i none) (σ.set i none):=by
 rw[jB]
 refine⟨by simp[r.len],λj t e=>?_⟩
 by_cases h:i=j
 ·subst h
  rw[List.getElem?_set_self'] at e
  cases q:τ[i]? with
  |none=>rw[q] at e;cases e
  |some o=>rw[q] at e;cases e
 ·rw[List.getElem?_set_ne h] at e ⊢
  exact r.val j t e
theorem SRel.get{τ:Sl}{σ:St}(r:SRel D φ α H τ σ){i:Nat}{t:T}(e:QF τ i=some t):∃v,σ[i]?=some (some v)/\Den D φ α H t v:=r.val i t (ZV.mp e)
end
theorem vS{φ α:List Addr}{H:Hp}{b:Addr}(hb:H b=none):Lk φ α H (φ++[b]) α H:=by
 refine⟨λa o n1 n2 e=>⟨λz=>?_,n2,e⟩,λ_ _ e=>e⟩
 rcases List.mem_append.mp z with z|z
 ·exact n1 z
 ·rw[List.mem_singleton.mp z,hb] at e
  cases e
theorem uA{φ α:List Addr}{H H':Hp}{b:Addr}(hb:H b=none)(s:jY H H'):Lk φ α H (φ++[b]) α H':=⟨λa o n1 n2 e=>let ⟨q1,q2,q3⟩:=(vS hb).ob a o n1 n2 e;⟨q1,q2,s a o e⟩,λ_ _ e=>e⟩
theorem qO{φ α:List Addr}{H:Hp}{b:Addr}:Lk (φ++[b]) α H φ α H:=⟨λa o n1 n2 e=>⟨λz=>n1 (List.mem_append_left _ z),n2,e⟩,λ_ _ e=>e⟩
theorem km{φ α:List Addr}{H:Hp}{b:Addr}{u:HO}(hb:b∈φ):Lk φ α H φ α (upd H b u):=⟨λa o n1 n2 e=>⟨n1,n2,by rw[z8 (λz:a=b=>n1 (by rw[z];exact hb))];exact e⟩,λ_ _ e=>e⟩
end
inductive Post(D:DP)(W:XW)(φ α:List Addr)(H:Hp)(σ:St){β:Type}(R:β->Mem->List Addr->Hp->Prop)(r:RE β):Prop where
 |mk (K:β->Mem->Prop) (Z:Xp) (q:r K Z) (h:(∀a μ',K a μ'->∀α' H',Stp α H α' H'->MRel D φ α' H' μ'->R a μ' α' H')/\
  ∀c fs μ',Z c fs μ'->∀α' H' C d,Stp α H α' H'->MRel D φ α' H' μ'->D.adr c=some C->XDict D φ α' H' fs d->W (.ref C) d σ H')
inductive RdP(D:DP)(H:Hp)(σ:St)(P:List Addr->List Addr->Sl->Mem->Prop):Prop where
 |mk (φ α:List Addr) (τ:Sl) (μ:Mem) (sr:SRel D φ α H τ σ) (mr:MRel D φ α H μ) (p:P φ α τ μ)
section
variable {D:DP}{W:XW}{φ α α':List Addr}{H H':Hp}{σ:St}{β γ:Type}{R R':β->Mem->List Addr->Hp->Prop}{S:γ->Mem->List Addr->Hp->Prop}
theorem Post.mono{r:RE β}(p:Post D W φ α H σ R r)(h:∀a μ' α' H',Stp α H α' H'->MRel D φ α' H' μ'->R a μ' α' H'->R' a μ' α' H'):Post D W φ α H σ R' r:=by
 obtain⟨K,Z,q,k,z⟩:=p
 exact⟨K,Z,q,λa μ' e α' H' s m=>h a μ' α' H' s m (k a μ' e α' H' s m),z⟩
theorem Post.bind{r:RE γ}{k:γ->Mem->RE β}(p:Post D W φ α H σ R (r.bind k)):Post D W φ α H σ (λa μ' α' H'=>Post D W φ α' H' σ R (k a μ')) r:=by
 obtain⟨K,Z,q,h,z⟩:=p
 exact⟨λa μ=>k a μ K Z,Z,q,λa μ' e α' H' s m=>⟨K,Z,e,λb μ2 e2 α2 H2 s2 m2=>h b μ2 e2 α2 H2 (s.trans s2) m2,λc fs μ2 e2 α2 H2 C d s2 m2=>z c fs μ2 e2 α2 H2 C d (s.trans s2) m2⟩,z⟩
theorem Post.elim{C:Prop}(p:Post D W φ α H σ R RE.st):C:=by obtain⟨_,_,q,_⟩:=p;exact q.elim
theorem Post.grd{c:Prop}{r:RE β}(p:Post D W φ α H σ R (RE.grd c r)):c/\Post D W φ α H σ R r:=by
 obtain⟨K,Z,q,h⟩:=p
 exact⟨q.1,K,Z,q.2,h⟩
theorem Post.som{o:Option γ}{k:γ->RE β}(p:Post D W φ α H σ R (RE.som o k)):∃a,o=some a/\Post D W φ α H σ R (k a):=by
 obtain⟨K,Z,⟨a,e,q⟩,h⟩:=p
 exact⟨a,e,K,Z,q,h⟩
theorem Post.br{b:Bool}{r s:RE β}(p:Post D W φ α H σ R (RE.br b r s)):(b=true/\Post D W φ α H σ R r)\/(b=false/\Post D W φ α H σ R s):=by
 obtain⟨K,Z,q,h⟩:=p
 cases b with
 |true=>exact .inl ⟨rfl,K,Z,q,h⟩
 |false=>exact .inr ⟨rfl,K,Z,q,h⟩
theorem Post.ok{a:β}{μ:Mem}(p:Post D W φ α H σ R (RE.ok a μ)){α':List Addr}{H':Hp}(s:Stp α H α' H')(m:MRel D φ α' H' μ):R a μ α' H':=by
 obtain⟨K,Z,q,h,_⟩:=p
 exact h a μ q α' H' s m
theorem Post.step{r:RE β}(p:Post D W φ α H σ R r)(st:Stp α H α' H'):Post D W φ α' H' σ R r:=by
 obtain⟨K,Z,q,h,z⟩:=p
 exact⟨K,Z,q,λb μ2 e2 α2 H2 s2 m2=>h b μ2 e2 α2 H2 (st.trans s2) m2,λc fs μ2 e2 α2 H2 C d s2 m2=>z c fs μ2 e2 α2 H2 C d (st.trans s2) m2⟩
theorem Post.ex1{δ:Type}{P:δ->Prop}{k:δ->RE β}(p:Post D W φ α H σ R (λK Z=>∃x,P x/\k x K Z)):∃x,P x/\Post D W φ α H σ R (k x):=by
 obtain⟨K,Z,⟨x,hx,q⟩,h⟩:=p
 exact⟨x,hx,K,Z,q,h⟩
end
noncomputable def rdE (D:DP)(W:XW)(f:De):TE:=λσ H Q=>RdP D H σ λφ α τ μ=>Post D W φ α H σ (λt _ α' H'=>∀v,Den D φ α' H' t v->Q v H') (f τ μ)
noncomputable def rdT (D:DP)(W:XW)(f:Dt):TT:=λσ H Q=>RdP D H σ λφ α τ μ=>Post D W φ α H σ (λb _ _ H'=>Q b H') (f τ μ)
noncomputable def rdA (D:DP)(W:XW)(n:Nat)(f:Da):TA:=λσ H Q=>RdP D H σ λφ α τ μ=>Post D W φ α H σ (λts _ α' H'=>∀vs,DenL D φ α' H' ts vs->vs.length=n->Q vs H') (f τ μ)
section
variable {X:Cx}{D:DP}{W:XW}{pins:List (Addr×Obj)}{s:Shared}{σ:St}{H:Hp}{φ α:List Addr}{τ:Sl}{μ:Mem}{β:Type}{R:β->Mem->List Addr->Hp->Prop}
inductive SubP(X:Cx)(D:DP)(W:XW)(pins:List (Addr×Obj))(σ:St)(H:Hp)(φ α:List Addr)(τ:Sl){β:Type}(R:β->Mem->List Addr->Hp->Prop)(k:T->Mem->RE β)(u:Value)(s1:Shared):Prop where
 |mk (v:V) (H1:Hp) (t:T) (μ1:Mem) (α1:List Addr) (i:Inv X pins σ H1 s1) (r:RelV v u) (st:Stp α H α1 H1) (sr:SRel D φ α1 H1 τ σ) (mr:MRel D φ α1 H1 μ1) (d:Den D φ α1 H1 t v) (p:Post D W φ α1 H1 σ R (k t μ1))
inductive SubT(X:Cx)(D:DP)(W:XW)(pins:List (Addr×Obj))(σ:St)(H:Hp)(φ α:List Addr)(τ:Sl){β:Type}(R:β->Mem->List Addr->Hp->Prop)(k:Bool->Mem->RE β)(b:Bool)(s1:Shared):Prop where
 |mk (H1:Hp) (μ1:Mem) (α1:List Addr) (i:Inv X pins σ H1 s1) (st:Stp α H α1 H1) (sr:SRel D φ α1 H1 τ σ) (mr:MRel D φ α1 H1 μ1) (p:Post D W φ α1 H1 σ R (k b μ1))
inductive SubA(X:Cx)(D:DP)(W:XW)(pins:List (Addr×Obj))(σ:St)(H:Hp)(φ α:List Addr)(τ:Sl){β:Type}(R:β->Mem->List Addr->Hp->Prop)(n:Nat)(k:List T->Mem->RE β)(us:List Value)(s1:Shared):Prop where
 |mk (vs:List V) (H1:Hp) (ts:List T) (μ1:Mem) (α1:List Addr) (i:Inv X pins σ H1 s1) (r:Vals vs us) (st:Stp α H α1 H1) (sr:SRel D φ α1 H1 τ σ) (mr:MRel D φ α1 H1 μ1) (d:DenL D φ α1 H1 ts vs) (hn:vs.length=n) (p:Post D W φ α1 H1 σ R (k ts μ1))
theorem sub{a:Expr}{f:Sl->Mem->RE T}{k:T->Mem->RE β}(ha:PE X a (rdE D W f))(I:Inv X pins σ H s)(sr:SRel D φ α H τ σ)(mr:MRel D φ α H μ)(p:Post D W φ α H σ R ((f τ μ).bind k)) :
  wpAny (model X.prog X.w) X.A (eval a X.env) (SubP X D W pins σ H φ α τ R k) X.xe s:=by
 refine thn (ha pins s σ H (λv H1=>∃t μ1 α1,Stp α H α1 H1/\SRel D φ α1 H1 τ σ/\MRel D φ α1 H1 μ1/\Den D φ α1 H1 t v/\Post D W φ α1 H1 σ R (k t μ1)) I ⟨φ,α,τ,μ,sr,mr,p.bind.mono λt μ' α' H' st m q v d=>⟨t,μ',α',st,sr.step st,m,d,q⟩⟩) ?_
 rintro u s1 ⟨v,H1,I1,r,t,μ1,α1,h1,h2,h3,h4,h⟩
 exact⟨v,H1,t,μ1,α1,I1,r,h1,h2,h3,h4,h⟩
theorem z1X{a:Expr}{f:Sl->Mem->RE Bool}{k:Bool->Mem->RE β}(ha:PT X a (rdT D W f))(I:Inv X pins σ H s)(sr:SRel D φ α H τ σ)(mr:MRel D φ α H μ)(p:Post D W φ α H σ R ((f τ μ).bind k)) :
  wpAny (model X.prog X.w) X.A (isTrue a X.env (eval a X.env)) (SubT X D W pins σ H φ α τ R k) X.xe s:=by
 refine thn (ha pins s σ H (λb H1=>∃μ1 α1,Stp α H α1 H1/\SRel D φ α1 H1 τ σ/\MRel D φ α1 H1 μ1/\Post D W φ α1 H1 σ R (k b μ1)) I ⟨φ,α,τ,μ,sr,mr,p.bind.mono λb μ' α' H' st m q=>⟨μ',α',st,sr.step st,m,q⟩⟩) ?_
 rintro b s1 ⟨H1,I1,μ1,α1,h1,h2,h3,h⟩
 exact⟨H1,μ1,α1,I1,h1,h2,h3,h⟩
theorem JG{es:List Expr}{n:Nat}{pos:Pos}{f:Da}{k:List T->Mem->RE β}(ha:PA X es (rdA D W n f))(I:Inv X pins σ H s)(sr:SRel D φ α H τ σ)(mr:MRel D φ α H μ)(p:Post D W φ α H σ R ((f τ μ).bind k)) :
  wpAny (model X.prog X.w) X.A (spliced (backTo pos (starEach es X.env))) (SubA X D W pins σ H φ α τ R n k) X.xe s:=by
 refine thn (ha pos pins s σ H (λvs H1=>∃ts μ1 α1,Stp α H α1 H1/\SRel D φ α1 H1 τ σ/\MRel D φ α1 H1 μ1/\DenL D φ α1 H1 ts vs/\vs.length=n/\Post D W φ α1 H1 σ R (k ts μ1)) I ⟨φ,α,τ,μ,sr,mr,p.bind.mono λts μ' α' H' st m q vs d hn=>⟨ts,μ',α',st,sr.step st,m,d,hn,q⟩⟩) ?_
 rintro us s1 ⟨vs,H1,I1,r,ts,μ1,α1,h1,h2,h3,h4,h5,h⟩
 exact⟨vs,H1,ts,μ1,α1,I1,r,h1,h2,h3,h4,h5,h⟩
abbrev RV(D:DP)(φ:List Addr)(Q:VK):T->Mem->List Addr->Hp->Prop:=λt _ α' H'=>∀v,Den D φ α' H' t v->Q v H'
theorem Post.here{Q:VK}{t:T}{v:V}(p:Post D W φ α H σ (RV D φ Q) (.ok t μ))(mr:MRel D φ α H μ)(d:Den D φ α H t v):Q v H:=p.ok (Stp.refl _ _) mr v d
theorem Post.fresh{Q:VK}{t:T}{v:V}{H':Hp}(p:Post D W φ α H σ (RV D φ Q) (.ok t μ))(mr:MRel D φ α H μ)(sm:jY H H')(d:Den D φ α H' t v):Q v H':=p.ok (Stp.new sm) (mr.new sm) v d
theorem zk{n:Nat}(h:n<=room):n<=sizeLine:=Nat.le_trans h (by unfold room;decide)
theorem zi{α:List Addr}(mr:MRel D φ α H μ){p:Addr}(h:H p=none):p∉φ:=λz=>by
 obtain⟨o,e,_⟩:=mr.phi p z
 rw[h] at e;cases e
theorem zh{α:List Addr}(mr:MRel D φ α H μ){p:Addr}(h:H p=none):p∉α:=λz=>by
 obtain⟨i,hi⟩:=List.mem_iff_getElem?.mp z
 have hl:i<μ.length:=by rw[←mr.len];exact (List.getElem?_eq_some_iff.mp hi).1
 obtain⟨u,e,_⟩:=(mr.ob i p μ[i] hi (by simp[hl])).some
 rw[h] at e;cases e
theorem wQ:∀{ts:List T} {ns:List Int} {vs:List V},intsOf ts=some ns->DenL D φ α H ts vs->vs=ns.map V.int
 |[],ns,vs,h,l=>by
  simp[intsOf] at h;subst h
  exact l
 |t::ts,ns,vs,h,l=>by
  obtain⟨v,r,rfl,d,l⟩:=l
  cases t with
  |int i=>
   simp only[intsOf] at h
   cases q:intsOf ts with
   |none=>rw[q] at h;cases h
   |some ms=>
    rw[q] at h;cases h
    rw[wQ q l]
    have d:v=.int i:=d
    rw[d];rfl
  |_=>simp[intsOf] at h
theorem Q2:OpR X (binaryOp .Add) (λx y H Q=>∃l b xs zs,x=.ref l/\y=.ref b/\Rd H l (.lst xs)/\Rd H b (.lst zs)/\xs.length+zs.length<=sizeLine/\∀p,H p=none->Q (.ref p) (upd H p (.lst (xs++zs)))):=by
 intro pins s σ H x y v u Q I rx ry h
 obtain⟨l,b,xs,zs,rfl,rfl,hH,hB,hz,q⟩:=h
 cases rx
 cases ry
 obtain⟨z,its,n,r,e⟩:=hH.ok I.hok
 obtain⟨z2,its2,n2,r2,e2⟩:=hB.ok I.hok
 refine PySem.P.add_list e e2 ?_ (by rw[List.size_toArray,List.size_toArray,←r.length,←r2.length];exact hz)
 rw[show its.toArray++its2.toArray=(its++its2).toArray by simp]
 exact⟨.ref _,_,I.lnew (t':=s.toks) (r.append r2) (by rw[List.length_append];exact hz),rfl,q _ I.fresh⟩
theorem J8:OpR X (binaryOp .Add) (λx y H Q=>∃a b ys,x=.ref a/\y=.ref b/\SqT X.K H a []/\SqT X.K H b ys/\Q (.ref b) H):=by
 intro pins s σ H x y v u Q I rx ry h
 obtain⟨a,b,ys,rfl,rfl,ha,hb,q⟩:=h
 cases rx
 cases ry
 obtain⟨its,r1,p1,_⟩:=I.tuple ha
 obtain⟨its2,r2,p2,_⟩:=I.tuple hb
 cases r1
 obtain⟨⟨cls,dd,data,sl⟩,ho,hc,n,hd⟩:=id p1
 obtain⟨⟨cls2,dd2,data2,sl2⟩,ho2,hc2,n2,hd2⟩:=id p2
 simp only at hc hd hc2 hd2
 subst hc hd hc2 hd2
 exact concat_meets ⟨_,ho,rfl⟩ ⟨_,ho2,rfl⟩ noFill_tuple_add seq_tuple_add PySem.F.slot_tuple_add PySem.F.entry_tuple_add (PySem.F.args_tuple_add_2 _ _)
  (tuple_addW0 a b #[] its2.toArray n n2 dd dd2 sl sl2 rfl) ⟨ho,ho2,⟨.ref b,H,I,rfl,q⟩⟩
theorem WI:OpR X (binaryOp .FloorDiv) (rI (λ_ j=>0<j/\j<1606938044258990275541962092341162602522202993782792835301376) λi j=>.int (i / j)):=opI λi j _ _ _ _ _ hc q=>by
 have h1:(0:Int)<j:=hc.1
 have h2:j<1606938044258990275541962092341162602522202993782792835301376:=hc.2
 refine floordiv_int (by omega) (by rw[Int.fdiv_eq_ediv_of_nonneg i (by omega)];exact q) (.inl (PyProof.noPylong_of_log2 ?_))
 refine Nat.lt_of_lt_of_le ((Nat.log2_lt (by omega)).2 (show j.natAbs<2 ^ 200 by omega)) (by decide)
theorem qW{f:Int->Int->Mem->RE T}{x y:T}{Q:VK}(p:Post D W φ α H σ (RV D φ Q) (yx f x y μ)):∃i j,x=.int i/\y=.int j/\Post D W φ α H σ (RV D φ Q) (f i j μ):=by
 unfold yx at p
 split at p
 ·exact⟨_,_,rfl,rfl,p⟩
 ·exact p.elim
theorem UE{op:Operator}{x y:T}{v1 v2:V}{u1 u2:Value}{Q:VK}(I:Inv X pins σ H s)(mr:MRel D φ α H μ)(d1:Den D φ α H x v1)(d2:Den D φ α H y v2)(r1:RelV v1 u1)(r2:RelV v2 u2)
  (p:Post D W φ α H σ (RV D φ Q) (z0R op x y μ)):wpAny (model X.prog X.w) X.A (binaryOp op u1 u2) (EP X pins σ Q) X.xe s:=by
 have cat:∀{a b:Addr} {vs ws:List V} {xs ys:List T},Rd H a (.lst vs)->Rd H b (.lst ws)->DenL D φ α H xs vs->DenL D φ α H ys ws->v1=.ref a->v2=.ref b->xs.length+ys.length<=room->Post D W φ α H σ (RV D φ Q) (RE.ok (.lst (xs++ys)) μ)->wpAny (model X.prog X.w) X.A (binaryOp .Add u1 u2) (EP X pins σ Q) X.xe s:=λ{a b vs ws xs ys} q1 q2 l1 l2 e1 e2 h p=>by
  subst e1 e2
  refine Q2 pins s σ H _ _ _ _ Q I r1 r2 ⟨a,b,vs,ws,rfl,rfl,q1,q2,by rw[←l1.length,←l2.length];exact zk h,λz hz=>?_⟩
  have sm:=zd (o:=.lst (vs++ws)) hz
  exact p.fresh mr sm ⟨z,_,rfl,zi mr hz,zh mr hz,.inl z6,(l1.step (Stp.new sm)).append (l2.step (Stp.new sm))⟩
 cases op with
 |Add=>
  replace p:Post D W φ α H σ (RV D φ Q) (Uh x y μ):=p
  unfold Uh at p
  split at p
  ·cases d1;cases d2
   exact Yy pins s σ H _ _ _ _ Q I r1 r2 ⟨_,_,rfl,rfl,p.here mr rfl⟩
  ·cases d1;cases d2
   obtain⟨h,p⟩:=p.grd
   exact ZA pins s σ H _ _ _ _ Q I r1 r2 ⟨_,_,rfl,rfl,zk h,p.here mr rfl⟩
  ·obtain⟨h,p⟩:=p.grd
   obtain⟨a,vs,rfl,n1,n2,q1,l1⟩:=d1
   obtain⟨b,ws,rfl,m1,m2,q2,l2⟩:=d2
   refine Q2 pins s σ H _ _ _ _ Q I r1 r2 ⟨a,b,vs,ws,rfl,rfl,q1,q2,by rw[←l1.length,←l2.length];exact zk h,λz hz=>?_⟩
   have sm:=zd (o:=.lst (vs++ws)) hz
   exact p.fresh mr sm ⟨z,_,rfl,zi mr hz,zh mr hz,.inl z6,(l1.step (Stp.new sm)).append (l2.step (Stp.new sm))⟩
  ·rename_i xs ys
   obtain⟨h,p⟩:=p.grd
   ·obtain⟨a,vs,rfl,n1,n2,q1,l1⟩:=d1
    obtain⟨b,ws,rfl,m1,m2,q2,l2⟩:=d2
    cases vs with
    |nil=>
     cases xs with
     |cons x xs=>obtain⟨_,_,e,_⟩:=l1;cases e
     |nil=>exact J8 pins s σ H _ _ _ _ Q I r1 r2 ⟨a,b,ws,rfl,rfl,.inl q1,.inl q2,p.here mr ⟨b,ws,rfl,m1,m2,q2,l2⟩⟩
    |cons v vs=>
     refine Kt pins s σ H _ _ _ _ Q I r1 r2 ⟨a,b,v::vs,ws,rfl,rfl,.inl q1,.inl q2,by simp,by rw[←l1.length,←l2.length];exact zk h,λhw=>?_,λhw z hz=>?_⟩
     ·subst hw
      cases ys with
      |cons y ys=>obtain⟨_,_,e,_⟩:=l2;cases e
      |nil=>
       rw[List.append_nil] at p
       exact p.here mr ⟨a,v::vs,rfl,n1,n2,q1,l1⟩
     ·have sm:=zd (o:=.tup (v::vs++ws)) hz
      exact p.fresh mr sm ⟨z,_,rfl,zi mr hz,zh mr hz,.inl z6,(l1.step (Stp.new sm)).append (l2.step (Stp.new sm))⟩
  ·obtain⟨xs,hi,p⟩:=p.ex1
   obtain⟨h,p⟩:=Post.grd p
   obtain⟨a,hi',rfl⟩:=d1
   obtain⟨vs,q1,l1⟩:=mr.ob _ a _ hi' hi
   obtain⟨b,ws,rfl,m1,m2,q2,l2⟩:=d2
   exact cat (.inl q1) q2 l1 l2 rfl rfl h p
  ·obtain⟨ys,hi,p⟩:=p.ex1
   obtain⟨h,p⟩:=Post.grd p
   obtain⟨a,hi',rfl⟩:=d2
   obtain⟨vs,q1,l1⟩:=mr.ob _ a _ hi' hi
   obtain⟨b,ws,rfl,m1,m2,q2,l2⟩:=d1
   exact cat q2 (.inl q1) l2 l1 rfl rfl h p
  ·obtain⟨pr,hi,p⟩:=p.ex1
   obtain⟨h,p⟩:=Post.grd p
   obtain⟨a,hi',rfl⟩:=d1
   obtain⟨vs,q1,l1⟩:=mr.ob _ a _ hi' hi.1
   obtain⟨b,hj',rfl⟩:=d2
   obtain⟨ws,q2,l2⟩:=mr.ob _ b _ hj' hi.2
   exact cat (.inl q1) (.inl q2) l1 l2 rfl rfl h p
  ·exact p.elim
 |Sub=>
  obtain⟨i,j,rfl,rfl,p⟩:=qW p
  cases d1;cases d2
  exact YU pins s σ H _ _ _ _ Q I r1 r2 ⟨_,_,rfl,rfl,p.here mr rfl⟩
 |Mult=>
  obtain⟨i,j,rfl,rfl,p⟩:=qW p
  cases d1;cases d2
  obtain⟨h,p⟩:=p.grd
  exact z0q pins s σ H _ _ _ _ Q I r1 r2 ⟨_,_,rfl,rfl,by simpa[CMul,big] using h,p.here mr rfl⟩
 |FloorDiv=>
  obtain⟨i,j,rfl,rfl,p⟩:=qW p
  cases d1;cases d2
  obtain⟨h,p⟩:=p.grd
  exact WI pins s σ H _ _ _ _ Q I r1 r2 ⟨_,_,rfl,rfl,h,p.here mr rfl⟩
 |Mod=>
  obtain⟨i,j,rfl,rfl,p⟩:=qW p
  cases d1;cases d2
  obtain⟨h,p⟩:=p.grd
  exact z06 pins s σ H _ _ _ _ Q I r1 r2 ⟨_,_,rfl,rfl,h,p.here mr rfl⟩
 |Pow=>
  obtain⟨i,j,rfl,rfl,p⟩:=qW p
  cases d1;cases d2
  obtain⟨h,p⟩:=p.grd
  exact UH pins s σ H _ _ _ _ Q I r1 r2 ⟨_,_,rfl,rfl,⟨h.1,h.2.1,by simpa using h.2.2⟩,p.here mr rfl⟩
 |RShift=>
  obtain⟨i,j,rfl,rfl,p⟩:=qW p
  cases d1;cases d2
  obtain⟨h,p⟩:=p.grd
  exact Yt pins s σ H _ _ _ _ Q I r1 r2 ⟨_,_,rfl,rfl,h,p.here mr rfl⟩
 |BitAnd=>
  obtain⟨i,j,rfl,rfl,p⟩:=qW p
  cases d1;cases d2
  exact YB pins s σ H _ _ _ _ Q I r1 r2 ⟨_,_,rfl,rfl,p.here mr rfl⟩
 |_=>exact (show Post D W φ α H σ (RV D φ Q) .st from p).elim
end
section
section
variable {D:DP}{φ α:List Addr}{H:Hp}
theorem Rd.inj{a:Addr}{u w:HO}(hu:∀o z,u≠.frz o z)(hw:∀o z,w≠.frz o z)(r:Rd H a u)(q:Rd H a w):u=w:=by
 rcases r with r|⟨o,r⟩<;>rcases q with q|⟨o',q⟩<;>rw[r] at q
 ·exact Option.some.inj q
 ·exact absurd (Option.some.inj q) (hu _ _)
 ·exact absurd (Option.some.inj q).symm (hw _ _)
 ·injection Option.some.inj q
mutual
theorem jR:∀{t u:T} {v:V} {k:Bool},Den D φ α H t v->Den D φ α H u v->eqT t u=some k->k=true
 |.int i,u,_,k,h1,h2,e=>by
  have h1:_=V.int i:=h1
  subst h1
  cases u with
  |int j=>have h2:V.int i=V.int j:=h2;injection h2 with h2;subst h2;rw[←Option.some.inj e];simp
  |bl b=>have h2:V.int i=V.bl b:=h2;cases h2
  |str b=>have h2:V.int i=V.str b:=h2;cases h2
  |non=>have h2:V.int i=V.non:=h2;cases h2
  |tup b=>obtain⟨_,_,h2,_⟩:=h2;cases h2
  |lst b=>obtain⟨_,_,h2,_⟩:=h2;cases h2
  |_=>cases e
 |.bl i,u,_,k,h1,h2,e=>by
  have h1:_=V.bl i:=h1
  subst h1
  cases u with
  |bl j=>have h2:V.bl i=V.bl j:=h2;injection h2 with h2;subst h2;rw[←Option.some.inj e];simp
  |int b=>have h2:V.bl i=V.int b:=h2;cases h2
  |str b=>have h2:V.bl i=V.str b:=h2;cases h2
  |non=>have h2:V.bl i=V.non:=h2;cases h2
  |tup b=>obtain⟨_,_,h2,_⟩:=h2;cases h2
  |lst b=>obtain⟨_,_,h2,_⟩:=h2;cases h2
  |_=>cases e
 |.str i,u,_,k,h1,h2,e=>by
  have h1:_=V.str i:=h1
  subst h1
  cases u with
  |str j=>have h2:V.str i=V.str j:=h2;injection h2 with h2;subst h2;rw[←Option.some.inj e];simp
  |int b=>have h2:V.str i=V.int b:=h2;cases h2
  |bl b=>have h2:V.str i=V.bl b:=h2;cases h2
  |non=>have h2:V.str i=V.non:=h2;cases h2
  |tup b=>obtain⟨_,_,h2,_⟩:=h2;cases h2
  |lst b=>obtain⟨_,_,h2,_⟩:=h2;cases h2
  |_=>cases e
 |.non,u,_,k,h1,h2,e=>by
  have h1:_=V.non:=h1
  subst h1
  cases u with
  |non=>exact (Option.some.inj e).symm
  |int b=>have h2:V.non=V.int b:=h2;cases h2
  |bl b=>have h2:V.non=V.bl b:=h2;cases h2
  |str b=>have h2:V.non=V.str b:=h2;cases h2
  |tup b=>obtain⟨_,_,h2,_⟩:=h2;cases h2
  |lst b=>obtain⟨_,_,h2,_⟩:=h2;cases h2
  |_=>cases e
 |.tup ts,u,_,k,h1,h2,e=>by
  obtain⟨a,xs,rfl,_,_,r,l⟩:=h1
  cases u with
  |tup us=>
   obtain⟨b,ys,e2,_,_,r',l'⟩:=h2
   cases e2
   have:=Rd.inj (by intro _ _ z;cases z) (by intro _ _ z;cases z) r r'
   injection this with this
   subst this
   exact j0 l l' e
  |lst us=>
   obtain⟨b,ys,e2,_,_,r',l'⟩:=h2
   cases e2
   have:=Rd.inj (by intro _ _ z;cases z) (by intro _ _ z;cases z) r r'
   cases this
  |int b=>have h2:V.ref a=V.int b:=h2;cases h2
  |bl b=>have h2:V.ref a=V.bl b:=h2;cases h2
  |str b=>have h2:V.ref a=V.str b:=h2;cases h2
  |non=>have h2:V.ref a=V.non:=h2;cases h2
  |_=>cases e
 |.lst ts,u,_,k,h1,h2,e=>by
  obtain⟨a,xs,rfl,_,_,r,l⟩:=h1
  cases u with
  |lst us=>
   obtain⟨b,ys,e2,_,_,r',l'⟩:=h2
   cases e2
   have:=Rd.inj (by intro _ _ z;cases z) (by intro _ _ z;cases z) r r'
   injection this with this
   subst this
   exact j0 l l' e
  |tup us=>
   obtain⟨b,ys,e2,_,_,r',l'⟩:=h2
   cases e2
   have:=Rd.inj (by intro _ _ z;cases z) (by intro _ _ z;cases z) r r'
   cases this
  |int b=>have h2:V.ref a=V.int b:=h2;cases h2
  |bl b=>have h2:V.ref a=V.bl b:=h2;cases h2
  |str b=>have h2:V.ref a=V.str b:=h2;cases h2
  |non=>have h2:V.ref a=V.non:=h2;cases h2
  |_=>cases e
 |.obj _ _,_,_,_,_,_,e=>by cases e
 |.mut _,_,_,_,_,_,e=>by cases e
 |.exc _ _,_,_,_,_,_,e=>by cases e
 |.dic _,_,_,_,_,_,e=>by cases e
 |.clo _ _,_,_,_,_,_,e=>by cases e
theorem j0:∀{ts us:List T} {vs:List V} {k:Bool},DenL D φ α H ts vs->DenL D φ α H us vs->eqL ts us=some k->k=true
 |[],[],_,k,_,_,e=>by simpa[eqL] using e.symm
 |[],_::_,_,k,h1,h2,e=>by
  have h1:_=[]:=h1
  obtain⟨_,_,h2,_⟩:=h2
  rw[h1] at h2;cases h2
 |_::_,[],_,k,h1,h2,e=>by
  have h2:_=[]:=h2
  obtain⟨_,_,h1,_⟩:=h1
  rw[h2] at h1;cases h1
 |t::ts,u::us,_,k,h1,h2,e=>by
  obtain⟨v,r,rfl,a1,b1⟩:=h1
  obtain⟨v',r',q,a2,b2⟩:=h2
  injection q with q1 q2
  subst q1 q2
  cases h:eqT t u with
  |none=>simp[eqL,h] at e
  |some x=>
   cases h':eqL ts us with
   |none=>simp[eqL,h,h'] at e
   |some y=>
    have e1:=jR a1 a2 h
    have e2:=j0 b1 b2 h'
    subst e1 e2
    simpa[eqL,h,h'] using e.symm
end
end
section
variable {X:Cx}{D:DP}{pins:List (Addr×Obj)}{s:Shared}{σ:St}{H:Hp}{φ α:List Addr}
theorem kO:∀{ts us:List T} {k:Bool},eqL ts us=some k->(∀j (h1:j<ts.length) (h2:j<us.length),∃b,eqT ts[j] us[j]=some b)/\
  k=((List.range (min ts.length us.length)).all (λj=>match ts[j]?,us[j]? with|some t,some u=>(eqT t u).getD false|_,_=>false)&&ts.length == us.length)
 |[],[],k,e=>by
  simp[eqL] at e;subst e
  exact⟨λj h1=>by simp at h1,by simp⟩
 |[],u::us,k,e=>by
  simp[eqL] at e;subst e
  exact⟨λj h1=>by simp at h1,by simp⟩
 |t::ts,[],k,e=>by
  simp[eqL] at e;subst e
  exact⟨λj h1 h2=>by simp at h2,by simp⟩
 |t::ts,u::us,k,e=>by
  cases h:eqT t u with
  |none=>simp[eqL,h] at e
  |some x=>
   cases h':eqL ts us with
   |none=>simp[eqL,h,h'] at e
   |some y=>
    obtain⟨g,ih⟩:=kO h'
    simp[eqL,h,h'] at e
    subst e
    refine⟨λj h1 h2=>?_,?_⟩
    ·cases j with
     |zero=>exact⟨x,h⟩
     |succ j=>exact g j (by simpa using h1) (by simpa using h2)
    ·rw[ih]
     have e1:min (t::ts).length (u::us).length=min ts.length us.length+1:=by simp[Nat.succ_min_succ]
     rw[e1,List.range_succ_eq_map,List.all_cons,List.all_map]
     simp only[List.getElem?_cons_zero,h,Option.getD_some,Function.comp_def,List.getElem?_cons_succ,List.length_cons]
     rw[Bool.and_assoc]
     congr 2
     simp
theorem in1_units(A:Around):A.in1.units=A.units+1:=by first|rfl|simp[Around.in1,Around.units]
theorem kI(I:Inv X pins σ H s){i:Int}{u:T}{v w:V}{a b:Value}{k:Bool}{A:Around}(h1:Den D φ α H (.int i) v)(h2:Den D φ α H u w)(r1:RelV v a)(r2:RelV w b)(e:eqT (.int i) u=some k)(hu:A.units+wx (.int i)+1<cLine):SeqAt.EqAt A s a b k:=by
 have h1:_=V.int i:=h1
 subst h1
 obtain⟨t1,rfl⟩:=r1
 cases u with
 |int j=>have h2:w=V.int j:=h2;subst h2;obtain⟨t2,rfl⟩:=r2;cases Option.some.inj e;exact SeqAt.EqAt.int_int _ _ _ _
 |bl j=>have h2:w=V.bl j:=h2;subst h2;cases r2;cases Option.some.inj e;exact SeqAt.EqAt.int_bool _ _ _
 |str j=>have h2:w=V.str j:=h2;subst h2;obtain⟨t2,rfl⟩:=r2;cases Option.some.inj e;exact SeqAt.EqAt.int_str _ _ _ _
 |non=>have h2:w=V.non:=h2;subst h2;cases r2;cases Option.some.inj e;exact SeqAt.EqAt.int_none _ _
 |tup ys=>obtain⟨c,xs,rfl,_,_,r,_⟩:=h2;cases r2;obtain⟨its,_,p,_⟩:=I.tuple (.inl r);cases Option.some.inj e;exact SeqAt.EqAt.int_tuple _ _ p (by omega)
 |lst ys=>obtain⟨c,xs,rfl,_,_,r,_⟩:=h2;cases r2;obtain⟨its,_,p,_⟩:=I.list (.inl r);cases Option.some.inj e;exact SeqAt.EqAt.int_list _ _ p.isList (by omega)
 |_=>cases e
theorem X8(I:Inv X pins σ H s){i:Bool}{u:T}{v w:V}{a b:Value}{k:Bool}{A:Around}(h1:Den D φ α H (.bl i) v)(h2:Den D φ α H u w)(r1:RelV v a)(r2:RelV w b)(e:eqT (.bl i) u=some k)(hu:A.units+wx (.bl i)+1<cLine):SeqAt.EqAt A s a b k:=by
 have h1:_=V.bl i:=h1
 subst h1
 cases r1
 cases u with
 |int j=>have h2:w=V.int j:=h2;subst h2;obtain⟨t2,rfl⟩:=r2;cases Option.some.inj e;exact SeqAt.EqAt.bool_int _ _ _
 |bl j=>have h2:w=V.bl j:=h2;subst h2;cases r2;cases Option.some.inj e;exact SeqAt.EqAt.bool_bool _ _
 |str j=>have h2:w=V.str j:=h2;subst h2;obtain⟨t2,rfl⟩:=r2;cases Option.some.inj e;exact SeqAt.EqAt.bool_str _ _ _
 |non=>have h2:w=V.non:=h2;subst h2;cases r2;cases Option.some.inj e;exact SeqAt.EqAt.bool_none _
 |tup ys=>obtain⟨c,xs,rfl,_,_,r,_⟩:=h2;cases r2;obtain⟨its,_,p,_⟩:=I.tuple (.inl r);cases Option.some.inj e;exact SeqAt.EqAt.bool_tuple _ p (by omega)
 |lst ys=>obtain⟨c,xs,rfl,_,_,r,_⟩:=h2;cases r2;obtain⟨its,_,p,_⟩:=I.list (.inl r);cases Option.some.inj e;exact SeqAt.EqAt.bool_list _ p.isList (by omega)
 |_=>cases e
theorem VF(I:Inv X pins σ H s){i:Str}{u:T}{v w:V}{a b:Value}{k:Bool}{A:Around}(h1:Den D φ α H (.str i) v)(h2:Den D φ α H u w)(r1:RelV v a)(r2:RelV w b)(e:eqT (.str i) u=some k)(hu:A.units+wx (.str i)+1<cLine):SeqAt.EqAt A s a b k:=by
 have h1:_=V.str i:=h1
 subst h1
 obtain⟨t1,rfl⟩:=r1
 cases u with
 |int j=>have h2:w=V.int j:=h2;subst h2;obtain⟨t2,rfl⟩:=r2;cases Option.some.inj e;exact SeqAt.EqAt.str_int _ _ _ _
 |bl j=>have h2:w=V.bl j:=h2;subst h2;cases r2;cases Option.some.inj e;exact SeqAt.EqAt.str_bool _ _ _
 |str j=>have h2:w=V.str j:=h2;subst h2;obtain⟨t2,rfl⟩:=r2;cases Option.some.inj e;exact SeqAt.EqAt.str_str _ _ _ _
 |non=>have h2:w=V.non:=h2;subst h2;cases r2;cases Option.some.inj e;exact SeqAt.EqAt.str_none _ _
 |tup ys=>obtain⟨c,xs,rfl,_,_,r,_⟩:=h2;cases r2;obtain⟨its,_,p,_⟩:=I.tuple (.inl r);cases Option.some.inj e;exact SeqAt.EqAt.str_tuple _ _ p (by omega)
 |lst ys=>obtain⟨c,xs,rfl,_,_,r,_⟩:=h2;cases r2;obtain⟨its,_,p,_⟩:=I.list (.inl r);cases Option.some.inj e;exact SeqAt.EqAt.str_list _ _ p.isList (by omega)
 |_=>cases e
theorem WQ(I:Inv X pins σ H s){u:T}{v w:V}{a b:Value}{k:Bool}{A:Around}(h1:Den D φ α H .non v)(h2:Den D φ α H u w)(r1:RelV v a)(r2:RelV w b)(e:eqT .non u=some k)(hu:A.units+wx .non+1<cLine):SeqAt.EqAt A s a b k:=by
 have h1:_=V.non:=h1
 subst h1
 cases r1
 cases u with
 |int j=>have h2:w=V.int j:=h2;subst h2;obtain⟨t2,rfl⟩:=r2;cases Option.some.inj e;exact SeqAt.EqAt.none_int _ _
 |bl j=>have h2:w=V.bl j:=h2;subst h2;cases r2;cases Option.some.inj e;exact SeqAt.EqAt.none_bool _
 |str j=>have h2:w=V.str j:=h2;subst h2;obtain⟨t2,rfl⟩:=r2;cases Option.some.inj e;exact SeqAt.EqAt.none_str _ _
 |non=>have h2:w=V.non:=h2;subst h2;cases r2;cases Option.some.inj e;exact SeqAt.EqAt.same _
 |tup ys=>obtain⟨c,xs,rfl,_,_,r,_⟩:=h2;cases r2;obtain⟨its,_,p,_⟩:=I.tuple (.inl r);cases Option.some.inj e;exact SeqAt.EqAt.none_tuple p (by omega)
 |lst ys=>obtain⟨c,xs,rfl,_,_,r,_⟩:=h2;cases r2;obtain⟨its,_,p,_⟩:=I.list (.inl r);cases Option.some.inj e;exact SeqAt.EqAt.none_list p.isList (by omega)
 |_=>cases e
theorem Z9(I:Inv X pins σ H s){ts:List T}{u:T}{v0 w:V}{a b:Value}{k:Bool}{A:Around}(hn:∀us,u≠.tup us)(h1:Den D φ α H (.tup ts) v0)(h2:Den D φ α H u w)(r1:RelV v0 a)(r2:RelV w b)(e:eqT (.tup ts) u=some k)(hu:A.units+wx (.tup ts)+1<cLine):SeqAt.EqAt A s a b k:=by
 cases u with
 |tup us=>exact absurd rfl (hn us)
 |lst us=>
  obtain⟨c,xs,rfl,_,_,r,l⟩:=h1
  obtain⟨d,ys,rfl,_,_,r',l'⟩:=h2
  cases r1;cases r2
  obtain⟨_,_,p,_⟩:=I.tuple (.inl r)
  obtain⟨_,_,p',_⟩:=I.list (.inl r')
  cases Option.some.inj e
  exact SeqAt.EqAt.tuple_list p p'.isList (by omega)
 |int j=>have h2:w=V.int j:=h2;subst h2;obtain⟨t2,rfl⟩:=r2;obtain⟨c,xs,rfl,_,_,r,_⟩:=h1;cases r1;obtain⟨its,_,p,_⟩:=I.tuple (.inl r);cases Option.some.inj e;exact SeqAt.EqAt.tuple_int _ _ p (by omega)
 |bl j=>have h2:w=V.bl j:=h2;subst h2;cases r2;obtain⟨c,xs,rfl,_,_,r,_⟩:=h1;cases r1;obtain⟨its,_,p,_⟩:=I.tuple (.inl r);cases Option.some.inj e;exact SeqAt.EqAt.tuple_bool _ p (by omega)
 |str j=>have h2:w=V.str j:=h2;subst h2;obtain⟨t2,rfl⟩:=r2;obtain⟨c,xs,rfl,_,_,r,_⟩:=h1;cases r1;obtain⟨its,_,p,_⟩:=I.tuple (.inl r);cases Option.some.inj e;exact SeqAt.EqAt.tuple_str _ _ p (by omega)
 |non=>have h2:w=V.non:=h2;subst h2;cases r2;obtain⟨c,xs,rfl,_,_,r,_⟩:=h1;cases r1;obtain⟨its,_,p,_⟩:=I.tuple (.inl r);cases Option.some.inj e;exact SeqAt.EqAt.tuple_none p (by omega)
 |_=>cases e
theorem Zo(I:Inv X pins σ H s){ts:List T}{u:T}{v0 w:V}{a b:Value}{k:Bool}{A:Around}(hn:∀us,u≠.lst us)(h1:Den D φ α H (.lst ts) v0)(h2:Den D φ α H u w)(r1:RelV v0 a)(r2:RelV w b)(e:eqT (.lst ts) u=some k)(hu:A.units+wx (.lst ts)+1<cLine):SeqAt.EqAt A s a b k:=by
 cases u with
 |lst us=>exact absurd rfl (hn us)
 |tup us=>
  obtain⟨c,xs,rfl,_,_,r,l⟩:=h1
  obtain⟨d,ys,rfl,_,_,r',l'⟩:=h2
  cases r1;cases r2
  obtain⟨_,_,p,_⟩:=I.list (.inl r)
  obtain⟨_,_,p',_⟩:=I.tuple (.inl r')
  cases Option.some.inj e
  exact SeqAt.EqAt.list_tuple p.isList p' (by omega)
 |int j=>have h2:w=V.int j:=h2;subst h2;obtain⟨t2,rfl⟩:=r2;obtain⟨c,xs,rfl,_,_,r,_⟩:=h1;cases r1;obtain⟨its,_,p,_⟩:=I.list (.inl r);cases Option.some.inj e;exact SeqAt.EqAt.list_int _ _ p.isList (by omega)
 |bl j=>have h2:w=V.bl j:=h2;subst h2;cases r2;obtain⟨c,xs,rfl,_,_,r,_⟩:=h1;cases r1;obtain⟨its,_,p,_⟩:=I.list (.inl r);cases Option.some.inj e;exact SeqAt.EqAt.list_bool _ p.isList (by omega)
 |str j=>have h2:w=V.str j:=h2;subst h2;obtain⟨t2,rfl⟩:=r2;obtain⟨c,xs,rfl,_,_,r,_⟩:=h1;cases r1;obtain⟨its,_,p,_⟩:=I.list (.inl r);cases Option.some.inj e;exact SeqAt.EqAt.list_str _ _ p.isList (by omega)
 |non=>have h2:w=V.non:=h2;subst h2;cases r2;obtain⟨c,xs,rfl,_,_,r,_⟩:=h1;cases r1;obtain⟨its,_,p,_⟩:=I.list (.inl r);cases Option.some.inj e;exact SeqAt.EqAt.list_none p.isList (by omega)
 |_=>cases e
noncomputable def EqN (D:DP)(φ α:List Addr)(H:Hp)(s:Shared)(n:Nat):Prop:=∀(t u:T) (v w:V) (a b:Value) (k:Bool) (A:Around),wx t<n->Den D φ α H t v->Den D φ α H u w->RelV v a->RelV w b->eqT t u=some k->A.units+wx t+1<cLine->SeqAt.EqAt A s a b k
theorem qD{n:Nat}(ih:EqN D φ α H s n):∀{ts us:List T} {xs ys:List V} {its its2:List Value} {A:Around},zV ts<n->DenL D φ α H ts xs->DenL D φ α H us ys->Vals xs its->Vals ys its2->A.units+zV ts+1<cLine->
  ∀(j:Nat) (h1:j<its.length) (h2:j<its2.length),(∀(g1:j<ts.length) (g2:j<us.length),∃b,eqT ts[j] us[j]=some b)->SeqAt.EqAt A s its[j] its2[j] (match ts[j]?,us[j]? with|some t,some u=>(eqT t u).getD false|_,_=>false)
 |[],_,xs,_,its,_,A,_,l,_,rv,_,_,j,h1,_,_=>by
  have l:xs=[]:=l
  subst l
  cases rv
  simp at h1
 |t::ts,us,xs,ys,its,its2,A,hd,l,l',rv,rv',hu,j,h1,h2,g=>by
  obtain⟨v,r,rfl,d1,l⟩:=l
  cases rv with
  | @cons _ u0 _ us0 r0 rv=>
  cases us with
  |nil=>
   have l':ys=[]:=l'
   subst l'
   cases rv'
   simp at h2
  |cons u us=>
   obtain⟨w,r',rfl,d2,l'⟩:=l'
   cases rv' with
   | @cons _ u0' _ us0' r0' rv'=>
   simp only[zV] at hu hd
   cases j with
   |zero=>
    obtain⟨b,hb⟩:=g (by simp) (by simp)
    have hb':eqT t u=some b:=by simpa using hb
    simp only[List.getElem?_cons_zero,hb',Option.getD_some,List.getElem_cons_zero]
    exact ih _ _ _ _ _ _ _ _ (by omega) d1 d2 r0 r0' hb' (by omega)
   |succ j=>
    simp only[List.getElem?_cons_succ,List.getElem_cons_succ]
    exact qD ih (by omega) l l' rv rv' (by omega) j (by simpa using h1) (by simpa using h2) λg1 g2=>by
     obtain⟨b,hb⟩:=g (by simpa using g1) (by simpa using g2)
     exact⟨b,by simpa using hb⟩
theorem y3(I:Inv X pins σ H s){n:Nat}(ih:EqN D φ α H s n){ts us:List T}{xs ys:List V}{c d:Addr}{k:Bool}{A:Around}(hd:zV ts<n)(l:DenL D φ α H ts xs)(l':DenL D φ α H us ys)(r:Rd H c (.tup xs))(r':Rd H d (.tup ys))(e:eqL ts us=some k)(hu:A.units+zV ts+2<cLine):SeqAt.RcAt A s (.ref c) (.ref d) k:=by
 obtain⟨its,rv,p,_⟩:=I.tuple (.inl r)
 obtain⟨its2,rv',p',_⟩:=I.tuple (.inl r')
 obtain⟨g,rfl⟩:=kO e
 have h1:ts.length=its.length:=l.length.trans rv.length
 have h2:us.length=its2.length:=l'.length.trans rv'.length
 have:=SeqAt.RcAt.tuples (A:=A) (e:=λj=>match ts[j]?,us[j]? with|some t,some u=>(eqT t u).getD false|_,_=>false) p p' (by omega) λj q1 q2=>by
  have:=qD (A:=A.in1) ih hd l l' rv rv' (by rw[in1_units];omega) j (by simpa using q1) (by simpa using q2) λg1 g2=>g j g1 g2
  simpa using this
 simpa[h1,h2] using this
theorem xD(I:Inv X pins σ H s){n:Nat}(ih:EqN D φ α H s n){ts us:List T}{xs ys:List V}{c d:Addr}{k:Bool}{A:Around}(hd:zV ts<n)(l:DenL D φ α H ts xs)(l':DenL D φ α H us ys)(r:Rd H c (.lst xs))(r':Rd H d (.lst ys))(e:eqL ts us=some k)(hu:A.units+zV ts+2<cLine):SeqAt.RcAt A s (.ref c) (.ref d) k:=by
 obtain⟨its,rv,p,_⟩:=I.list (.inl r)
 obtain⟨its2,rv',p',_⟩:=I.list (.inl r')
 obtain⟨g,rfl⟩:=kO e
 have h1:ts.length=its.length:=l.length.trans rv.length
 have h2:us.length=its2.length:=l'.length.trans rv'.length
 by_cases hl:ts.length=us.length
 ·have:=SeqAt.RcAt.lists (A:=A) (e:=λj=>match ts[j]?,us[j]? with|some t,some u=>(eqT t u).getD false|_,_=>false) p.isList p'.isList (by simp;omega) (by omega) λj q1 q2=>by
   have:=qD (A:=A.in1) ih hd l l' rv rv' (by rw[in1_units];omega) j (by simpa using q1) (by simpa using q2) λg1 g2=>g j g1 g2
   simpa using this
  have e2:min ts.length us.length=its.length:=by omega
  have e3:(ts.length == us.length)=true:=by simpa using hl
  rw[e2,e3,Bool.and_true]
  simpa using this
 ·have e3:(ts.length == us.length)=false:=by simpa using hl
  rw[e3,Bool.and_false]
  exact SeqAt.RcAt.lists_lengths p.isList p'.isList (by simp;omega) (by omega)
theorem yK(I:Inv X pins σ H s):∀n,EqN D φ α H s n
 |0=>λ_ _ _ _ _ _ _ _ hn=>absurd hn (by omega)
 |n+1=>λt u v w a b k A hn h1 h2 r1 r2 e hu=>by
  have ih:=yK I n
  cases t with
  |int i=>exact kI I h1 h2 r1 r2 e hu
  |bl i=>exact X8 I h1 h2 r1 r2 e hu
  |str i=>exact VF I h1 h2 r1 r2 e hu
  |non=>exact WQ I h1 h2 r1 r2 e hu
  |tup ts=>
   cases u with
   |tup us=>
    have hs:=λ(q:w=v)=>jR h1 (q▸h2) e
    obtain⟨c,xs,rfl,_,_,r,l⟩:=h1
    obtain⟨d,ys,rfl,_,_,r',l'⟩:=h2
    cases r1;cases r2
    by_cases hcd:c=d
    ·subst hcd
     rw[hs rfl]
     exact SeqAt.EqAt.same _
    ·refine SeqAt.EqAt.of_refs hcd ?_
     exact y3 I ih (by simp only[wx] at hn;omega) l l' r r' e (by simp only[wx] at hu;omega)
   |_=>exact Z9 I (by intro _ z;cases z) h1 h2 r1 r2 e hu
  |lst ts=>
   cases u with
   |lst us=>
    have hs:=λ(q:w=v)=>jR h1 (q▸h2) e
    obtain⟨c,xs,rfl,_,_,r,l⟩:=h1
    obtain⟨d,ys,rfl,_,_,r',l'⟩:=h2
    cases r1;cases r2
    by_cases hcd:c=d
    ·subst hcd
     rw[hs rfl]
     exact SeqAt.EqAt.same _
    ·refine SeqAt.EqAt.of_refs hcd ?_
     exact xD I ih (by simp only[wx] at hn;omega) l l' r r' e (by simp only[wx] at hu;omega)
   |_=>exact Zo I (by intro _ z;cases z) h1 h2 r1 r2 e hu
  |_=>cases e
theorem WL(I:Inv X pins σ H s){ts us:List T}{xs ys:List V}{c d:Addr}{k:Bool}{A:Around}(l:DenL D φ α H ts xs)(l':DenL D φ α H us ys)(r:Rd H c (.tup xs))(r':Rd H d (.tup ys))(e:eqL ts us=some k)(hu:A.units+zV ts+2<cLine):SeqAt.RcAt A s (.ref c) (.ref d) k:=y3 I (yK I _) (Nat.lt_succ_self _) l l' r r' e hu
theorem Vm(I:Inv X pins σ H s){ts us:List T}{xs ys:List V}{c d:Addr}{k:Bool}{A:Around}(l:DenL D φ α H ts xs)(l':DenL D φ α H us ys)(r:Rd H c (.lst xs))(r':Rd H d (.lst ys))(e:eqL ts us=some k)(hu:A.units+zV ts+2<cLine):SeqAt.RcAt A s (.ref c) (.ref d) k:=xD I (yK I _) (Nat.lt_succ_self _) l l' r r' e hu
theorem kQ(I:Inv X pins σ H s):∀{ts us:List T} {xs ys:List V} {its its2:List Value} {A:Around},DenL D φ α H ts xs->DenL D φ α H us ys->Vals xs its->Vals ys its2->A.units+zV ts+1<cLine->
  ∀(j:Nat) (h1:j<its.length) (h2:j<its2.length),(∀(g1:j<ts.length) (g2:j<us.length),∃b,eqT ts[j] us[j]=some b)->SeqAt.EqAt A s its[j] its2[j] (match ts[j]?,us[j]? with|some t,some u=>(eqT t u).getD false|_,_=>false):=λl l' rv rv' hu=>qD (yK I _) (Nat.lt_succ_self _) l l' rv rv' hu
theorem WW(I:Inv X pins σ H s){ts us:List T}{xs ys:List V}{c d:Addr}{k:Bool}{A:Around}(l:DenL D φ α H ts xs)(l':DenL D φ α H us ys)(r:Rd H c (.tup xs))(r':Rd H d (.tup ys))(e:eqL ts us=some k)(hu:A.units+zV ts+2<cLine):SeqAt.RcNeAt A s (.ref c) (.ref d) (!k):=by
 obtain⟨its,rv,p,_⟩:=I.tuple (.inl r)
 obtain⟨its2,rv',p',_⟩:=I.tuple (.inl r')
 obtain⟨g,rfl⟩:=kO e
 have h1:ts.length=its.length:=l.length.trans rv.length
 have h2:us.length=its2.length:=l'.length.trans rv'.length
 have:=SeqAt.RcNeAt.tuples (A:=A) (e:=λj=>match ts[j]?,us[j]? with|some t,some u=>(eqT t u).getD false|_,_=>false) p p' (by omega) λj q1 q2=>by
  have:=kQ (A:=A.in1) I l l' rv rv' (by rw[in1_units];omega) j (by simpa using q1) (by simpa using q2) λg1 g2=>g j g1 g2
  simpa using this
 simpa[h1,h2] using this
theorem WB(I:Inv X pins σ H s){ts us:List T}{xs ys:List V}{c d:Addr}{k:Bool}{A:Around}(l:DenL D φ α H ts xs)(l':DenL D φ α H us ys)(r:Rd H c (.lst xs))(r':Rd H d (.lst ys))(e:eqL ts us=some k)(hu:A.units+zV ts+2<cLine):SeqAt.RcNeAt A s (.ref c) (.ref d) (!k):=by
 obtain⟨its,rv,p,_⟩:=I.list (.inl r)
 obtain⟨its2,rv',p',_⟩:=I.list (.inl r')
 obtain⟨g,rfl⟩:=kO e
 have h1:ts.length=its.length:=l.length.trans rv.length
 have h2:us.length=its2.length:=l'.length.trans rv'.length
 by_cases hl:ts.length=us.length
 ·have:=SeqAt.RcNeAt.lists (A:=A) (e:=λj=>match ts[j]?,us[j]? with|some t,some u=>(eqT t u).getD false|_,_=>false) p.isList p'.isList (by simp;omega) (by omega) λj q1 q2=>by
   have:=kQ (A:=A.in1) I l l' rv rv' (by rw[in1_units];omega) j (by simpa using q1) (by simpa using q2) λg1 g2=>g j g1 g2
   simpa using this
  have e2:min ts.length us.length=its.length:=by omega
  have e3:(ts.length == us.length)=true:=by simpa using hl
  rw[e2,e3,Bool.and_true]
  simpa using this
 ·have e3:(ts.length == us.length)=false:=by simpa using hl
  rw[e3,Bool.and_false]
  exact SeqAt.RcNeAt.lists_lengths p.isList p'.isList (by simp;omega) (by omega)
end
end
noncomputable def spM (D:DP)(f:Fn):Sp:=λvs H Q E=>∃φ α ts μ,DenL D φ α H ts vs/\MRel D φ α H μ/\Post D (wOf E) φ α H [] (λt _ α' H'=>∀v,Den D φ α' H' t v->Q v H') (f ts μ)
noncomputable def spN (D:DP)(n:Nat)(f:Fn):Sp:=λvs H Q E=>vs.length=n/\spM D f vs H Q E
noncomputable def yY (D:DP)(t:Nat)(u:Value):Prop:=
 (t=0/\u=.type "NoneType")\/(t=1/\u=.type "bool")\/(t=2/\u=.type "int")\/(t=3/\u=.type "str")\/(t=4/\u=.type "tuple")\/(t=5/\u=.type "list")\/(∃C,D.adr t=some C/\u=.ref C)\/(t=6/\u=.type "dict")\/(∃C,D.cad t=some C/\u=.ref C)
noncomputable def jZ(mg:Str->Option Value)(c:Str)(u:Value):Prop:=mg c=some u\/(mg c=none/\bootBuiltins c=some u/\c≠"__name__")
abbrev V9(X:Cx)(c:Str)(u:Value):Prop:=jZ X.mg c u
noncomputable def ClsV(v:V)(u:Value):Prop:=(∃C,v=.ref C/\u=.ref C)\/∃n,v=.ty n/\u=.type n
theorem ClsV.rel{v:V}{u:Value}(h:ClsV v u):L2.RelV v u:=by
 rcases h with⟨C,rfl,rfl⟩|⟨n,rfl,rfl⟩<;>rfl
theorem ClsV.only{v:V}{u u':Value}(h:ClsV v u)(r:L2.RelV v u'):u'=u:=by
 rcases h with⟨C,rfl,rfl⟩|⟨n,rfl,rfl⟩<;>exact r
structure XCls(K:PySem.W.Frag)(C:Addr):Prop where
 ga:PySem.W.findIn K (.ref C) "__getattribute__"=some (some (.builtin "BaseException.__getattribute__"))
 hk:PySem.W.findIn K (.ref C) "__getattr__"=some none
 fi:PySem.W.findIn K (.ref C) "__class__"=some (some (.builtin "object.__class__"))
 sp:PySem.W.specialIn K (.builtin "object.__class__") "__get__"=some (some (.builtin "getset_descriptor.__get__"))
 tk:PySem.W.takesIn K (.builtin "object.__class__")=some true
 ob:PySem.W.mroIn K C (.type "object")=some true
 bx:PySem.W.mroIn K C (.type "BaseException")=some true
 cl:(PySem.W.clsIn K C).isSome=true
structure OCls(K:PySem.W.Frag)(C:Addr):Prop where
 cl:Cls K C
 fi:PySem.W.findIn K (.ref C) "__class__"=some (some (.builtin "object.__class__"))
 sp:PySem.W.specialIn K (.builtin "object.__class__") "__get__"=some (some (.builtin "getset_descriptor.__get__"))
 tk:PySem.W.takesIn K (.builtin "object.__class__")=some true
 ob:PySem.W.mroIn K C (.type "object")=some true
abbrev qm:List Value:=[.type "ValueError",.type "Exception",.type "BaseException",.type "object"]
noncomputable def FOk (D:DP)(P:Program)(w:World)(K:PySem.W.Frag)(mg:Str->Option Value)(base:Heap)(k:Nat)(fa:Addr)(f:Fn):Prop:=
 ∃fd ps kk,PySem.W.keepIn K (.ref fa)=true/\Binds K fd ps []/\kk<=k/\FnOk P w K mg base (CX1 P w) kk fa fd ps (spN D ps.length f)/\∀ts μ K Z,f ts μ K Z->ts.length=ps.length
structure RoomH(k:Nat)(A:Around):Prop where
 dp:A.depth+3 * k+5<recursionLimit
 un:A.units+16 * k+200<cLine
theorem RoomH.units{k:Nat}{A:Around}(r:RoomH k A):A.units+64<cLine:=by have:=r.un;omega
noncomputable def z0I(P:Program)(w:World)(K:PySem.W.Frag)(mg:Str->Option Value)(base:Heap)(k:Nat)(f:Addr)(fd:FuncData)(ps:List Str)(sp:Sp):Prop:=
 ∀(A:Around) (outer:List Env) (s:Shared) (H:Hp) (args:Args) (us:List Value) (vs:List V) (Q:VK),RoomH k A->Env0 P w K mg base A outer s H->BindsTo s fd args (ps.zip us)->Vals vs us->sp vs H Q (λ_ _ _=>False)->
  codeAny (model P w) A (.call (.ref f) args) (CR (λ_ _ _ _ _ _=>False) outer P w H s Q (λ_ _ _=>False)) s
noncomputable def z1W (x C:Addr):Heap->Prop:=λh=>∃t,h.get? x=some {cls:=.ref C,data:=.fields #[.ref t,.none,.none,.none,.bool false,.none]}
noncomputable def z18(x C dx:Addr):Heap->Prop:=λh=>∃t,h.get? x=some {cls:=.ref C,dict:=some dx,data:=.fields #[.ref t,.none,.none,.none,.bool false,.none]}
structure XIn(K:PySem.W.Frag)(C HE fI:Addr)(fl:Str):Prop where
 cls:∃N nm q bs hd sn sub ab col dd k0 k1 k2 k3 k5,K.lookup C=some (excClassObj nm q C N bs (.ref HE::qm) hd sn sub ab col dd k0 k1 k2 k3 k5 "ValueError.__new__")/\PySem.W.nsOkIn K N=true/\PySem.W.nsIn K N "__init__"=some (some (.ref fI))
 he:PySem.W.excIn K HE qm "ValueError.__new__"=true
 fn:PySem.W.typeIn K (.ref fI)=some (.type "function")
 sa:PySem.W.findIn K (.ref C) "__setattr__"=some (some (.builtin "object.__setattr__"))
 no:PySem.W.findIn K (.ref C) fl=some none
 dct:PySem.W.hasDictIn K C=true
 kp:PySem.W.keepIn K (.ref C)=true
noncomputable def spI (C:Addr)(fl:Str):Sp:=λvs H Q E=>∃(x:Addr) (i:Int),vs=[.ref x,.int i]/\i.natAbs.log2<1920/\H x=some (.ext (z1W x C))/\∀dx,H dx=none->dx≠x->Q .non (upd (upd H x (.ext (z18 x C dx))) dx (.xd [(fl,.int i)]))
noncomputable def z1v(y:Str)(sc:Scope):Bool:=(sc.kind == .function)&&!sc.isCoroutine&&!sc.isGenerator&&sc.names.all (λy=>y.2 != .free)&&(sc.names.lookup y == some .local)&&y != ("__debug__":Str)&&y != ("__classdict__":Str)
noncomputable def z0P(a c:Addr)(qn:Str):Heap->Prop:=λh=>∃(y:Str) (pa:Pos) (kk:Nat) (bp:Pos) (sc:Scope) (pm ctv:Value),z1v y sc=true/\h.get? a=some (PySem.W.kla_obj "<lambda>" qn ⟨[],[⟨y,none,pa⟩],none,[],[],none,[]⟩ (.Constant .none kk bp) sc [] pm c ctv)
noncomputable def z1c (t:T):Prop:=t=.clo 0 [.clo 100 []]\/t=.clo 1 []\/t=.clo 2 [.clo 101 []]
noncomputable def z1Z (D:DP)(P:Program)(w:World)(K:PySem.W.Frag)(mg:Str->Option Value)(base:Heap)(k:Nat):Prop:=
 ∀(t:T) (φ α:List Addr) (H:Hp) (v:V),z1c t->Den D φ α H t v->∃a kk,v=.ref a/\kk<=k/\∀(A:Around) (outer:List Env) (s:Shared),Env0 P w K mg base A outer s H->PySem.W.FnAt a s.heap/\(Room kk A->∀(u:Value) (x:V) (Q:VK) (t:T) (φ α:List Addr) (μ:Mem),RelV x u->Den D φ α H t x->MRel D φ α H μ->(∀α' H',Stp α H α' H'->MRel D φ α' H' μ->Q .non H')->
  codeAny (model P w) A (.call (.ref a) ⟨[u],[]⟩) (CR (CX1 P w) outer P w H s Q (λ_ _ _=>False)) s)
noncomputable def z1t(a c:Addr)(l:LamD)(cl:List (Str×Addr)):Heap->Prop:=λh=>∃(pa:Pos) (pm ctv:Value),h.get? a=some (PySem.W.kla_obj "<lambda>" l.qn ⟨[],[⟨l.y,none,pa⟩],none,[],[],none,[]⟩ l.body l.sc cl pm c ctv)
noncomputable def z1I(fr:List Str)(cl:List (Str×Addr))(cs:List Addr):Prop:=fr.map (λx=>cl.lookup x)=cs.map some/\cs.Nodup/\∀x a,cl.lookup x=some a->x∈fr
noncomputable def z1g(D:DP)(P:Program)(w:World)(K:PySem.W.Frag)(mg:Str->Option Value)(base:Heap)(k:Nat)(ls:List LamD):Prop:=
 ∀(j:Nat) (l:LamD) (ts:List T) (φ α:List Addr) (H:Hp) (v:V),ls[j]?=some l->Den D φ α H (z1G j l.jt ts) v->∃(a:Addr) (kk:Nat),v=.ref a/\kk<=k/\∀(A:Around) (outer:List Env) (s:Shared),Env0 P w K mg base A outer s H->PySem.W.FnAt a s.heap/\(Room kk A->
  ∀(u:Value) (x:V) (Q:VK) (t:T) (μ:Mem) (K0:T->Mem->Prop),RelV x u->Den D φ α H t x->MRel D φ α H μ->l.g (some t::ts.map some) μ K0 (λ_ _ _=>False)->(∀t' μ',K0 t' μ'->∀α' H' v',Stp α H α' H'->MRel D φ α' H' μ'->Den D φ α' H' t' v'->Q v' H')->
  codeAny (model P w) A (.call (.ref a) ⟨[u],[]⟩) (CR (CX1 P w) outer P w H s Q (λ_ _ _=>False)) s)
structure KapMk(D:DP)(ls:List LamD):Prop where
 tb:∀(j:Nat) (l:LamD),ls[j]?=some l->∃P' pos,D.tabs l.jt=some (P',pos,l.qn)
 fn:∀(j:Nat) (l:LamD) (a c:Addr) (cl:List (Str×Addr)) (cs:List Addr),ls[j]?=some l->z1I l.fr cl cs->D.clo (300+j) a (some (.ext (z1t a c l cl))) (.ref c::cs.map V.ref)
 ce:∀c (o:Obj) u x ob,o.data=.cell (some u)->RelV x u->D.clo 200 c (some (.frz o ob)) [x]
 co:∀j P' pos qn c,D.tabs j=some (P',pos,qn)->D.clo (100+j) c (some (.ext (qY c qn))) []
noncomputable def GlOkM(D:DP)(P:Program)(w:World)(K:PySem.W.Frag)(mg:Str->Option Value)(base:Heap)(k:Nat)(x:Str):GM->Prop
 |.fn f=>∃fa,mg x=some (.ref fa)/\FOk D P w K mg base k fa f
 |.fnh nm f=>∃fa,mg nm=some (.ref fa)/\∃fd ps kk,PySem.W.keepIn K (.ref fa)=true/\Binds K fd ps []/\kk<=k/\z0I P w K mg base kk fa fd ps (spN D ps.length f)/\∀ts μ K Z,f ts μ K Z->ts.length=ps.length
 |.met c nm f=>∃C fI fd ps kk,D.cad c=some C/\Cls K C/\Meth K C nm fI/\(∀i,D.fn i≠some nm)/\Binds K fd ps []/\kk<=k/\FnOk P w K mg base (CX1 P w) kk fI fd ps (spN D ps.length f)/\∀ts μ K Z,f ts μ K Z->ts.length=ps.length
 |.mk c _ f=>∃C fI fd ps kk,D.cad c=some C/\mg x=some (.ref C)/\Mk K C fI/\Binds K fd ps []/\kk+1<=k/\FnOk P w K mg base (CX1 P w) kk fI fd ps (spN D ps.length f)/\∀ts μ K Z,f ts μ K Z->ts.length=ps.length
 |.cst t=>∃u v,mg x=some u/\RelV v u/\∀φ α H,Den D φ α H t v
 |.xcl c=>∃C,D.adr c=some C/\mg x=some (.ref C)/\PySem.W.excIn K C qm "ValueError.__new__"=true
 |.xcf c _=>∃C,D.adr c=some C/\mg x=some (.ref C)
 |.xin c f nm fl=>∃C HE fI fd ps kk,D.adr c=some C/\mg nm=some (.ref C)/\D.fn f=some fl/\XIn K C HE fI fl/\Binds K fd ps []/\kk+1<=k/\FnOk P w K mg base (CX1 P w) kk fI fd ps (spI C fl)
 |.mkd c nm n f=>∃C fI fd ps kk,D.cad c=some C/\mg nm=some (.ref C)/\Mk K C fI/\Binds K fd ps [.none]/\kk+1<=k/\FnOk P w K mg base (CX1 P w) kk fI fd ps (spN D ps.length f)/\(∀ts μ K Z,f ts μ K Z->ts.length=ps.length)/\ps.length=n+2
 |.metd c nm n d f=>∃C fI fd ps kk du dv,D.cad c=some C/\Cls K C/\Meth K C nm fI/\(∀i,D.fn i≠some nm)/\Binds K fd ps [du]/\RelV dv du/\(∀φ α H,Den D φ α H d dv)/\kk<=k/\FnOk P w K mg base (CX1 P w) kk fI fd ps (spN D ps.length f)/\(∀ts μ K Z,f ts μ K Z->ts.length=ps.length)/\ps.length=n+2
 |.kpr=>z1Z D P w K mg base k/\∀j P' pos qn,j<2->D.tabs j=some (P',pos,qn)->∀a c,D.clo (2 * j) a (some (.ext (z0P a c qn))) [.ref c]/\D.clo (100+j) c (some (.ext (qY c qn))) []
 |.kap ls=>z1g D P w K mg base k ls/\KapMk D ls
 |.none=>mg x=none
 |.bad=>True
abbrev z0Y(D:DP)(X:Cx)(k:Nat)(x:Str)(g:GM):Prop:=GlOkM D X.prog X.w X.K X.mg X.base k x g
structure Cn where
 N:List Str
 G:List Str
 calm:Bool
 gl:Str->GM
 cls:List (Str×Nat)
 fld:List (Str×Nat)
 U:List Str
 cel:List Str
 own:List Str
 lam:Option (Nat×List Pos):=none
 fz:List Str:=[]
noncomputable def Cn.sto(Γ:Cn):List Str:=Γ.N.filter λx=>!Γ.fz.contains x
noncomputable def Cn.look(Γ:Cn)(x:Str):GM:=if Γ.G.contains x then Γ.gl x else .bad
noncomputable def LamOk(D:DP)(mg:Str->Option Value)(base:Heap)(code:Value)(qual:Str)(k:Nat)(l:Option (Nat×List Pos)):Prop:=∀j poss,l=some (j,poss)->2<=k/\∃c P,code=.ref c/\PySem.W.CodeHd base c P/\base.BuiltinsAt mg P/\D.tabs j=some (P,poss,qual++"<lambda>")
theorem LamOk.no{D:DP}{mg:Str->Option Value}{base:Heap}{code:Value}{qual:Str}{k:Nat}{l:Option (Nat×List Pos)}(h:l=none):LamOk D mg base code qual k l:=λj pos e=>by rw[h] at e;cases e
structure Ck(D:DP)(W:XW)(Γ:Cn)(X:Cx)(k:Nat):Prop where
 hK:X.K=D.K
 hN:X.N=Γ.N
 nd:Γ.N.Nodup
 vis:∀x∈Γ.N,Vis X.env.scope x
 dbg:∀x∈Γ.N,(x == ("__debug__":Str))=false/\(x == ("__classdict__":Str))=false
 dbG:∀x∈Γ.G,(x == ("__debug__":Str))=false
 glb:∀x∈Γ.G,Gl X x
 glo:∀x∈Γ.G,z0Y D X k x (Γ.gl x)
 glU:∀x∈Γ.U,z0Y D X k x (Γ.gl x)/\(x == ("__debug__":Str))=false
 cel:∀x∈Γ.cel,X.env.kindOf x=some .cell\/X.env.kindOf x=some .free
 isi:∀t x c,(x,c)∈Γ.cls->∀u v,yY D t u->V9 X x v->PySem.W.kitOne X.K u v=some (wj t c)
 fld:∀c C x f,D.cad c=some C->(x,f)∈Γ.fld->D.fn f=some x/\Cls X.K C/\NoAttr X.K C x
 xcx:∀c C,D.adr c=some C->XCls X.K C
 ocx:∀c C,D.cad c=some C->OCls X.K C
 clv:∀x c,(x,c)∈Γ.cls->∃u v,V9 X x u/\ClsV v u
 clm:Γ.calm=true->X.calm=true
 rom:Γ.calm=true->Room k X.A
 rmh:RoomH k X.A
 xe:∀e s,XP X W e s->X.xe e s
 frm:∃e0 out L,Frm X e0 out L
 lam:LamOk D X.mg X.base X.env.code X.env.qual k Γ.lam
 kfz:Γ.lam.isSome=true->∀x∈Γ.fz,X.fn x=false/\∀c,X.env.cells.lookup x=some c->X.s₀.heap.objs.size<=c
theorem Ck.unt{D:DP}{W:XW}{Γ:Cn}{X:Cx}{k:Nat}(C:Ck D W Γ X k):X.A.units+64<cLine:=C.rmh.units
theorem qx:∀{N:List Str} {x:Str} {i:Nat},idx N x=some i->N[i]?=some x
 |[],_,_,h=>by simp[idx] at h
 |y::r,x,i,h=>by
  simp only[idx] at h
  split at h
  ·rename_i e;cases h;simp[e]
  ·cases q:idx r x with
   |none=>rw[q] at h;cases h
   |some j=>rw[q] at h;cases h;simpa using qx q
theorem qf{N:List Str}{x:Str}{i:Nat}(h:idx N x=some i):x∈N:=List.mem_of_getElem? (qx h)
section
variable {X:Cx}{D:DP}{W:XW}{Γ:Cn}{k:Nat}{pins:List (Addr×Obj)}{s:Shared}{σ:St}{H:Hp}{φ α:List Addr}{τ:Sl}{μ:Mem}{f g h:De}{a b c:Expr}{pos:Pos}
theorem PE.mono{e:Expr}{t t':TE}(h:PE X e t)(m:∀σ H Q,t' σ H Q->t σ H Q):PE X e t':=λpins s σ H Q I q=>h pins s σ H Q I (m σ H Q q)
theorem U6{i j pos}:PE X (.Constant (.int i) j pos) (rdE D W (eC (.int i))):=PE.mono U4 λσ H Q ⟨φ,α,τ,μ,sr,mr,p⟩=>Post.here p mr rfl
theorem z16{i j pos}:PE X (.Constant (.bool i) j pos) (rdE D W (eC (.bl i))):=PE.mono z1s λσ H Q ⟨φ,α,τ,μ,sr,mr,p⟩=>Post.here p mr rfl
theorem Uk{j pos}:PE X (.Constant .none j pos) (rdE D W (eC .non)):=PE.mono Yg λσ H Q ⟨φ,α,τ,μ,sr,mr,p⟩=>Post.here p mr rfl
theorem UL{i j pos}:PE X (.Constant (.str i) j pos) (rdE D W (eC (.str i))):=PE.mono z08 λσ H Q ⟨φ,α,τ,μ,sr,mr,p⟩=>Post.here p mr rfl
theorem Y9(C:Ck D W Γ X k){x:Str}{i:Nat}(hi:idx Γ.N x=some i):PE X (.Name x pos) (rdE D W (eV i)):=by
 refine PE.mono (UC (i:=i) (by rw[C.hN];exact qx hi) (C.vis x (qf hi)) (C.dbg x (qf hi)).1 (C.dbg x (qf hi)).2) ?_
 rintro σ H Q ⟨φ,α,τ,μ,sr,mr,p⟩
 dsimp only[eV] at p
 split at p
 ·rename_i t e
  obtain⟨v,q,d⟩:=sr.get e
  exact⟨v,q,p.here mr d⟩
 ·exact p.elim
theorem UA(C:Ck D W Γ X k){x:Str}{t:T}(hx:x∈Γ.G)(ht:Γ.gl x=.cst t):PE X (.Name x pos) (rdE D W (eC t)):=by
 have g:=C.glo x hx
 rw[ht] at g
 obtain⟨u,v,hm,r,d⟩:=g
 exact PE.mono (Q8 (C.glb x hx) hm r (C.dbG x hx)) λσ H Q ⟨φ,α,τ,μ,sr,mr,p⟩=>Post.here p mr (d _ _ _)
theorem z0d{op:Operator}(ha:PE X a (rdE D W f))(hb:PE X b (rdE D W g)):PE X (.BinOp a op b pos) (rdE D W (zb op f g)):=by
 rintro pins s σ H Q I ⟨φ,α,τ,μ,sr,mr,p⟩
 refine wpAny_BinOp (thn (sub ha I sr mr p) ?_)
 rintro u s1 ⟨v,H1,t,μ1,α1,I1,r1,st1,sr1,mr1,d1,p1⟩
 refine thn (sub hb I1 sr1 mr1 p1) ?_
 rintro u' s2 ⟨v',H2,t',μ2,α2,I2,r2,st2,sr2,mr2,d2,p2⟩
 exact UE I2 mr2 (d1.step st2) d2 r1 r2 p2
theorem U7(ha:PE X a (rdE D W f)):PE X (.UnaryOp .USub a pos) (rdE D W (z0v f)):=by
 rintro pins s σ H Q I ⟨φ,α,τ,μ,sr,mr,p⟩
 refine UnaryOp_ (thn (sub ha I sr mr p) ?_)
 rintro u s1 ⟨v,H1,t,μ1,α1,I1,r1,st1,sr1,mr1,d1,p1⟩
 try dsimp only at p1
 split at p1
 ·cases d1
  exact UZ pins s1 σ H1 _ _ Q I1 r1 ⟨_,rfl,p1.here mr1 rfl⟩
 ·exact p1.elim
theorem Yr(ha:PE X a (rdE D W f)):PE X (.UnaryOp .Not a pos) (rdE D W (Xf f)):=by
 rintro pins s σ H Q I ⟨φ,α,τ,μ,sr,mr,p⟩
 refine UnaryOp_ (thn (sub ha I sr mr p) ?_)
 rintro u s1 ⟨v,H1,t,μ1,α1,I1,r1,st1,sr1,mr1,d1,p1⟩
 try dsimp only at p1
 split at p1
 ·rename_i b
  cases d1
  cases r1
  exact not_of (wpAny_truthy_bool ⟨.bl (!b),H1,I1,rfl,p1.here mr1 rfl⟩)
 ·exact p1.elim
theorem Yj{op:BoolOp}(ha:PE X a (rdE D W f)):PE X (.BoolOp op [a] pos) (rdE D W f):=z02 ha
theorem z0b{r:List Expr}(ha:PE X a (rdE D W f))(hb:PE X (.BoolOp .And (b::r) pos) (rdE D W g)):PE X (.BoolOp .And (a::b::r) pos) (rdE D W (VN f g)):=by
 rintro pins s σ H Q I ⟨φ,α,τ,μ,sr,mr,p⟩
 refine BoolOp_and (thn (sub ha I sr mr p) ?_)
 rintro u s1 ⟨v,H1,t,μ1,α1,I1,r1,st1,sr1,mr1,d1,p1⟩
 try dsimp only at p1
 split at p1
 ·cases d1
  cases r1
  rcases p1.br with⟨rfl,p1⟩|⟨rfl,p1⟩
  ·exact wpAny_truthy_bool (hb pins s1 σ H1 Q I1 ⟨φ,α1,τ,μ1,sr1,mr1,p1⟩)
  ·exact wpAny_truthy_bool ⟨.bl false,H1,I1,rfl,p1.here mr1 rfl⟩
 ·exact p1.elim
theorem z0D{r:List Expr}(ha:PE X a (rdE D W f))(hb:PE X (.BoolOp .Or (b::r) pos) (rdE D W g)):PE X (.BoolOp .Or (a::b::r) pos) (rdE D W (eOr f g)):=by
 rintro pins s σ H Q I ⟨φ,α,τ,μ,sr,mr,p⟩
 refine BoolOp_or (thn (sub ha I sr mr p) ?_)
 rintro u s1 ⟨v,H1,t,μ1,α1,I1,r1,st1,sr1,mr1,d1,p1⟩
 try dsimp only at p1
 split at p1
 ·cases d1
  cases r1
  rcases p1.br with⟨rfl,p1⟩|⟨rfl,p1⟩
  ·exact wpAny_truthy_bool ⟨.bl true,H1,I1,rfl,p1.here mr1 rfl⟩
  ·exact wpAny_truthy_bool (hb pins s1 σ H1 Q I1 ⟨φ,α1,τ,μ1,sr1,mr1,p1⟩)
 ·exact p1.elim
theorem z03{x y:T}{v w:V}{b:Bool}(d1:Den D φ α H x v)(d2:Den D φ α H y w)(h:scT x y=some b):Xg v w=true/\decide (v=w)=b:=by
 unfold scT at h
 split at h<;>first
  |(cases h;cases d1;cases d2;exact⟨rfl,by simp⟩)
  |cases h
theorem Uc:OpR X (compareOp .Is) (λx y H Q=>∃a b,x=.bl a/\y=.bl b/\Q (.bl (decide (a=b))) H):=by
 intro pins s σ H x y v u Q I rx ry h
 obtain⟨a,b,rfl,rfl,q⟩:=h
 cases rx;cases ry
 refine wpAny_is_plain (by rfl) ⟨.bl (decide (a=b)),H,I,?_,q⟩
 cases a<;>cases b<;>rfl
theorem WM:OpR X (compareOp .IsNot) (λx y H Q=>∃a b,x=.bl a/\y=.bl b/\Q (.bl (!decide (a=b))) H):=by
 intro pins s σ H x y v u Q I rx ry h
 obtain⟨a,b,rfl,rfl,q⟩:=h
 cases rx;cases ry
 refine wpAny_isNot_plain (by rfl) ⟨.bl (!decide (a=b)),H,I,?_,q⟩
 cases a<;>cases b<;>rfl
theorem JD{b:Bool}{C:Prop}{x y:T}{v w:V}{kk:Bool->RE T}{Q:VK}(I:Inv X pins σ H s)(hu:X.A.units+64<cLine)(mr:MRel D φ α H μ)(d1:Den D φ α H x v)(d2:Den D φ α H y w)(p:Post D W φ α H σ (RV D φ Q) (eqW x y μ kk))
  (h1:∀b,Post D W φ α H σ (RV D φ Q) (kk b)->Xg v w=true/\decide (v=w)=b->C)
  (h2:∀b,Post D W φ α H σ (RV D φ Q) (kk b)->((∀u1 u2,RelV v u1->RelV w u2->∀{R:Value->Shared->Prop},R (.bool b) s->wpAny (model X.prog X.w) X.A (compareOp .Eq u1 u2) R X.xe s)/\(∀u1 u2,RelV v u1->RelV w u2->∀{R:Value->Shared->Prop},R (.bool (!b)) s->wpAny (model X.prog X.w) X.A (compareOp .NotEq u1 u2) R X.xe s))->C):C:=by
 have lst:∀{xs ys:List T} {c d:Addr} {vs ws:List V},v=.ref c->w=.ref d->Rd H c (.lst vs)->Rd H d (.lst ws)->DenL D φ α H xs vs->DenL D φ α H ys ws->Post D W φ α H σ (RV D φ Q) (RE.grd (zV xs<=40) (.som (eqL xs ys) kk))->C:=λ{xs ys c d vs ws} e1 e2 r r' l l' p=>by
  obtain⟨hd,p⟩:=p.grd
  obtain⟨b,hb,p⟩:=p.som
  subst e1 e2
  exact h2 b p ⟨λu1 u2 r1 r2 R q=>by cases r1;cases r2;exact Vm I l l' r r' hb (by omega) _ _ _ _ q,λu1 u2 r1 r2 R q=>by cases r1;cases r2;exact WB I l l' r r' hb (by omega) _ _ _ _ q⟩
 unfold eqW at p
 split at p
 ·obtain⟨hd,p⟩:=p.grd
  obtain⟨b,hb,p⟩:=p.som
  obtain⟨c,vs,rfl,_,_,r,l⟩:=d1
  obtain⟨d,ws,rfl,_,_,r',l'⟩:=d2
  exact h2 b p ⟨λu1 u2 r1 r2 R q=>by cases r1;cases r2;exact WL I l l' r r' hb (by omega) _ _ _ _ q,λu1 u2 r1 r2 R q=>by cases r1;cases r2;exact WW I l l' r r' hb (by omega) _ _ _ _ q⟩
 ·obtain⟨c,vs,e1,_,_,r,l⟩:=d1
  obtain⟨d,ws,e2,_,_,r',l'⟩:=d2
  exact lst e1 e2 r r' l l' p
 ·obtain⟨xs,hi,p⟩:=p.ex1
  obtain⟨c,hc,e1⟩:=d1
  obtain⟨vs,q,l⟩:=mr.ob _ c _ hc hi
  obtain⟨d,ws,e2,_,_,r',l'⟩:=d2
  exact lst e1 e2 (.inl q) r' l l' p
 ·obtain⟨ys,hi,p⟩:=p.ex1
  obtain⟨c,hc,e2⟩:=d2
  obtain⟨vs,q,l⟩:=mr.ob _ c _ hc hi
  obtain⟨d,ws,e1,_,_,r',l'⟩:=d1
  exact lst e1 e2 r' (.inl q) l' l p
 ·obtain⟨z,hi,p⟩:=p.ex1
  obtain⟨c,hc,e1⟩:=d1
  obtain⟨vs,q,l⟩:=mr.ob _ c _ hc hi.1
  obtain⟨d,hd,e2⟩:=d2
  obtain⟨ws,q',l'⟩:=mr.ob _ d _ hd hi.2
  exact lst e1 e2 (.inl q) (.inl q') l l' p
 ·split at p
  ·rename_i hb
   exact h1 _ p (z03 d1 d2 hb)
  ·exact p.elim
theorem yN{op:CmpOp}{x y:T}{v w:V}{u1 u2:Value}{Q:VK}(I:Inv X pins σ H s)(hu:X.A.units+64<cLine)(mr:MRel D φ α H μ)(d1:Den D φ α H x v)(d2:Den D φ α H y w)(r1:RelV v u1)(r2:RelV w u2)
  (p:Post D W φ α H σ (RV D φ Q) (xm op x y μ)):wpAny (model X.prog X.w) X.A (compareOp op u1 u2) (EP X pins σ Q) X.xe s:=by
 unfold xm at p
 split at p
 ·refine JD (b:=true) I hu mr d1 d2 p (λb q h=>?_) (λb q h=>?_)
  ·obtain⟨s1,s2⟩:=h
   exact z1b pins s σ H v w u1 u2 Q I r1 r2 ⟨s1,by rw[s2];exact Post.here q mr rfl⟩
  ·exact h.1 _ _ r1 r2 ⟨.bl b,H,I,rfl,Post.here q mr rfl⟩
 ·refine JD (b:=false) I hu mr d1 d2 p (λb q h=>?_) (λb q h=>?_)
  ·obtain⟨s1,s2⟩:=h
   exact z12 pins s σ H v w u1 u2 Q I r1 r2 ⟨s1,by rw[s2];exact Post.here q mr rfl⟩
  ·exact h.2 _ _ r1 r2 ⟨.bl (!b),H,I,rfl,Post.here q mr rfl⟩
 ·unfold ltW at p
  split at p
  ·cases d1;cases d2
   exact z0S pins s σ H _ _ u1 u2 Q I r1 r2 ⟨_,_,rfl,rfl,Post.here p mr rfl⟩
  ·obtain⟨ns,h1,p⟩:=p.som
   obtain⟨ms,h2,p⟩:=p.som
   obtain⟨a,vs,rfl,_,_,q1,l1⟩:=d1
   obtain⟨c,ws,rfl,_,_,q2,l2⟩:=d2
   rw[wQ h1 l1] at q1
   rw[wQ h2 l2] at q2
   exact z0n (by omega) pins s σ H _ _ u1 u2 Q I r1 r2 ⟨a,c,ns,ms,rfl,rfl,.inl q1,.inl q2,Post.here p mr rfl⟩
  ·have d1:v=.str _:=d1
   have d2:w=.str _:=d2
   subst d1 d2
   obtain⟨t1,rfl⟩:=r1
   obtain⟨t2,rfl⟩:=r2
   exact PySem.P.lt_str ⟨.bl _,H,I,rfl,Post.here p mr rfl⟩
  ·exact p.elim
 ·split at p
  ·cases d1;cases d2
   exact z1o pins s σ H _ _ u1 u2 Q I r1 r2 ⟨_,_,rfl,rfl,p.here mr rfl⟩
  ·exact p.elim
 ·split at p
  ·cases d1;cases d2
   exact z1r pins s σ H _ _ u1 u2 Q I r1 r2 ⟨_,_,rfl,rfl,p.here mr rfl⟩
  ·exact p.elim
 ·split at p
  ·cases d1;cases d2
   exact z1j pins s σ H _ _ u1 u2 Q I r1 r2 ⟨_,_,rfl,rfl,p.here mr rfl⟩
  ·exact p.elim
 ·split at p
  ·cases d2
   refine z0c pins s σ H _ _ u1 u2 Q I r1 r2 ⟨rfl,?_⟩
   have q:=p.here mr rfl
   cases x<;>first
    |(have d1:v=_:=d1;subst d1;simpa using q)
    |(obtain⟨_,_,rfl,_⟩:=d1;simpa using q)
    |(obtain⟨_,_,_,_,rfl,_⟩:=d1;simpa using q)
    |(obtain⟨_,_,rfl⟩:=d1;simpa using q)
    |(obtain⟨_,_,_,rfl,_⟩:=d1;simpa using q)
  ·split at p
   ·have d1:v=.bl _:=d1
    have d2:w=.bl _:=d2
    subst d1 d2
    exact Uc pins s σ H _ _ u1 u2 Q I r1 r2 ⟨_,_,rfl,rfl,p.here mr rfl⟩
   ·exact p.elim
  ·exact p.elim
 ·split at p
  ·cases d2
   refine Kd pins s σ H _ _ u1 u2 Q I r1 r2 ⟨rfl,?_⟩
   have q:=p.here mr rfl
   cases x<;>first
    |(have d1:v=_:=d1;subst d1;simpa using q)
    |(obtain⟨_,_,rfl,_⟩:=d1;simpa using q)
    |(obtain⟨_,_,_,_,rfl,_⟩:=d1;simpa using q)
    |(obtain⟨_,_,rfl⟩:=d1;simpa using q)
    |(obtain⟨_,_,_,rfl,_⟩:=d1;simpa using q)
  ·split at p
   ·have d1:v=.bl _:=d1
    have d2:w=.bl _:=d2
    subst d1 d2
    exact WM pins s σ H _ _ u1 u2 Q I r1 r2 ⟨_,_,rfl,rfl,p.here mr rfl⟩
   ·exact p.elim
  ·exact p.elim
 ·split at p
  ·have d1:v=.str _:=d1
   have d2:w=.str _:=d2
   subst d1 d2
   exact Wm pins s σ H _ _ u1 u2 Q I r1 r2 ⟨_,_,rfl,rfl,p.here mr rfl⟩
  ·exact p.elim
 ·split at p
  ·have d1:v=.str _:=d1
   have d2:w=.str _:=d2
   subst d1 d2
   exact yI pins s σ H _ _ u1 u2 Q I r1 r2 ⟨_,_,rfl,rfl,p.here mr rfl⟩
  ·exact p.elim
noncomputable def zS:Expr->Bool
 |.Name _ _=>true
 |.Constant _ _ _=>true
 |.BinOp _ _ _ _=>true
 |.UnaryOp _ _ _=>true
 |.Call _ _ _ _=>true
 |.Subscript _ _ _=>true
 |.Attribute _ _ _=>true
 |_=>false
noncomputable def qC:Expr->Bool
 |.Set _ _ _=>false
 |_=>true
noncomputable def vw:CmpOp->Bool
 |.In=>false|.NotIn=>false
 |_=>true
noncomputable def qK(op:CmpOp)(b:Expr):Bool:=vw op || qC b
noncomputable def wR:CmpOp->Bool
 |.Lt=>true|.LtE=>true|.Gt=>true|.GtE=>true|.Eq=>true|.NotEq=>true
 |_=>false
theorem vf{op:CmpOp}{b:Expr}(h:qK op b=true):behindInMarks op b=false:=by
 cases hp:vw op with
 |true=>exact VS b (by rintro rfl;simp[vw] at hp) (by rintro rfl;simp[vw] at hp)
 |false=>
  have hb:qC b=true:=by unfold qK at h;rw[hp] at h;exact h
  cases b<;>first|rfl|(simp[qC] at hb)
theorem Y_(C:Ck D W Γ X k){op:CmpOp}(ho:qK op b=true)(ha:PE X a (rdE D W f))(hb:PE X b (rdE D W g)):PE X (.Compare a [op] [b] pos) (rdE D W (zB op f g)):=by
 rintro pins s σ H Q I ⟨φ,α,τ,μ,sr,mr,p⟩
 refine wpAny_Compare1 (thn (sub ha I sr mr p) ?_) (vf ho)
 rintro u s1 ⟨v,H1,t,μ1,α1,I1,r1,st1,sr1,mr1,d1,p1⟩
 refine thn (sub hb I1 sr1 mr1 p1) ?_
 rintro u' s2 ⟨v',H2,t',μ2,α2,I2,r2,st2,sr2,mr2,d2,p2⟩
 exact yN I2 C.unt mr2 (d1.step st2) d2 r1 r2 p2
theorem jC{op:CmpOp}{β:Type}{R:β->Mem->List Addr->Hp->Prop}{kk:T->Mem->RE β}{x y:T}{v w:V}{u1 u2:Value}(I:Inv X pins σ H s)(hu:X.A.units+64<cLine)(mr:MRel D φ α H μ)(d1:Den D φ α H x v)(d2:Den D φ α H y w)(r1:RelV v u1)(r2:RelV w u2)
  (p:Post D W φ α H σ R ((xm op x y μ).bind kk)):wpAny (model X.prog X.w) X.A (compareOp op u1 u2) (EP X pins σ λz H1=>∃t μ1 α1,Stp α H α1 H1/\MRel D φ α1 H1 μ1/\Den D φ α1 H1 t z/\Post D W φ α1 H1 σ R (kk t μ1)) X.xe s:=
 yN I hu mr d1 d2 r1 r2 (p.bind.mono λt μ' α' H' st m q v d=>⟨t,μ',α',st,m,d,q⟩)
theorem wc:∀{ops:List CmpOp} {es:List Expr},ops.all wR=true->lastMarks ops es=false
 |[],es,_=>by cases es<;>rfl
 |[op],[],_=>rfl
 |[op],[e],h=>VS e (by rintro rfl;simp[wR] at h) (by rintro rfl;simp[wR] at h)
 |[op],_::_::_,_=>rfl
 |op::op'::ops,[],_=>rfl
 |op::op'::ops,e::es,h=>by
  have:lastMarks (op'::ops) es=false:=wc (by simp only[List.all_cons,Bool.and_eq_true] at h ⊢;exact h.2)
  cases es with
  |nil=>cases ops<;>rfl
  |cons e' es=>exact this
noncomputable def Wb (X:Cx)(D:DP)(W:XW):List Expr->List (CmpOp×De)->Prop
 |[],[]=>True
 |e::es,p::ps=>PE X e (rdE D W p.2)/\Wb X D W es ps
 |_,_=>False
theorem ui(hu:X.A.units+64<cLine){Q:VK}:∀{ps:List (CmpOp×De)} {es:List Expr} {s:Shared} {H:Hp} {α:List Addr} {μ:Mem} {x:T} {v:V} {u:Value},Wb X D W es ps->Inv X pins σ H s->SRel D φ α H τ σ->MRel D φ α H μ->Den D φ α H x v->RelV v u->Post D W φ α H σ (RV D φ Q) (Wo ps x τ μ)->
  wpAny (model X.prog X.w) X.A (compareChain pos u (ps.map (·.1)) (evalEach es X.env)) (EP X pins σ Q) X.xe s
 |[],_,_,_,_,_,_,_,_,_,_,_,_,_,_,p=>p.elim
 |[(op,g)],[],_,_,_,_,_,_,_,h,_,_,_,_,_,_=>h.elim
 |[(op,g)],[e],s,H,α,μ,x,v,u,h,I,sr,mr,d,r,p=>by
  refine chain_last (thn (sub h.1 I sr mr p) ?_)
  rintro u' s2 ⟨v',H2,t',μ2,α2,I2,r2,st2,sr2,mr2,d2,p2⟩
  exact yN I2 hu mr2 (d.step st2) d2 r r2 p2
 |[(op,g)],_::_::_,_,_,_,_,_,_,_,h,_,_,_,_,_,_=>h.2.elim
 |(op,g)::p'::ps,[],_,_,_,_,_,_,_,h,_,_,_,_,_,_=>h.elim
 |(op,g)::p'::ps,[e],_,_,_,_,_,_,_,h,_,_,_,_,_,_=>h.2.elim
 |(op,g)::(op',g')::ps,e::e'::es,s,H,α,μ,x,v,u,h,I,sr,mr,d,r,p=>by
  refine chain_link (thn (sub h.1 I sr mr p) ?_)
  rintro u' s2 ⟨v',H2,t',μ2,α2,I2,r2,st2,sr2,mr2,d2,p2⟩
  refine thn (jC I2 hu mr2 (d.step st2) d2 r r2 p2) ?_
  rintro dd s3 ⟨z,H3,I3,r3,t3,μ3,α3,st3,mr3,d3,p3⟩
  try dsimp only at p3
  split at p3
  ·cases d3
   cases r3
   rcases p3.br with⟨rfl,p3⟩|⟨rfl,p3⟩
   ·exact wpAny_truthy_bool (ite_tt (ui hu (ps:=(op',g')::ps) (es:=e'::es) h.2 I3 (sr2.step st3) mr3 (d2.step st3) r2 p3))
   ·exact wpAny_truthy_bool (ite_ff ⟨.bl false,H3,I3,rfl,p3.here mr3 rfl⟩)
  ·exact p3.elim
theorem V7(C:Ck D W Γ X k){e1 e2:Expr}{es:List Expr}{p1 p2:CmpOp×De}{ps:List (CmpOp×De)}(ho:(p1::p2::ps).all (λp=>wR p.1)=true)(ha:PE X a (rdE D W f))(h:Wb X D W (e1::e2::es) (p1::p2::ps)):PE X (.Compare a (p1.1::p2.1::ps.map (·.1)) (e1::e2::es) pos) (rdE D W (eCh f (p1::p2::ps))):=by
 rintro pins s σ H Q I ⟨φ,α,τ,μ,sr,mr,p⟩
 refine Compare_chain (thn (sub ha I sr mr p) ?_) (wc (by simpa[List.all_map,Function.comp_def] using ho))
 rintro u s1 ⟨v,H1,t,μ1,α1,I1,r1,st1,sr1,mr1,d1,p1⟩
 exact ui C.unt h I1 sr1 mr1 d1 r1 p1
theorem Qc(hu:X.A.units+64<cLine){β:Type}{R:β->Mem->List Addr->Hp->Prop}{kk:Bool->Mem->RE β}:∀{ps:List (CmpOp×De)} {es:List Expr} {s:Shared} {H:Hp} {α:List Addr} {μ:Mem} {x:T} {v:V} {u:Value} {Q:Bool->Hp->Prop},Wb X D W es ps->Inv X pins σ H s->SRel D φ α H τ σ->MRel D φ α H μ->Den D φ α H x v->RelV v u->Post D W φ α H σ (λb _ _ H'=>Q b H') ((Wo ps x τ μ).bind kj)->
  wpAny (model X.prog X.w) X.A (testChain pos u (ps.map (·.1)) (evalEach es X.env)) (TP X pins σ Q) X.xe s
 |[],_,_,_,_,_,_,_,_,_,_,_,_,_,_,_,p=>Post.elim p
 |[(op,g)],[],_,_,_,_,_,_,_,_,h,_,_,_,_,_,_=>h.elim
 |[(op,g)],[e],s,H,α,μ,x,v,u,Q,h,I,sr,mr,d,r,p=>by
  have p:Post D W φ α H σ (λb _ _ H'=>Q b H') ((g τ μ).bind λy μ1=>(xm op x y μ1).bind kj):=p
  refine test_last (thn (sub h.1 I sr mr p) ?_)
  rintro u' s2 ⟨v',H2,t',μ2,α2,I2,r2,st2,sr2,mr2,d2,p2⟩
  refine thn (jC I2 hu mr2 (d.step st2) d2 r r2 p2) ?_
  rintro dd s3 ⟨z,H3,I3,r3,t3,μ3,α3,st3,mr3,d3,p3⟩
  unfold kj at p3
  split at p3
  ·cases d3
   cases r3
   exact wpAny_truthy_bool ⟨H3,I3,p3.ok (Stp.refl _ _) mr3⟩
  ·exact p3.elim
 |[(op,g)],_::_::_,_,_,_,_,_,_,_,_,h,_,_,_,_,_,_=>h.2.elim
 |(op,g)::p'::ps,[],_,_,_,_,_,_,_,_,h,_,_,_,_,_,_=>h.elim
 |(op,g)::p'::ps,[e],_,_,_,_,_,_,_,_,h,_,_,_,_,_,_=>h.2.elim
 |(op,g)::(op',g')::ps,e::e'::es,s,H,α,μ,x,v,u,Q,h,I,sr,mr,d,r,p=>by
  have p:Post D W φ α H σ (λb _ _ H'=>Q b H') ((g τ μ).bind λy μ1=>(xm op x y μ1).bind λk μ2=>(match k with|.bl b=>RE.br b (Wo ((op',g')::ps) y τ μ2) (.ok (.bl false) μ2)|_=>RE.st:RE T).bind kj):=p
  refine test_link (thn (sub h.1 I sr mr p) ?_)
  rintro u' s2 ⟨v',H2,t',μ2,α2,I2,r2,st2,sr2,mr2,d2,p2⟩
  refine thn (jC I2 hu mr2 (d.step st2) d2 r r2 p2) ?_
  rintro dd s3 ⟨z,H3,I3,r3,t3,μ3,α3,st3,mr3,d3,p3⟩
  try dsimp only at p3
  split at p3
  ·rename_i bb
   cases d3
   cases r3
   cases bb with
   |true=>exact wpAny_truthy_bool (ite_tt (Qc hu (kk:=kk) (R:=R) (ps:=(op',g')::ps) (es:=e'::es) h.2 I3 (sr2.step st3) mr3 (d2.step st3) r2 p3))
   |false=>
    have p3:Post D W φ α3 H3 σ (λb _ _ H'=>Q b H') (RE.ok false μ3):=p3
    exact wpAny_truthy_bool (ite_ff ⟨H3,I3,p3.ok (Stp.refl _ _) mr3⟩)
  ·have p3:Post D W φ α3 H3 σ (λb _ _ H'=>Q b H') RE.st:=p3
   exact p3.elim
end
section
variable {X:Cx}{D:DP}{W:XW}{Γ:Cn}{k:Nat}{pins:List (Addr×Obj)}{s:Shared}{σ:St}{H:Hp}{φ α:List Addr}{τ:Sl}{μ:Mem}{f g h:De}{ft gt:Dt}{a b c:Expr}{pos:Pos}
theorem ZS(ha:PE X a (rdE D W f))(he:∀whole,isTrue a X.env whole=(do let v ←whole;standAt a.pos;holding [v] (truthy v))):PT X a (rdT D W (tE f)):=by
 rintro pins s σ H Q I ⟨φ,α,τ,μ,sr,mr,p⟩
 rw[he]
 refine wpAny_bind (thn (sub ha I sr mr p) ?_)
 rintro u s1 ⟨v,H1,t,μ1,α1,I1,r1,st1,sr1,mr1,d1,p1⟩
 unfold kj at p1
 split at p1
 ·cases d1
  cases r1
  exact wpAny_bind (wpAny_standAt (wpAny_holding (wpAny_truthy_bool ⟨H1,I1,p1.ok (Stp.refl _ _) mr1⟩)))
 ·exact p1.elim
theorem Zt(C:Ck D W Γ X k){op:CmpOp}(ho:qK op b=true)(ha:PE X a (rdE D W f))(hb:PE X b (rdE D W g)):PT X (.Compare a [op] [b] pos) (rdT D W (tE (zB op f g))):=by
 rintro pins s σ H Q I ⟨φ,α,τ,μ,sr,mr,p⟩
 have p:Post D W φ α H σ (λb _ _ H'=>Q b H') ((f τ μ).bind λx μ1=>(g τ μ1).bind λy μ2=>(xm op x y μ2).bind kj):=p
 refine wpAny_isTrue_Compare1 (thn (sub ha I sr mr p) ?_) (vf ho)
 rintro u s1 ⟨v,H1,t,μ1,α1,I1,r1,st1,sr1,mr1,d1,p1⟩
 refine thn (sub hb I1 sr1 mr1 p1) ?_
 rintro u' s2 ⟨v',H2,t',μ2,α2,I2,r2,st2,sr2,mr2,d2,p2⟩
 refine thn (jC I2 C.unt mr2 (d1.step st2) d2 r1 r2 p2) ?_
 rintro d s3 ⟨z,H3,I3,r3,t3,μ3,α3,st3,mr3,d3,p3⟩
 unfold kj at p3
 split at p3
 ·cases d3
  cases r3
  exact wpAny_truthy_bool ⟨H3,I3,p3.ok (Stp.refl _ _) mr3⟩
 ·exact p3.elim
theorem u4(C:Ck D W Γ X k){e1 e2:Expr}{es:List Expr}{p1 p2:CmpOp×De}{ps:List (CmpOp×De)}(ho:(p1::p2::ps).all (λp=>wR p.1)=true)(ha:PE X a (rdE D W f))(h:Wb X D W (e1::e2::es) (p1::p2::ps)):PT X (.Compare a (p1.1::p2.1::ps.map (·.1)) (e1::e2::es) pos) (rdT D W (tE (eCh f (p1::p2::ps)))):=by
 rintro pins s σ H Q I ⟨φ,α,τ,μ,sr,mr,p⟩
 have p:Post D W φ α H σ (λb _ _ H'=>Q b H') ((f τ μ).bind λx μ1=>(Wo (p1::p2::ps) x τ μ1).bind kj):=p
 refine isTrue_chain (thn (sub ha I sr mr p) ?_) (wc (by simpa[List.all_map,Function.comp_def] using ho))
 rintro u s1 ⟨v,H1,t,μ1,α1,I1,r1,st1,sr1,mr1,d1,p1⟩
 exact Qc (kk:=λ_ _=>RE.st (β:=Bool)) (R:=λ_ _ _ _=>True) C.unt h I1 sr1 mr1 d1 r1 p1
theorem Yx{r:List Expr}(ha:PT X a (rdT D W ft))(hb:PW X (.BoolOp .And (b::r) pos) (rdT D W gt)):PW X (.BoolOp .And (a::b::r) pos) (rdT D W (vo ft gt)):=by
 intro whole pins s σ H Q I hq
 refine U3 ha hb whole pins s σ H Q I ?_
 obtain⟨φ,α,τ,μ,sr,mr,p⟩:=hq
 refine⟨φ,α,τ,μ,sr,mr,p.bind.mono λc μ' α' H' st m q=>?_⟩
 rcases q.br with⟨rfl,q⟩|⟨rfl,q⟩
 ·exact⟨φ,α',τ,μ',sr.step st,m,q⟩
 ·exact q.ok (Stp.refl _ _) m
theorem z0F{r:List Expr}(ha:PT X a (rdT D W ft))(hb:PW X (.BoolOp .Or (b::r) pos) (rdT D W gt)):PW X (.BoolOp .Or (a::b::r) pos) (rdT D W (tOr ft gt)):=by
 intro whole pins s σ H Q I hq
 refine z13 ha hb whole pins s σ H Q I ?_
 obtain⟨φ,α,τ,μ,sr,mr,p⟩:=hq
 refine⟨φ,α,τ,μ,sr,mr,p.bind.mono λc μ' α' H' st m q=>?_⟩
 rcases q.br with⟨rfl,q⟩|⟨rfl,q⟩
 ·exact q.ok (Stp.refl _ _) m
 ·exact⟨φ,α',τ,μ',sr.step st,m,q⟩
theorem U_(ha:PT X a (rdT D W ft)):PT X (.UnaryOp .Not a pos) (rdT D W (wY ft)):=by
 intro pins s σ H Q I hq
 refine U2 ha pins s σ H Q I ?_
 obtain⟨φ,α,τ,μ,sr,mr,p⟩:=hq
 exact⟨φ,α,τ,μ,sr,mr,p.bind.mono λc μ' α' H' st m q=>q.ok (Stp.refl _ _) m⟩
noncomputable def zR:Expr->Bool
 |.Name _ _=>true
 |.Attribute _ _ _=>true
 |.Subscript _ _ _=>true
 |.Call (.Name x _) _ _ _=>x != ("super":Str)
 |.Call (.Attribute _ _ _) _ _ _=>true
 |_=>false
theorem Post.ex3{β δ1 δ2 δ3:Type}{R:β->Mem->List Addr->Hp->Prop}{P:δ1->δ2->Prop}{P2:δ1->δ2->δ3->Prop}{r:δ1->δ2->δ3->RE β}(p:Post D W φ α H σ R (λK Z=>∃x y z,P x y/\P2 x y z/\r x y z K Z)):∃x y z,P x y/\P2 x y z/\Post D W φ α H σ R (r x y z):=by
 obtain⟨K,Z,⟨x,y,z,h1,h2,q⟩,h⟩:=p
 exact⟨x,y,z,h1,h2,K,Z,q,h⟩
theorem Post.ex2{β δ1 δ2:Type}{R:β->Mem->List Addr->Hp->Prop}{P:δ1->Prop}{P2:δ1->δ2->Prop}{r:δ1->δ2->RE β}(p:Post D W φ α H σ R (λK Z=>∃x y,P x/\P2 x y/\r x y K Z)):∃x y,P x/\P2 x y/\Post D W φ α H σ R (r x y):=by
 obtain⟨K,Z,⟨x,y,h1,h2,q⟩,h⟩:=p
 exact⟨x,y,h1,h2,K,Z,q,h⟩
theorem qX{b:Expr}(h:zS b=true):JS b:=by
 intro o i
 cases b<;>first|(simp[zS] at h;done)|rfl
theorem kf{D:DP}{ts:List T}{xs:List V}{i:Int}{t:T}(l:DenL D φ α H ts xs)(h:j7 ts i=some t):∃v,atI xs i=some v/\Den D φ α H t v:=by
 unfold j7 at h
 have e:ixN xs.length i=KR ts.length i:=by rw[l.length];rfl
 unfold atI
 rw[e]
 cases q:KR ts.length i with
 |none=>rw[q] at h;cases h
 |some j=>
  rw[q] at h
  exact l.get h
theorem z1D(hb':zS b=true)(hK:X.K=D.K)(ha:PE X a (rdE D W f))(hb:PE X b (rdE D W g)):PE X (.Subscript a b pos) (rdE D W (eIx f g)):=by
 rintro pins s σ H Q I ⟨φ,α,τ,μ,sr,mr,p⟩
 refine Subscript_ (thn (sub ha I sr mr p) ?_)
 rintro u s1 ⟨v,H1,t,μ1,α1,I1,r1,st1,sr1,mr1,d1,p1⟩
 refine thn (sub hb I1 sr1 mr1 p1) ?_
 rintro u' s2 ⟨v',H2,t',μ2,α2,I2,r2,st2,sr2,mr2,d2,p2⟩
 have d1:=d1.step st2
 unfold XN at p2
 split at p2
 ·cases d2
  split at p2
  ·obtain⟨w,hw,p2⟩:=p2.som
   obtain⟨ad,xs,rfl,_,_,r,l⟩:=d1
   obtain⟨z,hz,dz⟩:=kf l hw
   exact Q1 a b pins s2 σ H2 _ _ _ _ Q I2 r1 r2 ⟨ad,xs,_,z,rfl,rfl,.inl r,hz,p2.here mr2 dz⟩ (qX hb' _ _)
  ·obtain⟨w,hw,p2⟩:=p2.som
   obtain⟨ad,xs,rfl,_,_,r,l⟩:=d1
   obtain⟨z,hz,dz⟩:=kf l hw
   exact YK a b pins s2 σ H2 _ _ _ _ Q I2 r1 r2 ⟨ad,xs,_,z,rfl,rfl,.inl r,hz,p2.here mr2 dz⟩ (qX hb' _ _)
  ·obtain⟨ts,w,hj,hw,p2⟩:=p2.ex2
   obtain⟨ad,hi',rfl⟩:=d1
   obtain⟨xs,e2,l⟩:=mr2.ob _ ad _ hi' hj
   obtain⟨z,hz,dz⟩:=kf l hw
   exact Q1 a b pins s2 σ H2 _ _ _ _ Q I2 r1 r2 ⟨ad,xs,_,z,rfl,rfl,.inl (.inl e2),hz,Post.here p2 mr2 dz⟩ (qX hb' _ _)
  ·obtain⟨hl,p2⟩:=p2.grd
   obtain⟨c,hc,p2⟩:=p2.som
   have d1:v=.str _:=d1
   subst d1
   exact Ux a b pins s2 σ H2 _ _ _ _ Q I2 r1 r2 ⟨_,_,c,rfl,rfl,zk hl,hc,p2.here mr2 rfl⟩ (qX hb' _ _)
  ·exact p2.elim
 ·exact p2.elim
noncomputable def noStar:Expr->Bool
 |.Starred _ _=>false
 |_=>true
theorem z5{e:Expr}{es:List Expr}{env:Env}(h:noStar e=true):starEach (e::es) env=(false,eval e env)::starEach es env:=by
 cases e<;>first|(simp[noStar] at h;done)|rfl
theorem zJ{es:List Expr}{env:Env}{pos:Pos}(h:es.all noStar=true):(backTo pos (starEach es env)).any (·.1)=false:=by
 induction es with
 |nil=>rfl
 |cons e es ih=>
  simp only[List.all_cons,Bool.and_eq_true] at h
  rw[z5 h.1]
  have:=ih h.2
  first
   |(simp[backTo] at this ⊢;exact this)
   |(simpa[backTo] using this)
theorem Yb:PA X [] (rdA D W 0 (evs [])):=by
 rintro pos pins s σ H Q I ⟨φ,α,τ,μ,sr,mr,p⟩
 exact qb pos pins s σ H Q I (Post.ok p (Stp.refl _ _) mr [] rfl rfl)
theorem KZ{e:Expr}{es:List Expr}{fs:List De}{n:Nat}(hs:noStar e=true)(ha:PE X e (rdE D W f))(hr:PA X es (rdA D W n (evs fs))):PA X (e::es) (rdA D W (n+1) (evs (f::fs))):=by
 intro pos pins s σ H Q I hq
 refine zt ha hr (z5 hs) pos pins s σ H Q I ?_
 obtain⟨φ,α,τ,μ,sr,mr,p⟩:=hq
 have p:Post D W φ α H σ _ ((f τ μ).bind λt μ1=>(evs fs τ μ1).bind λts μ2=>.ok (t::ts) μ2):=p
 refine⟨φ,α,τ,μ,sr,mr,p.bind.mono λt μ1 α1 H1 st m q v d=>?_⟩
 refine⟨φ,α1,τ,μ1,sr.step st,m,q.bind.mono λts μ2 α2 H2 st2 m2 q2 vs dl hn=>?_⟩
 exact q2.ok (Stp.refl _ _) m2 _ ⟨v,vs,rfl,d.step st2,dl⟩ (by simp[hn])
noncomputable def EsOk (X:Cx)(D:DP)(W:XW):List Expr->List De->Prop
 |[],[]=>True
 |e::es,f::fs=>noStar e=true/\PE X e (rdE D W f)/\EsOk X D W es fs
 |_,_=>False
theorem qV:∀{es:List Expr} {fs:List De},EsOk X D W es fs->PA X es (rdA D W es.length (evs fs))
 |[],[],_=>Yb
 |e::es,f::fs,h=>KZ h.1 h.2.1 (qV h.2.2)
 |[],_::_,h=>h.elim
 |_::_,[],h=>h.elim
theorem EsOk.stars:∀{es:List Expr} {fs:List De},EsOk X D W es fs->es.all noStar=true
 |[],[],_=>rfl
 |e::es,f::fs,h=>by simp[h.1,EsOk.stars h.2.2]
 |[],_::_,h=>h.elim
 |_::_,[],h=>h.elim
theorem Yq{es:List Expr}{fs:List De}(hl:es.length<=room)(h:EsOk X D W es fs):PE X (.List es pos) (rdE D W (js fs)):=by
 refine PE.mono (Jx (qV h)) ?_
 rintro σ H Q ⟨φ,α,τ,μ,sr,mr,p⟩
 refine⟨φ,α,τ,μ,sr,mr,p.bind.mono λts μ1 α1 H1 st m q vs dl hn=>⟨by rw[hn];exact zk hl,λz hz=>?_⟩⟩
 exact q.fresh m (zd hz) ⟨z,vs,rfl,zi m hz,zh m hz,.inl z6,dl.step (Stp.new (zd hz))⟩
theorem Yu{es:List Expr}{fs:List De}{kk:Nat}(hl:es.length<=room)(h:EsOk X D W es fs):PE X (.Tuple es kk pos) (rdE D W (wq fs)):=by
 refine PE.mono (VM (qV h)) ?_
 rintro σ H Q ⟨φ,α,τ,μ,sr,mr,p⟩
 refine⟨φ,α,τ,μ,sr,mr,p.bind.mono λts μ1 α1 H1 st m q vs dl hn=>⟨by rw[hn];exact zk hl,λz hz=>?_⟩⟩
 exact q.fresh m (zd hz) ⟨z,vs,rfl,zi m hz,zh m hz,.inl z6,dl.step (Stp.new (zd hz))⟩
end
section
open PySem.W
theorem xG{prog:Program}{w:World}{A:Around}{E:Value->Shared->Prop}{s:Shared}{K:Frag}{x D:Addr}{ox:Obj}{od:Option Obj}{Q:Option Value->Shared->Prop}(X:K.In s.heap)(I:InstAt s.heap x ox D od)
 (hga:findIn K (.ref D) "__getattribute__"=some (some (.builtin "BaseException.__getattribute__"))) (hk:findIn K (.ref D) "__getattr__"=some none)
 (hf:findObj K D od "__class__"=some (.bind (.builtin "getset_descriptor.__get__") (.builtin "object.__class__"))) (hm:mroIn K D (.type "object")=some true) (hb:mroIn K D (.type "BaseException")=some true)
 (h:Q (some (.ref D)) {s with toks:=s.toks+1}):wpAny (model prog w) A (getAttr? (.ref x) "__class__") Q E s:=by
 obtain⟨hh,g,d,t,os⟩:=s
 have L0:=I.type (M:=model prog w)
 have L1:=looks_findIn (M:=model prog w) X hga
 have L2:=looks_findIn (M:=model prog w) X hk
 have L3:=looks_find (M:=model prog w) X I hf
 have L4:=looks_mroIn (M:=model prog w) X hb
 have f3:=PySem.F.attr_ValueError.ga.bind (.ref x)
 unfold getAttr? getAttrBy? getAttrBy
 refine wpAny_bind (wpAny_mkText (wpAny_bind (wpAny_attempt (wpAny_holding (wpAny_bind (L0.at (wpAny_bind (L1.at ?_))))))))
 show wpAny _ _ (getAttrByItsOwn (.ref x) _ (.ref D) (.builtin "BaseException.__getattribute__") false false) _ _ _
 unfold getAttrByItsOwn hookBefore
 refine wpAny_bind ?_
 show wpAny _ _ (typeLookup (.ref D) "__getattr__") _ _ _
 refine L2.at ?_
 refine wpAny_bind (wpAny_attempt (wpAny_holding ?_))
 unfold callGetattribute boundAndCalled
 show wpAny _ _ (bindSpecial (.builtin "BaseException.__getattribute__") (.ref x) >>= _) _ _ _
 rw[f3]
 refine wpAny_bind (wpAny_pure ?_)
 show wpAny _ _ (call (.builtin "BaseException.__getattribute__") [.ref x,.str "__class__" _]) _ _ _
 refine wpAny_call (codeAny_call_builtin PySem.F.attr_ValueError.ga.plain PySem.F.entry_bexc_ga ?_)
 have hkd:builtinKind "BaseException.__getattribute__"=some .slot:=by decide +kernel
 have hsp:splitId "BaseException.__getattribute__"=some ("BaseException","__getattribute__"):=by decide +kernel
 have ha:=PySem.F.args_bexc_ga (.ref x) (.str "__class__" t)
 have LI:Looks (model prog w) hh (isInstance (.ref x) (.type "BaseException")) true:=L0.andThen L4
 simp only[checkBuiltinCall,hkd,hsp]
 refine wpAny_bind (LI.at ?_)
 simp only[Bool.not_true,Bool.false_eq_true,if_false]
 refine wpAny_of_eq (a:=()) ha ?_
 unfold Builtin.«object.__getattribute__»
 refine wpAny_bind (m:=slotArgs _ _ _) (wpAny_pure ?_)
 dsimp only
 refine wpAny_bind ?_
 show wpAny _ _ (Builtin.ObjectAttr.attrName (.str "__class__" t)) _ _ _
 first
  |exact wpAny_pure (wpAny_bind (L0.at (wpAny_bind (L3.at ?_))))
  |(refine wpAny_pure (wpAny_bind (L0.at (wpAny_bind (L3.at ?_)))))
  |(unfold Builtin.ObjectAttr.attrName;refine wpAny_pure (wpAny_bind (L0.at (wpAny_bind (L3.at ?_)))))
 dsimp only
 unfold Builtin.ObjectAttr.bindTo
 show wpAny _ _ (holding [Value.builtin "object.__class__"] (call (.builtin "getset_descriptor.__get__") [.builtin "object.__class__",.ref x,.ref D]) >>= ret) _ _ _
 refine wpAny_bind (wpAny_holding (wpAny_call (class_get (s:=⟨hh,g,d,t+1,os⟩) X I hm ?_)))
 refine wpAny_pure ?_
 exact handed_on rfl (wpAny_pure h)
theorem XCls.fo{K:Frag}{C:Addr}(h:XCls K C)(od:Option Obj):findObj K C od "__class__"=some (.bind (.builtin "getset_descriptor.__get__") (.builtin "object.__class__")):=by
 have hc:=h.cl
 obtain⟨cd,e⟩:=Option.isSome_iff_exists.mp hc
 unfold findObj
 rw[e,h.fi]
 simp only[Option.bind_some]
 rw[h.sp]
 simp only[Option.bind_some]
 rw[h.tk]
 rfl
noncomputable def XcP (x C:Addr)(d:Option Addr)(h:Heap):Prop:=XcAt x C d h/\∀dx,d=some dx->∃o,h.get? dx=some o
theorem Vw{K:Frag}{x C:Addr}{d:Option Addr}(hC:XCls K C):KitX K (.ref x) (.ref C) (XcP x C d) where
 ty:=λM h _ p=>by
  obtain⟨⟨oe,vs,h1,h2,h3,h4⟩,_⟩:=p
  exact h2▸(Looks.ld h1).andThen .now
 it:=λM h X _=>by
  have hcD:=hC.cl
  unfold clsIn at hcD
  split at hcD
  ·rename_i c' d' cd' sl' ho
   intro A' Q' E' s' k q
   unfold isType loadHead
   exact wpAny_bind (wpAny_loadPart (k _ _ (X _ _ ho)) (wpAny_pure q))
  ·cases hcD
 ne:=λh tp dd its n sl X htp=>by
  refine Bool.eq_false_iff.mpr λq=>?_
  have e:C=tp:=Value.ref.inj (beq_iff_eq.mp q)
  subst e
  have hcD:=hC.cl
  unfold clsIn at hcD
  split at hcD
  ·rename_i c' d' cd' sl' ho
   have z:=(X _ _ ho).symm.trans htp
   cases z
  ·cases hcD
 ca:=λX p k=>by
  obtain⟨⟨oe,vs,h1,h2,h3,h4⟩,h5⟩:=p
  cases d with
  |none=>
   refine xG (ox:=oe) (od:=none) X ⟨h1,h2,?_,?_⟩ hC.ga hC.hk (hC.fo _) hC.ob hC.bx k
   ·unfold notCls;rw[h3]
   ·rw[h4];trivial
  |some dx=>
   obtain⟨o,ho⟩:=h5 dx rfl
   refine xG (ox:=oe) (od:=some o) X ⟨h1,h2,?_,?_⟩ hC.ga hC.hk (hC.fo _) hC.ob hC.bx k
   ·unfold notCls;rw[h3]
   ·rw[h4];exact ho
end
section
variable {X:Cx}{D:DP}{W:XW}{Γ:Cn}{k:Nat}{pins:List (Addr×Obj)}{s:Shared}{σ:St}{H:Hp}{φ α:List Addr}{τ:Sl}{μ:Mem}{f g h:De}{a b c:Expr}{pos:Pos}{es:List Expr}{fs:List De}
theorem zX{e:Expr}{f:Str}{env:Env}(h:zR e=true):attributeBase e f env (eval e env)=eval e env:=by
 cases e with
 |Call g args kws p=>
  cases g with
  |Name x p0=>
   have hx:(x != ("super":Str))=true:=h
   cases args<;>cases kws<;>first|rfl|(unfold attributeBase;simp[hx])
  |Attribute _ _ _=>rfl
  |_=>exact absurd (show false=true from h) Bool.false_ne_true
 |_=>first|exact absurd (show false=true from h) Bool.false_ne_true|rfl
theorem XDict.ext{D:DP}{fs:List (Nat×T)}{d:Option Addr}(x:XDict D φ α H fs d)(I:Inv X pins σ H s):∀dx,d=some dx->∃o,s.heap.get? dx=some o:=λdx e=>by
 subst e
 obtain⟨gs,_,_,e,_⟩:=x
 exact xF (I.hok dx _ e)
noncomputable def rdO (D:DP)(W:XW)(f:Dp):TO:=λσ H Q=>RdP D H σ λφ α τ μ=>Post D W φ α H σ (λo _ _ H'=>Q o H') (f τ μ)
theorem JX:PO X none (rdO D W pN):=by
 rintro pins s σ H Q I ⟨φ,α,τ,μ,sr,mr,p⟩
 exact Kr pins s σ H Q I (Post.ok p (Stp.refl _ _) mr)
theorem Kc(h:PE X a (rdE D W f)):PO X (some a) (rdO D W (pS f)):=by
 rintro pins s σ H Q I ⟨φ,α,τ,μ,sr,mr,p⟩
 refine Xv h pins s σ H Q I ⟨φ,α,τ,μ,sr,mr,p.bind.mono λt μ' α' H' st m q v d=>?_⟩
 split at q
 ·cases d
  exact⟨_,rfl,q.ok (Stp.refl _ _) m⟩
 ·exact q.elim
theorem vk{ts:List T}{xs:List V}(l:DenL D φ α H ts xs)(lo hi:Option Int):DenL D φ α H (xt ts lo hi) (xn xs lo hi):=by
 have e:ts.length=xs.length:=l.length
 have e1:∀n d o,Vs n d o=HT.sIx n d o:=λn d o=>by cases o<;>rfl
 unfold xt xn
 rw[e1,e1,e]
 exact (l.drop _).take _
theorem vJ{prog:Program}{w:World}{A:Around}{E:Value->Shared->Prop}{s:Shared}{t sl:Addr}{items:Array Value}{vl vu:Value}{lo hi:Option Int}{Q:Value->Shared->Prop}(ht:IsTup s.heap t items)(hs:s.heap.IsSliceOf sl vl vu .none)(pl:IsPart vl lo)(pu:IsPart vu hi)
  (hw:HT.sIx items.size 0 lo=0/\HT.sIx items.size items.size hi=items.size) (h:Q (.ref t) s):wpAny (model prog w) A (getItem (.ref t) (.ref sl)) Q E s:=by
 obtain⟨os,hos,hcs,hds⟩:=id hs
 have hTs:s.TypeIs (.ref sl) "slice":=⟨os,hos,hcs⟩
 unfold getItem
 try with_reducible refine wpAny_holding ?_
 first|refine wpAny_bind (wpAny_pure ?_)|skip
 refine wpAny_bind (wpAny_sequenceKey ht.typeIs (by decide) ?_)
 refine wpAny_bind (wpAny_callSpecial?_slot (name:=Str.ofString "__getitem__") ht.typeIs slot_tuple_getitem (wpAny_call_entry slot_tuple_getitem ht.typeIs entry_tuple_getitem ?_ (args_tuple_getitem _ _)))
 show wpAny _ _ (Builtin.Tuple.tupleItemsOf (.ref t) >>= _) _ _ s
 refine wpAny_bind (tupleItemsOf_ ht ?_)
 refine wpAny_bind (wpAny_typeOf hTs ?_)
 rw[if_pos (by decide)]
 refine wpAny_bind (HT.sliceApplied_gen hs pl pu ?_)
 show wpAny _ _ (if (((HT.sIx items.size 0 lo:Nat):Int) == 0&&(1:Int) == 1&&(HT.sIx items.size items.size hi-HT.sIx items.size 0 lo) == items.size)=true then _ else _) _ _ s
 rw[if_pos (by rw[hw.1,hw.2];simp)]
 refine wpAny_bind ?_
 unfold Builtin.Tuple.tupleIsExact
 refine wpAny_bind (wpAny_typeOf ht.typeIs (wpAny_pure ?_))
 rw[if_pos (by decide)]
 first
  |exact wpAny_bind (wpAny_rule (wpAny_pure ⟨_,rfl,wpAny_pure h⟩))
  |exact wpAny_bind (wpAny_rule (wpAny_bind (wpAny_pure (wpAny_pure ⟨_,rfl,wpAny_pure h⟩))))
theorem X3:SlR X (λx lo hi H Q=>∃a xs,x=.ref a/\SqT X.K H a xs/\(HT.sIx xs.length 0 lo=0/\HT.sIx xs.length xs.length hi=xs.length)/\Q (.ref a) H):=by
 intro pins s σ H x v vl vu lo hi sl Q I rx hs pl pu h
 obtain⟨a,xs,rfl,hx,hw,q⟩:=h
 cases rx
 obtain⟨its,r,ht,hz⟩:=I.tuple hx
 have hlen:its.toArray.size=xs.length:=by rw[List.size_toArray];exact r.length.symm
 exact⟨"tuple",_,PyProof.Rows.slot_tuple_getitem.lookup,ht.typeIs,vJ ht hs pl pu (by rw[hlen];exact hw) ⟨.ref a,H,I,rfl,q⟩⟩
theorem Uw:SlR X (λx lo hi H Q=>∃z,x=.str z/\z.length<=sizeLine/\Q (.str (Txt.slice z lo hi)) H):=by
 intro pins s σ H x v vl vu lo hi sl Q I rx hs pl pu h
 obtain⟨z,rfl,hz,q⟩:=h
 obtain⟨t0,rfl⟩:=rx
 refine⟨"str",_,F.slot_str_getitem.lookup,typeIs_str _ _ _,?_⟩
 obtain⟨o,h1,h2,h3⟩:=hs
 have fin:∀(l u:Option (Int×Tok)),vl=partValue l->vu=partValue u->lo=l.map (·.1)->hi=u.map (·.1)->wpAny (model X.prog X.w) X.A (getItem (.str z t0) (.ref sl)) (EP X pins σ Q) X.xe s:=by
  rintro l u rfl rfl rfl rfl
  exact wpAny_getItem_str_slice (l:=l) (u:=u) (st:=none) ⟨o,h1,h2,h3⟩ rfl (post_val_or_str ⟨Nat.le_trans (Txt.slice_le z _ _) hz,λt' k=>⟨.str _,H,I.tok _,⟨t',rfl⟩,q⟩⟩)
 cases pl with
 |none=>
  cases pu with
  |none=>exact fin none none rfl rfl rfl rfl
  |int j u=>exact fin none (some (j,u)) rfl rfl rfl rfl
 |int i t=>
  cases pu with
  |none=>exact fin (some (i,t)) none rfl rfl rfl rfl
  |int j u=>exact fin (some (i,t)) (some (j,u)) rfl rfl rfl rfl
theorem Vp{lo hi:Option Expr}{fo go:Dp}{p2:Pos}(ha:PE X a (rdE D W f))(hl:PO X lo (rdO D W fo))(hu:PO X hi (rdO D W go)):PE X (.Subscript a (.Slice lo hi none p2) pos) (rdE D W (eSl f fo go)):=by
 refine PE.mono (Vv (KN.or (UB.or (X3.or Uw))) ha hl hu) ?_
 rintro σ H Q ⟨φ,α,τ,μ,sr,mr,p⟩
 refine⟨φ,α,τ,μ,sr,mr,p.bind.mono λt μ1 α1 H1 st m q v d=>?_⟩
 refine⟨φ,α1,τ,μ1,sr.step st,m,q.bind.mono λl μ2 α2 H2 st2 m2 q2=>?_⟩
 refine⟨φ,α2,τ,μ2,(sr.step st).step st2,m2,q2.bind.mono λu μ3 α3 H3 st3 m3 q3=>?_⟩
 unfold z0u at q3
 split at q3
 ·obtain⟨ad,xs,rfl,_,_,r,dl⟩:=(d.step st2).step st3
  refine .inl ⟨ad,xs,rfl,.inl r,λz hz=>?_⟩
  exact q3.fresh m3 (zd hz) ⟨z,_,rfl,zi m3 hz,zh m3 hz,.inl z6,vk (dl.step (Stp.new (zd hz))) _ _⟩
 ·obtain⟨ad,xs,rfl,n1,n2,r,dl⟩:=(d.step st2).step st3
  by_cases hw:HT.sIx xs.length 0 l=0/\HT.sIx xs.length xs.length u=xs.length
  ·refine .inr (.inr (.inl ⟨ad,xs,rfl,.inl r,hw,?_⟩))
   have e:xn xs l u=xs:=by unfold xn;rw[hw.1,hw.2];simp
   have dd:=vk dl l u
   rw[e] at dd
   exact q3.here m3 ⟨ad,xs,rfl,n1,n2,r,dd⟩
  ·refine .inr (.inl ⟨ad,xs,rfl,.inl r,hw,λz hz=>?_⟩)
   exact q3.fresh m3 (zd hz) ⟨z,_,rfl,zi m3 hz,zh m3 hz,.inl z6,vk (dl.step (Stp.new (zd hz))) _ _⟩
 ·obtain⟨hz,q3⟩:=q3.grd
  have d:v=.str _:=d
  subst d
  exact .inr (.inr (.inr ⟨_,rfl,zk hz,q3.here m3 rfl⟩))
 ·obtain⟨ts,hj,q3⟩:=q3.ex1
  obtain⟨ad,hi',rfl⟩:=(d.step st2).step st3
  obtain⟨xs,e2,dl⟩:=m3.ob _ ad _ hi' hj
  refine .inl ⟨ad,xs,rfl,.inl (.inl e2),λz hz=>?_⟩
  exact Post.fresh q3 m3 (zd hz) ⟨z,_,rfl,zi m3 hz,zh m3 hz,.inl z6,vk (dl.step (Stp.new (zd hz))) _ _⟩
 ·exact q3.elim
theorem jz{g:Fn}{fa:Addr}{fd:FuncData}{ps:List Str}{kk:Nat}{us:List Value}{vs:List V}{ts:List T}{Q:VK}(C:Ck D W Γ X k)(F:FnOk X.prog X.w X.K X.mg X.base (CX1 X.prog X.w) kk fa fd ps (spN D ps.length g))
  (hr:Room kk X.A) (hb:Binds X.K fd ps []) (har:∀ts μ K Z,g ts μ K Z->ts.length=ps.length) (I:Inv X pins σ H s) (r:Vals vs us) (mr:MRel D φ α H μ) (d:DenL D φ α H ts vs) (p:Post D W φ α H σ (RV D φ Q) (g ts μ)) :
  wpAny (model X.prog X.w) X.A (call (.ref fa) us) (EP X pins σ Q) X.xe s:=by
 obtain⟨K,Z,q,hq,hz⟩:=p
 have hl:ts.length=ps.length:=har ts μ K Z q
 have sp:spN D ps.length g vs H Q (λc d H'=>W c d σ H'):=⟨by rw[←d.length];exact hl,φ,α,ts,μ,d,mr,K,Z,q,hq,hz⟩
 have hl2:us.length=ps.length:=by rw[←r.length,←d.length];exact hl
 refine wpAny_call (codeAny_mono (F.run X.A X.stack s H ⟨us,[]⟩ us vs Q (λc d H'=>W c d σ H') hr I.env0 (by simpa using hb s us I.kIn (by simpa using hl2)) r sp) λr s' hq=>?_)
 cases r with
 |error e=>exact C.xe e s' (yU (E:=λc d H'=>W c d σ H') I hq λcls d H' w=>w)
 |ok fl=>
  cases fl with
  |ret u=>exact I.after hq
  |next=>exact False.elim hq
  |brk=>exact False.elim hq
  |cont=>exact False.elim hq
theorem KS(C:Ck D W Γ X k){x:Str}{g:Fn}{p0:Pos}(hx:x∈Γ.G)(hg:Γ.gl x=.fn g)(hc:Γ.calm=true)(ha:EsOk X D W es fs):PE X (.Call (.Name x p0) es [] pos) (rdE D W (z9 g fs)):=by
 have q:=C.glo x hx
 rw[hg] at q
 obtain⟨fa,hm,fd,ps,kk,hk,hb,hkk,Fn,har⟩:=q
 have hr:=(C.rom hc).mono hkk
 have hs:=ha.stars
 have pa:=qV ha
 rintro pins s σ H Q I ⟨φ,α,τ,μ,sr,mr,p⟩
 refine wpAny_Call_Name_kw (wF I (C.glb x hx) hm ?_ (C.dbG x hx))
 cases es with
 |nil=>
  cases fs with
  |nil=>exact PySem.W.callWith_K0 I.kIn hk (jz (ts:=[]) C Fn hr hb har I .nil mr rfl p)
  |cons f fs=>exact ha.elim
 |cons e es=>
  simp only[List.all_cons,Bool.and_eq_true] at hs
  refine PySem.W.callWith_K (h₀:=X.base) I.ok.mod.kin hk (thn (JG pa I sr mr p) ?_) (z5 hs.1) (zJ hs.2)
  rintro us s1 ⟨vs,H1,ts,μ1,α1,I1,r1,st1,sr1,mr1,d1,_,p1⟩
  exact⟨I1.kIn,jz C Fn hr hb har I1 r1 mr1 d1 p1⟩
theorem run_mk{c:Nat}{g:Fn}{C0 fI:Addr}{fd:FuncData}{ps:List Str}{kk:Nat}{us:List Value}{vs:List V}{ts:List T}{Q:VK}(C:Ck D W Γ X k)(ad:D.cad c=some C0)(M:Mk X.K C0 fI)(F:FnOk X.prog X.w X.K X.mg X.base (CX1 X.prog X.w) kk fI fd ps (spN D ps.length g))
  (hr:Room (kk+1) X.A) (hb:Binds X.K fd ps []) (har:∀ts μ K Z,g ts μ K Z->ts.length=ps.length) (I:Inv X pins σ H s) (r:Vals vs us) (mr:MRel D φ α H μ) (d:DenL D φ α H ts vs) (p:Post D W φ α H σ (RV D φ Q) (uw c g ts μ)) :
  wpAny (model X.prog X.w) X.A (call (.ref C0) us) (EP X pins σ Q) X.xe s:=by
 obtain⟨K,Z,⟨hp,hg⟩,hk,hz⟩:=p
 have hl:(T.mut 0::ts).length=ps.length:=har _ _ _ _ hg
 have hq:∀x dx,H x=none->H dx=none->dx≠x->spN D ps.length g (.ref x::(vs++[])) (upd (upd H dx (.own x)) x (.ins C0 dx [])) (λv H2=>v=.non/\Q (.ref x) H2) (λc d H'=>W c d σ H'):=by
  intro x dx hx hdx hne
  have sm:jY H (upd (upd H dx (.own x)) x (.ins C0 dx [])):=λb o e=>by rw[z8 (zv e hx),z8 (zv e hdx)];exact e
  have st0:Stp [] H [x] (upd (upd H dx (.own x)) x (.ins C0 dx [])):=⟨⟨[x],rfl,λb hb'=>by rw[List.mem_singleton.mp hb'];exact hx⟩,λb o _ e=>sm b o e,λb e=>by
   cases q:H b with
   |none=>rfl
   |some o=>rw[sm b o q] at e;cases e⟩
  have nx:x∉φ++α:=λz=>(List.mem_append.mp z).elim (zi mr hx) (zh mr hx)
  have ph:∀b∈φ++α,∃o,H b=some o/\noF o=true:=λb hb'=>(List.mem_append.mp hb').elim (mr.phi b) λz=>by
   obtain⟨i,hi⟩:=List.mem_iff_getElem?.mp z
   have hl':i<μ.length:=by rw[←mr.len];exact (List.getElem?_eq_some_iff.mp hi).1
   exact (mr.ob i b μ[i] hi (by simp[hl'])).some
  refine⟨by simp only[List.length_cons,List.append_nil] at hl ⊢;rw[←d.length];exact hl,φ++α,[x],.mut 0::ts,[.obj c []],⟨.ref x,vs++[],rfl,⟨x,rfl,rfl⟩,by rw[List.append_nil];exact (DenL.hide hp d X2).step st0⟩,⟨rfl,by simp,λb hb'=>by rw[List.mem_singleton.mp hb'];exact nx,λb hb'=>let ⟨o,e,n⟩:=ph b hb';⟨o,sm b o e,n⟩,λi a o e1 e2=>?_⟩,?_⟩
  ·cases i with
   |zero=>simp at e1 e2;subst e1 e2;exact⟨C0,dx,[],ad,z6,rfl⟩
   |succ i=>simp at e1
  have back:∀{α2:List Addr} {H3:Hp},Stp [x] (upd (upd H dx (.own x)) x (.ins C0 dx [])) α2 H3->jY H H3:=λst b o e=>st.keep b o (λz=>by rw[List.mem_singleton.mp z,hx] at e;cases e) (sm b o e)
  refine⟨_,_,hg,?_,?_⟩
  ·rintro t μ2 ⟨rfl,fs,h0,hpf,q⟩ α2 H3 st m v dv
   refine⟨dv,?_⟩
   obtain⟨β,rfl,_⟩:=st.ext
   obtain⟨C1,dx1,gs,ad1,e1,lf⟩:=m.ob 0 x _ rfl h0
   have sm3:=back st
   exact hk _ _ q α H3 (Stp.new sm3) (mr.new sm3) _ ⟨x,C1,dx1,gs,rfl,zi mr hx,zh mr hx,ad1,e1,DenF.hide hpf lf yZ⟩
  ·rintro e fs μ2 ⟨hpf,q⟩ α2 H3 C1 d1 st m had xd
   have sm3:=back st
   exact hz _ _ _ q α H3 C1 d1 (Stp.new sm3) (mr.new sm3) had (XDict.hide hpf xd yZ)
 have hq1:=hq (s.heap.objs.size+1) s.heap.objs.size (I.hok.fresh (Nat.le_succ _)) (I.hok.fresh (Nat.le_refl _)) (Nat.ne_of_lt (Nat.lt_succ_self _))
 have I2:=Inv.made (C:=C0) I
 have r2:Vals (V.ref (s.heap.objs.size+1)::(vs++[])) (Value.ref (s.heap.objs.size+1)::us):=.cons rfl (by rw[List.append_nil];exact r)
 have hlu:(Value.ref (s.heap.objs.size+1)::us++[]).length=ps.length:=by
  rw[List.append_nil,List.length_cons,←r.length,←d.length]
  exact hl
 refine wpAny_call (u6 (f:=fI) I.kIn M.makes M.init (beq_iff_eq.mp M.fn) (codeAny_mono (F.run _ X.stack _ _ ⟨Value.ref (s.heap.objs.size+1)::us,[]⟩ (Value.ref (s.heap.objs.size+1)::us) _ _ (λc d H'=>W c d σ H') (hr.make C0 us [])
  (I2.env0.make C0 us []) (by simpa using hb _ (Value.ref (s.heap.objs.size+1)::us) I2.kIn hlu) r2 hq1) λr s' hq'=>?_))
 cases r with
 |error e=>exact C.xe e s' (yU (E:=λc d H'=>W c d σ H') I2 hq' λcls d H' w=>w)
 |ok fl=>
  cases fl with
  |ret u=>
   obtain⟨v,H',I3,rv,ev,q3⟩:=I2.after hq'
   subst ev
   exact⟨rv,⟨V.ref (s.heap.objs.size+1),H',I3,rfl,q3⟩⟩
  |next=>exact False.elim hq'
  |brk=>exact False.elim hq'
  |cont=>exact False.elim hq'
theorem KL(C:Ck D W Γ X k){x:Str}{c:Nat}{g:Fn}{p0:Pos}(hx:x∈Γ.G)(hg:Γ.gl x=.mk c true g)(hc:Γ.calm=true)(ha:EsOk X D W es fs):PE X (.Call (.Name x p0) es [] pos) (rdE D W (eMk c g fs)):=by
 have q:=C.glo x hx
 rw[hg] at q
 obtain⟨C0,fI,fd,ps,kk,ad,hm,M,hb,hkk,Fn,har⟩:=q
 have hr:=(C.rom hc).mono hkk
 have hs:=ha.stars
 have pa:=qV ha
 rintro pins s σ H Q I ⟨φ,α,τ,μ,sr,mr,p⟩
 refine wpAny_Call_Name_kw (wF I (C.glb x hx) hm ?_ (C.dbG x hx))
 cases es with
 |nil=>
  cases fs with
  |nil=>exact PySem.W.callWith_K0 I.kIn M.kp (run_mk (ts:=[]) C ad M Fn hr hb har I .nil mr rfl p)
  |cons f fs=>exact ha.elim
 |cons e es=>
  simp only[List.all_cons,Bool.and_eq_true] at hs
  refine PySem.W.callWith_K (h₀:=X.base) I.ok.mod.kin M.kp (thn (JG pa I sr mr p) ?_) (z5 hs.1) (zJ hs.2)
  rintro us s1 ⟨vs,H1,ts,μ1,α1,I1,r1,st1,sr1,mr1,d1,_,p1⟩
  exact⟨I1.kIn,run_mk C ad M Fn hr hb har I1 r1 mr1 d1 p1⟩
theorem Yh(C:Ck D W Γ X k){x:Str}{n:Nat}(hp:zR a=true)(hn:(x,n)∈Γ.fld)(ha:PE X a (rdE D W f)):PE X (.Attribute a x pos) (rdE D W (zC f n)):=by
 refine PE.mono (Uu ha (zX hp)) ?_
 rintro σ H Q ⟨φ,α,τ,μ,sr,mr,p⟩
 refine⟨φ,α,τ,μ,sr,mr,p.bind.mono λt μ1 α1 H1 st m q v d=>?_⟩
 unfold ZG at q
 split at q
 ·split at q
  ·rename_i c fs _ w hw
   obtain⟨ad,C0,dx,gs,rfl,_,_,e1,e2,l⟩:=d
   obtain⟨y,z,hy,hz,dz⟩:=l.look hw
   obtain⟨c0,c1,c2⟩:=C.fld c C0 x n e1 hn
   rw[hy] at c0;cases c0
   exact⟨ad,C0,dx,gs,z,rfl,e2,c1,c2,hz,q.here m dz⟩
  ·exact q.elim
 ·obtain⟨c,fs,w,hi,hw,q⟩:=q.ex3
  obtain⟨ad,hi',rfl⟩:=d
  obtain⟨C0,dx,gs,e1,e2,l⟩:=m.ob _ ad _ hi' hi
  obtain⟨y,z,hy,hz,dz⟩:=l.look hw
  obtain⟨c0,c1,c2⟩:=C.fld c C0 x n e1 hn
  rw[hy] at c0;cases c0
  exact⟨ad,C0,dx,gs,z,rfl,e2,c1,c2,hz,Post.here q m dz⟩
 ·exact q.elim
end
section
variable {X:Cx}{D:DP}{W:XW}{Γ:Cn}{k:Nat}{pins:List (Addr×Obj)}{s:Shared}{σ:St}{H:Hp}{φ α:List Addr}{τ:Sl}{μ:Mem}{f g h:De}{a b c:Expr}{pos:Pos}{es:List Expr}
theorem Q5{B:Prop}(C:Ck D W Γ X k){c:Nat}{C0 dx ad:Addr}{gs:List (Str×V)}(I:Inv X pins σ H s)(e1:D.cad c=some C0)(ea:H ad=some (.ins C0 dx gs))
  (hh:∀tv P,yY D c tv->PySem.W.KitX X.K (.ref ad) tv P->P s.heap->(Value.ref ad)≠.builtin "__main__.__loader__#opaque"->B):B:=by
 have o:=C.ocx c C0 e1
 obtain⟨mA,O,_⟩:=jE I.hok ea
 obtain⟨od,J,_⟩:=O.look
 exact hh _ _ (.inr (.inr (.inr (.inr (.inr (.inr (.inr (.inr ⟨C0,e1,rfl⟩)))))))) (PySem.W.kitx_own (o.cl.get _) o.cl.hd o.fi o.sp o.tk o.ob) J (λz=>nomatch z)
theorem z01{B:Prop}(C:Ck D W Γ X k){t:T}{v:V}{u:Value}{n:Nat}(I:Inv X pins σ H s)(d:Den D φ α H t v)(r:RelV v u)(ht:tyN t μ=some n)
  (hh:∀tv P,yY D n tv->PySem.W.KitX X.K u tv P->P s.heap->u≠.builtin "__main__.__loader__#opaque"->B):B:=by
 cases t with
 |non=>cases d;cases r;cases ht;exact hh _ _ (.inl ⟨rfl,rfl⟩) PySem.W.kitx_none True.intro (λz=>nomatch z)
 |bl b=>cases d;cases r;cases ht;exact hh _ _ (.inr (.inl ⟨rfl,rfl⟩)) PySem.W.kitx_bool True.intro (λz=>nomatch z)
 |int i=>cases d;obtain⟨t,rfl⟩:=r;cases ht;exact hh _ _ (.inr (.inr (.inl ⟨rfl,rfl⟩))) PySem.W.kitx_int True.intro (λz=>nomatch z)
 |str i=>cases d;obtain⟨t,rfl⟩:=r;cases ht;exact hh _ _ (.inr (.inr (.inr (.inl ⟨rfl,rfl⟩)))) PySem.W.kitx_str True.intro (λz=>nomatch z)
 |tup ts=>
  obtain⟨ad,xs,rfl,_,_,q,_⟩:=d;cases r;cases ht
  obtain⟨its,_,⟨o,h1,h2,_⟩,_⟩:=I.tuple (.inl q)
  exact hh _ _ (.inr (.inr (.inr (.inr (.inl ⟨rfl,rfl⟩))))) PySem.W.kitx_tuple ⟨o,h1,h2⟩ (λz=>nomatch z)
 |lst ts=>
  obtain⟨ad,xs,rfl,_,_,q,_⟩:=d;cases r;cases ht
  obtain⟨its,_,p,_⟩:=I.list (.inl q)
  obtain⟨o,h1,h2,_⟩:=p.isList
  exact hh _ _ (.inr (.inr (.inr (.inr (.inr (.inl ⟨rfl,rfl⟩)))))) PySem.W.kitx_list ⟨o,h1,h2⟩ (λz=>nomatch z)
 |exc c fs=>
  obtain⟨ad,C0,dd,rfl,_,_,e1,e2,xd⟩:=d;cases r;cases ht
  have hx:=C.xcx n C0 e1
  obtain⟨p,_⟩:=(show ObjOk X.prog X.w H s.heap ad (.ext (XcAt ad C0 dd)) from I.hok ad _ e2)
  have xd:XDict D φ α H fs dd:=by cases dd<;>exact xd
  exact hh _ _ (.inr (.inr (.inr (.inr (.inr (.inr (.inl ⟨C0,e1,rfl⟩))))))) (Vw hx) ⟨p,xd.ext I⟩ (λz=>nomatch z)
 |dic kvs=>
  obtain⟨ad,gs,rfl,_,_,e,_⟩:=d;cases r;cases ht
  obtain⟨_,_,vs,_,dd⟩:=(show ObjOk X.prog X.w H s.heap ad (.dK gs) from I.hok ad _ e)
  exact hh _ _ (.inr (.inr (.inr (.inr (.inr (.inr (.inr (.inl ⟨rfl,rfl⟩)))))))) PySem.W.kitx_dict dd.typeIs (λz=>nomatch z)
 |obj c fs=>
  obtain⟨ad,C0,dx,gs,rfl,_,_,e1,e2,l⟩:=d;cases r;cases ht
  exact Q5 C I e1 e2 hh
 | «mut» i=>cases ht
 |clo j cs=>cases ht
theorem K4{B:Prop}(C:Ck D W Γ X k){i:Nat}{v:V}{u:Value}{o:MO}(I:Inv X pins σ H s)(mr:MRel D φ α H μ)(d:Den D φ α H (.mut i) v)(r:RelV v u)(ht:μ[i]?=some o)(hnt:Y3 o=false)
  (hh:∀tv P,yY D (tyO o) tv->PySem.W.KitX X.K u tv P->P s.heap->u≠.builtin "__main__.__loader__#opaque"->B):B:=by
 obtain⟨ad,hi,rfl⟩:=d
 cases r
 have dd:=mr.ob i ad o hi ht
 cases o with
 |lst ts=>
  obtain⟨xs,q,_⟩:=dd
  obtain⟨its,_,p,_⟩:=I.list (.inl (.inl q))
  obtain⟨o,h1,h2,_⟩:=p.isList
  exact hh _ _ (.inr (.inr (.inr (.inr (.inr (.inl ⟨rfl,rfl⟩)))))) PySem.W.kitx_list ⟨o,h1,h2⟩ (λz=>nomatch z)
 |obj c fs=>
  obtain⟨C0,dx,gs,e1,e2,l⟩:=dd
  exact Q5 C I e1 e2 hh
 |dic kvs=>
  obtain⟨gs,e,_⟩:=dd
  obtain⟨_,_,vs,_,dd⟩:=(show ObjOk X.prog X.w H s.heap ad (.dK gs) from I.hok ad _ e)
  exact hh _ _ (.inr (.inr (.inr (.inr (.inr (.inr (.inr (.inl ⟨rfl,rfl⟩)))))))) PySem.W.kitx_dict dd.typeIs (λz=>nomatch z)
 |tab j=>cases hnt
 |dct ks=>
  obtain⟨xs,_,_,_,_,q,_⟩:=dd
  obtain⟨⟨o,es,ep,h1,h2,_⟩,_⟩:=(show ObjOk X.prog X.w H s.heap ad (.ext (qE ad xs)) from I.hok ad _ q)
  exact hh _ _ (.inr (.inr (.inr (.inr (.inr (.inr (.inr (.inl ⟨rfl,rfl⟩)))))))) PySem.W.kitx_dict ⟨o,h1,h2.1⟩ (λz=>nomatch z)
theorem Qu{B:Prop}(C:Ck D W Γ X k){t:T}{v:V}{u:Value}{cs:List Nat}{Q:VK}(I:Inv X pins σ H s)(mr:MRel D φ α H μ)(d:Den D φ α H t v)(r:RelV v u)(q:Post D W φ α H σ (RV D φ Q) (WN cs t μ))
  (hh:∀n tv P,Post D W φ α H σ (RV D φ Q) (.ok (.bl (isAny n cs)) μ)->yY D n tv->PySem.W.KitX X.K u tv P->P s.heap->u≠.builtin "__main__.__loader__#opaque"->B):B:=by
 unfold WN at q
 split at q
 ·obtain⟨o,ho,q⟩:=q.som
  rcases q.br with⟨_,q⟩|⟨hb,q⟩
  ·exact q.elim
  ·exact K4 C I mr d r ho hb λtv P=>hh _ tv P q
 ·split at q
  ·rename_i tn htn
   exact z01 C I d r htn λtv P=>hh _ tv P q
  ·exact q.elim
noncomputable def w9(Γ:Cn):List Expr->Option (List Nat)
 |[]=>some []
 |e::r=>match e with
  |.Name x _=>if (idx Γ.N x).isNone&&Γ.G.contains x then (match Γ.cls.lookup x with
   |some c=>(w9 Γ r).map (c::·)
   |none=>none) else none
  |_=>none
noncomputable def xb(Γ:Cn)(e:Expr):Option (List Nat):=match e with
 |.Name _ _=>w9 Γ [e]
 |.Tuple es _ _=>if decide (es.length<=room) then w9 Γ es else none
 |_=>none
theorem lookup_mem{β:Type}{x:Str}{v:β}:∀{l:List (Str×β)},l.lookup x=some v->(x,v)∈l
 |[],h=>by cases h
 |(y,w)::r,h=>by
  rw[List.lookup_cons] at h
  cases q:x == y with
  |true=>rw[q] at h;cases h;rw[beq_iff_eq.mp q];exact List.mem_cons_self
  |false=>rw[q] at h;exact List.mem_cons_of_mem _ (lookup_mem h)
theorem UW(C:Ck D W Γ X k){x:Str}{c:Nat}(hc:x∈Γ.G)(hl:(x,c)∈Γ.cls):∃u v,V9 X x u/\ClsV v u/\∀p0,PE X (.Name x p0) (tC v):=by
 obtain⟨u,v,cv,r⟩:=C.clv x c hl
 refine⟨u,v,cv,r,λp0=>?_⟩
 rcases cv with h|⟨h,hb,hn⟩
 ·exact Q8 (C.glb x hc) h r.rel (C.dbG x hc)
 ·exact Kh (C.glb x hc) h hb r.rel hn (C.dbG x hc)
theorem yp(C:Ck D W Γ X k):∀{es:List Expr} {cs:List Nat},w9 Γ es=some cs->∃us vs,(∀us',Vals vs us'->us'=us)/\vs.length=es.length/\es.all noStar=true/\PA X es (λ_ H Q=>Q vs H)/\∀t tv,yY D t tv->PySem.W.kitAny X.K tv us=some (isAny t cs)
 |[],cs,h=>by
  simp[w9] at h;subst h
  exact⟨[],[],λus' r=>by cases r;rfl,rfl,rfl,λpos pins s σ H Q I q=>qb pos pins s σ H Q I q,λt tv _=>rfl⟩
 |e::es,cs,h=>by
  unfold w9 at h
  split at h
  ·rename_i x p0
   split at h
   ·rename_i hc
    simp only[Bool.and_eq_true,List.contains_iff_mem] at hc
    split at h
    ·rename_i c hl
     cases hr:w9 Γ es with
     |none=>rw[hr] at h;cases h
     |some cs'=>
      rw[hr] at h
      cases h
      have hm:=lookup_mem hl
      obtain⟨us,vs,rv,hl,hs,hp,hk⟩:=yp C hr
      obtain⟨u,v,cv,r,pe⟩:=UW C hc.2 hm
      refine⟨u::us,v::vs,λus' q=>by cases q with|cons q1 q2=>rw[r.only q1,rv _ q2],by simp[hl],by simp[noStar,hs],λpos pins s σ H Q I q=>zt (pe p0) hp (z5 rfl) pos pins s σ H Q I q,λt tv ht=>?_⟩
      have k1:=C.isi t x c hm tv u ht cv
      have k2:=hk t tv ht
      unfold PySem.W.kitAny
      rw[k1]
      rw[ke]
      cases hb:wj t c with
      |true=>rfl
      |false=>exact k2
    ·cases h
   ·cases h
  ·cases h
theorem UM (C:Ck D W Γ X k) {cs:List Nat} {p0:Pos} (hx:("isinstance":Str)∈Γ.G) (hg:Γ.gl "isinstance"=.none) (hs:noStar a=true) (hcs:xb Γ c=some cs) (ha:PE X a (rdE D W f)):PE X (.Call (.Name "isinstance" p0) [a,c] [] pos) (rdE D W (W7 cs f)):=by
 have hm:=C.glo _ hx
 rw[hg] at hm
 rintro pins s σ H Q I ⟨φ,α,τ,μ,sr,mr,p⟩
 refine wpAny_Call_Name_kw (we I (C.glb _ hx) hm boot_isinstance ?_ (by decide) (C.dbG _ hx))
 unfold xb at hcs
 split at hcs
 ·rename_i cn pc
  obtain⟨us0,vs0,hu,hl,hst,hp,hk⟩:=yp C hcs
  refine PyProof.Rows.callWith_builtin1 (thn (zt ha hp (z5 hs) pos pins s σ H (λvs H1=>∃v t μ1 α1,vs=v::vs0/\Stp α H α1 H1/\MRel D φ α1 H1 μ1/\Den D φ α1 H1 t v/\Post D W φ α1 H1 σ (RV D φ Q) (WN cs t μ1)) I ⟨φ,α,τ,μ,sr,mr,p.bind.mono λt μ' α' H' st m q v d=>⟨v,t,μ',α',rfl,st,m,d,q⟩⟩) ?_) (z5 hs) (zJ (by rfl))
  rintro us s1 ⟨vs,H1,I1,rv,v,t,μ1,α1,rfl,st,m,d,q⟩
  cases rv with
  | @cons _ u _ us' r1 r2=>
  obtain rfl:=hu us' r2
  have hlu:us'.length=1:=by rw[←r2.length];exact hl
  match us',hlu with
  |[uc],_=>
  refine Qu C I1 m d r1 q λtn tv P q ht kx hP hne=>?_
  have kk:=hk tn tv ht
  have k1:PySem.W.kitOne X.K tv uc=some (isAny tn cs):=by
   unfold PySem.W.kitAny at kk
   split at kk
   ·rename_i hb;rw[hb];exact kk
   ·rename_i hb;rw[hb];exact kk
   ·cases kk
  exact PySem.W.kia_one kx I1.kIn hP k1 hne λtk=>⟨.bl _,H1,I1.tok tk,rfl,q.here m rfl⟩
 ·rename_i ees kk pc
  split at hcs
  case isFalse=>cases hcs
  rename_i hlen
  obtain⟨us0,vs0,hu,hl,hst,hp,hk⟩:=yp C hcs
  refine PyProof.Rows.callWith_builtin1 (thn (zt ha (zt (VM hp) qb (z5 rfl)) (z5 hs) pos pins s σ H (λvs H2=>∃v tp H1 t μ1 α1,vs=[v,.ref tp]/\H1 tp=none/\H2=upd H1 tp (.tup vs0)/\Stp α H α1 H1/\MRel D φ α1 H1 μ1/\Den D φ α1 H1 t v/\Post D W φ α1 H1 σ (RV D φ Q) (WN cs t μ1)) I ⟨φ,α,τ,μ,sr,mr,p.bind.mono λt μ' α' H' st m q v d=>⟨by rw[hl];exact zk (by simpa using hlen),λtp htp=>⟨v,tp,H',t,μ',α',rfl,htp,rfl,st,m,d,q⟩⟩⟩) ?_) (z5 hs) (zJ (by rfl))
  rintro us s1 ⟨vs,H2,I1,rv,v,tp,H1,t,μ1,α1,rfl,htp,rfl,st,m,d,q⟩
  obtain⟨u,ut,rfl,r1,r2⟩:=vals2 rv
  have r2:ut=Value.ref tp:=r2
  subst r2
  have sm:jY H1 (upd H1 tp (.tup vs0)):=zd htp
  refine Qu C I1 (m.new sm) (d.step (Stp.new sm)) r1 (q.step (Stp.new sm)) λtn tv P q ht kx hP hne=>?_
  obtain⟨_,its,rvs,⟨o,ho,hcl,n,hd⟩⟩:=(show ObjOk X.prog X.w _ s1.heap tp (.tup vs0) from I1.hok tp _ z6)
  obtain rfl:=hu its rvs
  obtain⟨oc,odd,odt,osl⟩:=o
  simp only at hcl hd
  subst hcl hd
  exact PySem.W.kia_tup kx I1.kIn hP ho (hk tn tv ht) hne λtk=>⟨.bl _,_,I1.tok tk,rfl,q.here (m.new sm) rfl⟩
 ·cases hcs
end
section
variable {X:Cx}{D:DP}{W:XW}{Γ:Cn}{k:Nat}{pins:List (Addr×Obj)}{s:Shared}{σ:St}{H:Hp}{φ α:List Addr}{τ:Sl}{μ:Mem}{f g h:De}{a b c:Expr}{pos:Pos}{es:List Expr}
noncomputable def B1 (X:Cx)(D:DP)(W:XW)(fv:Value)(op:T->Mem->RE T):Prop:=
 ∀(pins:List (Addr×Obj)) (s:Shared) (σ:St) (H:Hp) (φ α:List Addr) (μ:Mem) (t:T) (v:V) (u:Value) (Q:VK),Inv X pins σ H s->MRel D φ α H μ->Den D φ α H t v->RelV v u->Post D W φ α H σ (RV D φ Q) (op t μ)->
  wpAny (model X.prog X.w) X.A (call fv [u]) (EP X pins σ Q) X.xe s
theorem Jq (C:Ck D W Γ X k) {x:Str} {id:String} {op:T->Mem->RE T} {p0:Pos} (hx:x∈Γ.G) (hg:Γ.gl x=.none) (hv:bootBuiltins x=some (.builtin id)) (hn:x≠"__name__") (hs:noStar a=true) (hb:B1 X D W (.builtin id) op) (ha:PE X a (rdE D W f)) :
  PE X (.Call (.Name x p0) [a] [] pos) (rdE D W (eB1 op f)):=by
 have hm:=C.glo _ hx
 rw[hg] at hm
 rintro pins s σ H Q I ⟨φ,α,τ,μ,sr,mr,p⟩
 refine wpAny_Call_Name_kw (we I (C.glb _ hx) hm hv ?_ hn (C.dbG _ hx))
 refine PyProof.Rows.callWith_builtin1 (thn (zt ha qb (z5 hs) pos pins s σ H (λvs H1=>∃v t μ1 α1,vs=[v]/\Stp α H α1 H1/\MRel D φ α1 H1 μ1/\Den D φ α1 H1 t v/\Post D W φ α1 H1 σ (RV D φ Q) (op t μ1)) I ⟨φ,α,τ,μ,sr,mr,p.bind.mono λt μ' α' H' st m q v d=>⟨v,t,μ',α',rfl,st,m,d,q⟩⟩) ?_) (z5 hs) (zJ (by rfl))
 rintro us s1 ⟨vs,H1,I1,rv,v,t,μ1,α1,rfl,st,m,d,q⟩
 obtain⟨u,rfl,r1⟩:=vals1 rv
 exact hb pins s1 σ H1 φ α1 μ1 t v u Q I1 m d r1 q
theorem Xy (C:Ck D W Γ X k) {x:Str} {id:String} {op:T->Mem->RE T} {p0:Pos} (hx:x∈Γ.G) (hg:Γ.gl x=.none) (hv:bootBuiltins x=some (.type id)) (hn:x≠"__name__") (hs:noStar a=true) (hb:B1 X D W (.type id) op) (ha:PE X a (rdE D W f)) :
  PE X (.Call (.Name x p0) [a] [] pos) (rdE D W (eB1 op f)):=by
 have hm:=C.glo _ hx
 rw[hg] at hm
 rintro pins s σ H Q I ⟨φ,α,τ,μ,sr,mr,p⟩
 refine wpAny_Call_Name_kw (we I (C.glb _ hx) hm hv ?_ hn (C.dbG _ hx))
 refine PyProof.Rows.callWith_type1 (thn (zt ha qb (z5 hs) pos pins s σ H (λvs H1=>∃v t μ1 α1,vs=[v]/\Stp α H α1 H1/\MRel D φ α1 H1 μ1/\Den D φ α1 H1 t v/\Post D W φ α1 H1 σ (RV D φ Q) (op t μ1)) I ⟨φ,α,τ,μ,sr,mr,p.bind.mono λt μ' α' H' st m q v d=>⟨v,t,μ',α',rfl,st,m,d,q⟩⟩) ?_) (z5 hs) (zJ (by rfl))
 rintro us s1 ⟨vs,H1,I1,rv,v,t,μ1,α1,rfl,st,m,d,q⟩
 obtain⟨u,rfl,r1⟩:=vals1 rv
 exact hb pins s1 σ H1 φ α1 μ1 t v u Q I1 m d r1 q
theorem z0K:B1 X D W (.builtin "len") yE:=by
 intro pins s σ H φ α μ t v u Q I mr d r p
 unfold yE at p
 split at p
 ·obtain⟨ad,xs,rfl,_,_,q,l⟩:=d
  exact qT pins s σ H _ _ Q I (.cons r .nil) ⟨ad,xs,rfl,.inl (.inl q),by rw[←l.length];exact p.here mr rfl⟩
 ·obtain⟨ad,xs,rfl,_,_,q,l⟩:=d
  exact qT pins s σ H _ _ Q I (.cons r .nil) ⟨ad,xs,rfl,.inr (.inl q),by rw[←l.length];exact p.here mr rfl⟩
 ·cases d
  obtain⟨hl,p⟩:=p.grd
  exact yD pins s σ H _ _ Q I (.cons r .nil) ⟨_,rfl,zk hl,p.here mr rfl⟩
 ·obtain⟨ts,hj,p⟩:=p.ex1
  obtain⟨ad,hi,rfl⟩:=d
  obtain⟨xs,q,l⟩:=mr.ob _ ad _ hi hj
  exact qT pins s σ H _ _ Q I (.cons r .nil) ⟨ad,xs,rfl,.inl (.inl (.inl q)),by rw[←l.length];exact Post.here p mr rfl⟩
 ·exact p.elim
theorem z1m:B1 X D W (.type "int") W3:=by
 intro pins s σ H φ α μ t v u Q I mr d r p
 unfold W3 at p
 split at p
 ·cases d;exact yd pins s σ H _ _ Q I (.cons r .nil) (.inl ⟨_,rfl,p.here mr rfl⟩)
 ·cases d;exact yd pins s σ H _ _ Q I (.cons r .nil) (.inr ⟨_,rfl,p.here mr rfl⟩)
 ·exact p.elim
theorem qA{p:Addr}{o:HO}(hp:H p=none):Stp α H (α++[p]) (upd H p o):=⟨⟨[p],rfl,by simpa using hp⟩,λb u _ e=>zd hp b u e,λb e=>by
 by_cases z:b=p
 ·rw[z,z6] at e;cases e
 ·rw[z8 z] at e;exact e⟩
theorem MRel.lay{p:Addr}{ts:List T}{vs:List V}(m:MRel D φ α H μ)(hp:H p=none)(l:DenL D φ α H ts vs):MRel D φ (α++[p]) (upd H p (.lst vs)) (μ++[.lst ts]):=by
 have st:Stp α H (α++[p]) (upd H p (.lst vs)):=qA hp
 have hl:=m.len
 refine⟨by simp[hl],?_,λb hb=>?_,λb hb=>?_,λi a o e1 e2=>?_⟩
 ·rw[List.nodup_append]
  refine⟨m.nd,by simp,λa ha b hb=>?_⟩
  rw[List.mem_singleton.mp hb]
  intro z
  exact zh m hp (z▸ha)
 ·rcases List.mem_append.mp hb with h|h
  ·exact m.dis b h
  ·rw[List.mem_singleton.mp h];exact zi m hp
 ·obtain⟨u,e,n⟩:=m.phi b hb
  exact⟨u,zd hp b u e,n⟩
 ·by_cases hi:i<α.length
  ·rw[List.getElem?_append_left hi] at e1
   rw[List.getElem?_append_left (by omega)] at e2
   have d:=m.ob i a o e1 e2
   obtain⟨u,q,_⟩:=d.some
   exact d.step st ((zd hp _ _ q).trans q.symm)
  ·rw[List.getElem?_append_right (by omega)] at e1 e2
   have hi':i-α.length=0:=by
    by_cases z:i-α.length=0
    ·exact z
    ·rw[List.getElem?_eq_none (by simp;omega)] at e1;cases e1
   have hi2:i-μ.length=0:=by omega
   rw[hi'] at e1
   rw[hi2] at e2
   have e1:some p=some a:=e1
   have e2:some (MO.lst ts)=some o:=e2
   cases e1;cases e2
   exact⟨vs,z6,l.step st⟩
theorem Post.lay{Q:VK}{p:Addr}{ts:List T}{vs:List V}(q:Post D W φ α H σ (RV D φ Q) (.ok (.mut μ.length) (μ++[.lst ts])))(m:MRel D φ α H μ)(hp:H p=none)(l:DenL D φ α H ts vs):Q (.ref p) (upd H p (.lst vs)):=
 q.ok (qA hp) (m.lay hp l) _ ⟨p,by rw[←m.len,List.getElem?_append_right (Nat.le_refl _)];simp,rfl⟩
theorem Yf{fs:List De}(hl:es.length<=room)(ha:EsOk X D W es fs):PE X (.List es pos) (rdE D W (JW fs)):=by
 refine PE.mono (Jx (qV ha)) ?_
 rintro σ H Q ⟨φ,α,τ,μ,sr,mr,p⟩
 refine⟨φ,α,τ,μ,sr,mr,p.bind.mono λts μ1 α1 H1 st m q vs dl hn=>⟨by rw[hn];exact zk hl,λz hz=>q.lay m hz dl⟩⟩
theorem kh:∀{ts:List T} {bs:List Bool} {vs:List V} {us:List Value},bools ts=some bs->DenL D φ α H ts vs->Vals vs us->us=bs.map Value.bool
 |[],bs,vs,us,h,l,r=>by
  simp[bools] at h;subst h
  have l:vs=[]:=l
  subst l;cases r;rfl
 |t::ts,bs,vs,us,h,l,r=>by
  obtain⟨v,w,rfl,d,l⟩:=l
  cases t with
  |bl b=>
   simp only[bools] at h
   cases q:bools ts with
   |none=>rw[q] at h;cases h
   |some cs=>
    rw[q] at h;cases h
    cases r with
    |cons r1 r2=>
     cases d;cases r1
     rw[kh q l r2];rfl
  |_=>simp[bools] at h
theorem z0J(hh:X.calm=true):B1 X D W (.builtin "all") KC:=by
 intro pins s σ H φ α μ t v u Q I mr d r p
 unfold KC at p
 split at p
 case h_2=>exact p.elim
 rename_i xs
 obtain⟨bs,hb,p⟩:=p.som
 obtain⟨ad,vs,rfl,_,_,q,l⟩:=d
 cases r
 obtain⟨its,rv,pl,hz⟩:=I.list (.inl q)
 have eb:=kh hb l rv
 have hl:=pl.isList
 have hlt:ad<s.heap.objs.size:=by obtain⟨_,e,_⟩:=hl;exact Heap.lt_size e
 refine call_all_walk (wpAny_pyIter_list hl ?_)
 refine⟨s.heap.objs.size,[s.heap.objs.size,ad],[s.heap.objs.size],its.toArray.size,_,_,λi=>(bs[i]?).getD true,rfl,Walks.list (A:=X.A.in1) (I.ok.hd hh) _ ad (Nat.ne_of_lt hlt) its.toArray,
  ⟨⟨_,Heap.get?_push_size _ rfl,rfl,rfl⟩,hl.push _⟩,λi v s' Q' E' hP hQ=>?_,λh' tk hk=>?_⟩
 ·have hP':its[i]?=some v:=by simpa using hP
  rw[eb,List.getElem?_map] at hP'
  cases e:bs[i]? with
  |none=>rw[e] at hP';cases hP'
  |some b=>
   rw[e] at hP'
   simp at hP'
   subst hP'
   simp only[e,Option.getD_some] at hQ
   exact wpAny_truthy_bool hQ
 ·have e:((List.range its.toArray.size).all λi=>(bs[i]?).getD true)=bs.all id:=by
   have hn:its.toArray.size=bs.length:=by simp[eb]
   rw[hn]
   rw[Bool.eq_iff_iff]
   simp only[List.all_eq_true,List.mem_range,id_eq]
   constructor
   ·intro h b hb'
    obtain⟨i,hi,rfl⟩:=List.mem_iff_getElem.mp hb'
    have:=h i hi
    simpa[hi] using this
   ·intro h i hi
    have:=h bs[i] (List.getElem_mem hi)
    simpa[hi] using this
  rw[e]
  have kp:∀b x,s.heap.get? b=some x->h'.get? b=some x:=λb x e=>hk b x (λhm=>by rw[List.mem_singleton.mp hm] at e;exact Nat.lt_irrefl _ (Heap.lt_size e)) (Heap.get?_push_of_some _ e)
  exact⟨.bl (bs.all id),H,I.kept (t':=tk) kp,rfl,p.here mr rfl⟩
theorem Stp.turn{x:Addr}{o:HO}(hx:x∈α)(hh:∃o',H x=some o'):Stp α H α (upd H x o):=by
 refine⟨⟨[],by simp,by simp⟩,λb u n e=>?_,λb e=>?_⟩
 ·rw[z8 (λ(z:b=x)=>n (by rw[z];exact hx))];exact e
 ·by_cases z:b=x
  ·rw[z,z6] at e;cases e
  ·rw[z8 z] at e;exact e
theorem MRel.turn{i:Nat}{x:Addr}{o:HO}{mo:MO}(m:MRel D φ α H μ)(hx:α[i]?=some x)(hi:i<μ.length)(st:Stp α H α (upd H x o))(d:DenO D φ α (upd H x o) mo x):MRel D φ α (upd H x o) (μ.set i mo):=by
 refine⟨by simp[m.len],m.nd,m.dis,λb hb=>?_,λj y o' e1 e2=>?_⟩
 ·obtain⟨u,hu,n⟩:=m.phi b hb
  exact⟨u,st.keep b u (λz=>m.dis b z hb) hu,n⟩
 ·by_cases q:i=j
  ·subst q
   rw[hx] at e1;cases e1
   rw[List.getElem?_set_self hi] at e2;cases e2
   exact d
  ·rw[List.getElem?_set_ne q] at e2
   have ne:y≠x:=λz=>by
    subst z
    obtain⟨h1,e1'⟩:=List.getElem?_eq_some_iff.mp e1
    obtain⟨h2,e2'⟩:=List.getElem?_eq_some_iff.mp hx
    exact q ((List.getElem_inj m.nd).mp (e2'.trans e1'.symm))
   exact DenO.step st (z8 ne) (m.ob j y o' e1 e2)
theorem WH{i:Nat}{x:Addr}{xs:List V}{ts:List T}{v:V}{t:T}(m2:MRel D φ α H μ)(hx2:α[i]?=some x)(hμ:μ[i]?=some (.lst ts))(hH:H x=some (.lst xs))(l:DenL D φ α H ts xs)(d:Den D φ α H t v) :
  Stp α H α (upd H x (.lst (xs++[v])))/\MRel D φ α (upd H x (.lst (xs++[v]))) (μ.set i (.lst (ts++[t]))):=by
 have st3:Stp α H α (upd H x (.lst (xs++[v]))):=Stp.turn (List.mem_of_getElem? hx2) ⟨_,hH⟩
 have hi:i<μ.length:=(List.getElem?_eq_some_iff.mp hμ).1
 exact⟨st3,m2.turn hx2 hi st3 ⟨_,z6,(l.step st3).append ⟨v,[],rfl,d.step st3,rfl⟩⟩⟩
theorem YS{o:Expr}{pa pc:Pos}{go:De}(hp:zR o=true)(hs:noStar a=true)(hline:(pa.endLine == pc.line)=true)(ho:PE X o (rdE D W go))(ha:PE X a (rdE D W f)) :
  PE X (.Call (.Attribute o "append" pa) [a] [] pc) (rdE D W (QS go f)):=by
 have hb:starEach [a] X.env=[(false,eval a X.env)]:=z5 hs
 refine PE.mono (XR PySem.F.plainAttrs_list PySem.F.slot_list_append PySem.F.type_list_append y7 ho (zt ha qb (z5 hs)) (zX hp) (by rw[hb];rfl) hline (z5 hs) rfl) ?_
 rintro σ H Q ⟨φ,α,τ,μ,sr,mr,p⟩
 refine⟨φ,α,τ,μ,sr,mr,p.bind.mono λot μ1 α1 H1 st1 m1 q ov dv=>?_⟩
 split at q
 case h_2=>exact q.elim
 rename_i i
 obtain⟨K,Z,⟨⟨ts0,hμ0⟩,hf⟩,hk,hz⟩:=q
 obtain⟨x,hx,rfl⟩:=dv
 obtain⟨xs0,hH0,l0⟩:=m1.ob _ x _ hx hμ0
 refine⟨.inl ⟨rfl,_,.inl (.inl hH0)⟩,φ,α1,τ,μ1,sr.step st1,m1,_,Z,hf,?_,hz⟩
 rintro t μ2 ⟨ts,hμ,hl,q2⟩ α2 H2 st2 m2 v d
 obtain⟨β,e2,_⟩:=st2.ext
 have hx2:α2[i]?=some x:=by
  rw[e2,List.getElem?_append_left (List.getElem?_eq_some_iff.mp hx).1];exact hx
 obtain⟨xs,hH,l⟩:=m2.ob i x _ hx2 hμ
 obtain⟨st3,m3⟩:=WH m2 hx2 hμ hH l d
 refine⟨x,xs,v,rfl,rfl,hH,?_,?_⟩
 ·rw[←l.length];exact Nat.lt_of_lt_of_le hl (zk (Nat.le_refl _))
 ·exact hk _ _ q2 α2 _ (st2.trans st3) m3 .non rfl
end
structure ItV(D:DP)(J:It)(Ok:List Addr->List Addr->Hp->Prop)(xs:List T):Prop where
 go:∀(i:Nat) φ α H,Ok φ α H->i<xs.length->J.go i H
 yld:∀(i:Nat) φ α H v H' t,Ok φ α H->xs[i]?=some t->J.yld i H v H'->jY H H'/\Den D φ α H' t v
 stop:∀φ α H,Ok φ α H->J.stop xs.length H
noncomputable def OkI (D:DP)(φ α:List Addr)(H:Hp)(xs:List T)(lv:Mem->Prop)(Ok:List Addr->List Addr->Hp->Prop):Prop:=∀φ' α' H' μ',Lk φ α H φ' α' H'->MRel D φ' α' H' μ'->lv μ'->Ok φ' α' H'
noncomputable def rdI (D:DP)(W:XW)(f:Di):TI:=λσ H R=>RdP D H σ λφ α τ μ=>
 Post D W φ α H σ (λp μ' α' H'=>∀J Ok,ItV D J Ok p.1->OkI D φ α' H' p.1 p.2 Ok->p.2 μ'->R J H') (f τ μ).re
theorem Lk.trans{φ φ1 φ2 α α1 α2:List Addr}{H H1 H2:Hp}(a:Lk φ α H φ1 α1 H1)(b:Lk φ1 α1 H1 φ2 α2 H2):Lk φ α H φ2 α2 H2:=
 ⟨λx o n1 n2 e=>let ⟨m1,m2,e1⟩:=a.ob x o n1 n2 e;b.ob x o m1 m2 e1,λi x e=>b.st i x (a.st i x e)⟩
theorem Qr{D:DP}{φ α:List Addr}{H:Hp}{γ:Type}{f:γ->T}{xs:List γ}{i:Nat}{t:T}(h:(xs.map f)[i]?=some t):∃a,xs[i]?=some a/\t=f a:=by
 rw[List.getElem?_map] at h
 cases q:xs[i]? with
 |none=>rw[q] at h;cases h
 |some a=>rw[q] at h;cases h;exact⟨a,rfl,rfl⟩
section
variable {X:Cx}{D:DP}{W:XW}{Γ:Cn}{k:Nat}{pins:List (Addr×Obj)}{s:Shared}{σ:St}{H:Hp}{φ α:List Addr}{τ:Sl}{μ:Mem}{f g h:De}{a b c tg:Expr}{pos:Pos}{es:List Expr}
theorem uj{K:PySem.W.Frag}{ad:Addr}{xs:List T}:ItV D (Itl K ad) (λφ α H=>∃vs,Rd H ad (.lst vs)/\DenL D φ α H xs vs) xs:=
 ⟨λi φ α H ⟨vs,ok,l⟩ hi=>⟨vs,vs[i]'(by rw[←l.length];exact hi),.inl ok,by simp⟩,λi φ α H v H' t ⟨vs,ok,l⟩ hi y=>by
  obtain⟨rfl,y⟩:=y
  obtain⟨x,hx,d⟩:=l.get hi
  have e:=y vs (.inl ok)
  rw[e] at hx;cases hx;exact⟨λ_ _ z=>z,d⟩,λφ α H ⟨vs,ok,l⟩=>⟨vs,.inl ok,by rw[l.length];exact Nat.le_refl _⟩⟩
theorem Xm{K:PySem.W.Frag}{ad:Addr}{xs:List T}:ItV D (Itt K ad) (λφ α H=>∃vs,Rd H ad (.tup vs)/\DenL D φ α H xs vs) xs:=
 ⟨λi φ α H ⟨vs,ok,l⟩ hi=>⟨vs,vs[i]'(by rw[←l.length];exact hi),.inl ok,by simp⟩,λi φ α H v H' t ⟨vs,ok,l⟩ hi y=>by
  obtain⟨rfl,y⟩:=y
  obtain⟨x,hx,d⟩:=l.get hi
  have e:=y vs (.inl ok)
  rw[e] at hx;cases hx;exact⟨λ_ _ z=>z,d⟩,λφ α H ⟨vs,ok,l⟩=>⟨vs,.inl ok,by rw[l.length];exact Nat.le_refl _⟩⟩
theorem W9{n i j:Nat}(h:(List.range n)[i]?=some j):j=i:=by
 have:=(List.getElem?_eq_some_iff.mp h).2
 simpa using this.symm
noncomputable def ItC(z:Str):It:=⟨λi _=>i<z.cps.toList.length,λi H x H'=>H'=H/\∃c,z.cps.toList[i]?=some c/\x=.str ⟨#[c]⟩,λi _=>z.cps.toList.length<=i⟩
theorem K7{z:Str}:ItV D (ItC z) (λ_ _ _=>True) (z.cps.toList.map λc=>T.str ⟨#[c]⟩):=
 ⟨λi φ α H _ hi=>by (show i<_);simpa using hi,λi φ α H v H' t _ hi y=>by
  obtain⟨j,hj,rfl⟩:=Qr (D:=D) (φ:=φ) (α:=α) (H:=H) hi
  obtain⟨rfl,c,hc,rfl⟩:=y
  rw[hj] at hc;cases hc;exact⟨λ_ _ z=>z,rfl⟩,λφ α H _=>by show _<=_;simp⟩
theorem WX {P:Program} {w:World} {K:PySem.W.Frag} {tg:Expr} {kd:String} (hk:kd="str_ascii_iterator"\/kd="str_iterator") (it:Addr) (z:Str) (t0:Tok):Turn P w K tg (ItC z) [it] it (λi h=>h.IsStrIter it kd z t0 i) where
 mem:=by simp
 obj:=λi h st b hb=>by
  have e:b=it:=by simpa using hb
  subst e
  obtain⟨o,e,c,d⟩:=st
  exact⟨o,e,λv z=>by rw[d] at z;cases z⟩
 keep:=λi h h' st k=>let ⟨o,ho,r⟩:=st;⟨o,k it (by simp) o ho,r⟩
 item:=by
  intro X hP hw hK hc i pins s σ H E I hf st hg
  subst hP hw hK
  obtain⟨f0,f1,f2,f3,f4,f5⟩:=hf it (by simp)
  have hi:i<z.cps.size:=by simpa[ItC] using hg
  have hcx:z.cps[i]?=some z.cps[i]:=Array.getElem?_eq_getElem hi
  have hcl:z.cps.toList[i]?=some z.cps[i]:=by rw[Array.getElem?_toList];exact hcx
  rcases hk with rfl|rfl
  ·refine wpAny_pyNext_ascii_item st hcx λh' st' sb=>?_
   have I1:Inv X pins σ H {s with heap:=h',toks:=s.toks+1}:=I.turned (λb o hb e=>(sb.2 b hb).trans e) f0 f1 f3 f4 f5
   obtain⟨o,e,c,d⟩:=id st'
   exact⟨.str ⟨#[z.cps[i]]⟩ s.toks,rfl,xU (s:={s with heap:=h',toks:=s.toks+1}) e c d (by decide) ⟨.str ⟨#[z.cps[i]]⟩,H,I1,⟨_,rfl⟩,⟨rfl,z.cps[i],hcl,rfl⟩,st',λb hb=>(hf b hb).1⟩⟩
  ·refine wpAny_pyNext_wide_item st hcx λh' st' sb=>?_
   have I1:Inv X pins σ H {s with heap:=h',toks:=s.toks+1}:=I.turned (λb o hb e=>(sb.2 b hb).trans e) f0 f1 f3 f4 f5
   obtain⟨o,e,c,d⟩:=id st'
   exact⟨.str ⟨#[z.cps[i]]⟩ s.toks,rfl,xU (s:={s with heap:=h',toks:=s.toks+1}) e c d (by decide) ⟨.str ⟨#[z.cps[i]]⟩,H,I1,⟨_,rfl⟩,⟨rfl,z.cps[i],hcl,rfl⟩,st',λb hb=>(hf b hb).1⟩⟩
 done:=by
  intro X hP hw hK hc i pins s σ H E I hf st hg
  subst hP hw hK
  obtain⟨f0,f1,f2,f3,f4,f5⟩:=hf it (by simp)
  have hx:z.cps[i]?=none:=Array.getElem?_eq_none (by have:z.cps.toList.length<=i:=hg;simpa using this)
  rcases hk with rfl|rfl
  ·exact wpAny_pyNext_ascii_end (I.ok.hd hc) st hx λh' eb=>⟨rfl,I.turned (t':=s.toks) (λb o hb e=>eb b o hb e) f0 f1 f3 f4 f5⟩
  ·exact wpAny_pyNext_wide_end (I.ok.hd hc) st hx λh' eb=>⟨rfl,I.turned (t':=s.toks) (λb o hb e=>eb b o hb e) f0 f1 f3 f4 f5⟩
 self:=λ_ _ _ _ _ st h=>by
  rcases hk with rfl|rfl
  ·exact wpAny_pyIter_striter_ascii st h
  ·exact wpAny_pyIter_striter_wide st h
theorem Xu(ha:PE X a (rdE D W f)):PI X tg a (rdI D W (iE f)):=by
 rintro pins s σ H R I ⟨φ,α,τ,μ,sr,mr,p⟩
 refine thn (sub ha I sr mr p) ?_
 rintro u s1 ⟨v,H1,t,μ1,α1,I1,r1,st1,sr1,mr1,d1,p1⟩
 cases t with
 |lst ts=>
  obtain⟨ad,vs,rfl,n1,n2,q,l⟩:=d1
  cases r1
  obtain⟨its,rv,pl,hz⟩:=I1.list (.inl q)
  refine wpAny_pyIter_list pl.isList ?_
  refine⟨s1.heap.objs.size,[s1.heap.objs.size],_,_,H1,rfl,I1.kept (t':=s1.toks) λb o e=>Heap.get?_push_of_some _ e,xR ad _,⟨_,Heap.get?_push_size _ rfl,rfl,rfl⟩,λb hb=>?_,?_⟩
  ·have e:b=s1.heap.objs.size:=by simpa using hb
   subst e
   exact I1.fpOk (Nat.le_refl _) (I1.hok.fresh (Nat.le_refl _))
  ·have p2:Post D W φ α1 H1 σ _ (RE.ok (ts,lvT) μ1):=p1
   exact p2.ok (Stp.refl _ _) mr1 _ _ uj (λφ' α' H' μ' lk _ _=>by
    obtain⟨a',ws,e,_,_,q',l'⟩:=Den.lk lk (show Den D φ α1 H1 (.lst ts) (.ref ad) from ⟨ad,vs,rfl,n1,n2,q,l⟩)
    cases e;exact⟨ws,q',l'⟩) trivial
 |tup ts=>
  obtain⟨ad,vs,rfl,n1,n2,q,l⟩:=d1
  cases r1
  obtain⟨its,rv,pl,hz⟩:=I1.tuple (.inl q)
  refine wpAny_pyIter_tuple (show s1.heap.IsTuple ad its.toArray from pl) ?_
  refine⟨s1.heap.objs.size,[s1.heap.objs.size],_,_,H1,rfl,I1.kept (t':=s1.toks) λb o e=>Heap.get?_push_of_some _ e,ZD ad _,⟨_,Heap.get?_push_size _ rfl,rfl,rfl⟩,λb hb=>?_,?_⟩
  ·have e:b=s1.heap.objs.size:=by simpa using hb
   subst e
   exact I1.fpOk (Nat.le_refl _) (I1.hok.fresh (Nat.le_refl _))
  ·have p2:Post D W φ α1 H1 σ _ (RE.ok (ts,lvT) μ1):=p1
   exact p2.ok (Stp.refl _ _) mr1 _ _ Xm (λφ' α' H' μ' lk _ _=>by
    obtain⟨a',ws,e,_,_,q',l'⟩:=Den.lk lk (show Den D φ α1 H1 (.tup ts) (.ref ad) from ⟨ad,vs,rfl,n1,n2,q,l⟩)
    cases e;exact⟨ws,q',l'⟩) trivial
 | «mut» j=>
  obtain⟨ad,hj,rfl⟩:=d1
  cases r1
  have p2:Post D W φ α1 H1 σ _ (λK _=>∃xs,μ1[j]?=some (.lst xs)/\K (xs,lvM j xs) μ1):=p1
  obtain⟨xs,hx,p2⟩:=p2.ex1
  obtain⟨vs,q,l⟩:=mr1.ob j ad _ hj hx
  obtain⟨its,rv,pl,hz⟩:=I1.list (.inl (.inl q))
  refine wpAny_pyIter_list pl.isList ?_
  refine⟨s1.heap.objs.size,[s1.heap.objs.size],_,_,H1,rfl,I1.kept (t':=s1.toks) λb o e=>Heap.get?_push_of_some _ e,xR ad _,⟨_,Heap.get?_push_size _ rfl,rfl,rfl⟩,λb hb=>?_,?_⟩
  ·have e:b=s1.heap.objs.size:=by simpa using hb
   subst e
   exact I1.fpOk (Nat.le_refl _) (I1.hok.fresh (Nat.le_refl _))
  ·have p2:Post D W φ α1 H1 σ _ (RE.ok (xs,lvM j xs) μ1):=p2
   exact p2.ok (Stp.refl _ _) mr1 _ _ uj (λφ' α' H' μ' lk m hl=>by
    obtain⟨ws,q',l'⟩:=m.ob j ad _ (lk.st j ad hj) hl
    exact⟨ws,.inl q',l'⟩) hx
 |str z=>
  have d1:v=.str z:=d1
  subst d1
  obtain⟨t0,rfl⟩:=r1
  have fin:∀{kd:String},(kd="str_ascii_iterator"\/kd="str_iterator")->PIE X pins σ tg R (.ref s1.heap.objs.size) {s1 with heap:=s1.heap.push {cls:=.type kd,data:=.fields #[.str z t0,.int 0 0]}}:=λ{kd} hk=>by
   refine⟨s1.heap.objs.size,[s1.heap.objs.size],_,_,H1,rfl,I1.kept (t':=s1.toks) λb o e=>Heap.get?_push_of_some _ e,WX hk _ z t0,⟨_,Heap.get?_push_size _ rfl,rfl,rfl⟩,λb hb=>?_,?_⟩
   ·have e:b=s1.heap.objs.size:=by simpa using hb
    subst e
    exact I1.fpOk (Nat.le_refl _) (I1.hok.fresh (Nat.le_refl _))
   ·have p2:Post D W φ α1 H1 σ _ (RE.ok (kM z,lvT) μ1):=p1
    exact p2.ok (Stp.refl _ _) mr1 _ _ K7 (λ_ _ _ _ _ _ _=>True.intro) trivial
  cases ha:z.cps.all (·<128) with
  |true=>exact wpAny_pyIter_ascii ha (fin (.inl rfl))
  |false=>exact wpAny_pyIter_wide ha (fin (.inr rfl))
 |_=>exact Post.elim p1
theorem Wx{x:V}{xs:List V}{us:List Value}(h:Vals (x::xs) us):∃u r,us=u::r/\RelV x u/\Vals xs r:=by
 cases h with
 |cons r q=>exact⟨_,_,rfl,r,q⟩
theorem vals3{x y z:V}{us:List Value}(h:Vals [x,y,z] us):∃u v w,us=[u,v,w]/\RelV x u/\RelV y v/\RelV z w:=by
 obtain⟨u,_,rfl,a,h⟩:=Wx h
 obtain⟨v,_,rfl,b,h⟩:=Wx h
 obtain⟨w,_,rfl,c,h⟩:=Wx h
 cases h
 exact⟨_,_,_,rfl,a,b,c⟩
noncomputable def ItS(lo c:Int)(n:Nat):It:=⟨λi _=>i<n,λi H x H'=>H'=H/\x=.int (lo+i * c),λi _=>n<=i⟩
theorem uf{P:Program}{w:World}{K:PySem.W.Frag}{tg:Expr}(it:Addr)(lo c:Int)(n:Nat):Turn P w K tg (ItS lo c n) [it] it (λi h=>IsRangeIter h it (lo+(i:Nat) * c) ((n:Int)-(i:Nat)) c) where
 mem:=by simp
 obj:=λi h st b hb=>by
  have e:b=it:=by simpa using hb
  subst e
  exact⟨_,st,λv z=>by cases (show Data.fields _=Data.cell v from z)⟩
 keep:=λi h h' st k=>k it (by simp) _ st
 item:=by
  intro X hP hw hK hc i pins s σ H E I hf st hg
  subst hP hw hK
  obtain⟨f0,f1,f2,f3,f4,f5⟩:=hf it (by simp)
  have W:=Walks.range (prog:=X.prog) (w:=X.w) (I.ok.hd hc) it lo c n
  refine W.item i s _ _ hg st λv h' tk hv st' kk=>?_
  obtain⟨t,rfl⟩:=hv
  have I1:Inv X pins σ H {s with heap:=h',toks:=tk}:=I.turned (λb o hb e=>kk b o (by simpa using hb) e) f0 f1 f3 f4 f5
  exact⟨_,rfl,xU (s:={s with heap:=h',toks:=tk}) (n:="range_iterator") st' rfl rfl (by decide) ⟨.int (lo+i * c),H,I1,⟨t,rfl⟩,⟨rfl,rfl⟩,st',λb hb=>(hf b hb).1⟩⟩
 done:=by
  intro X hP hw hK hc i pins s σ H E I hf st hg
  subst hP hw hK
  obtain⟨f0,f1,f2,f3,f4,f5⟩:=hf it (by simp)
  exact wpAny_pyNext_range_end (I.ok.hd hc) st (by have:n<=i:=hg;omega) λh' eb=>⟨rfl,I.turned (t':=s.toks) (λb o hb e=>eb b o hb e) f0 f1 f3 f4 f5⟩
 self:=λ_ _ _ _ _ st h=>wpAny_pyIter_rangeiter st h
theorem um{P:Program}{w:World}{K:PySem.W.Frag}{tg:Expr}(it:Addr)(lo c:Int)(n:Nat):Turn P w K tg (ItS lo c n) [it] it (λi h=>IsLongIter h it (lo+(i:Nat) * c) ((n:Int)-(i:Nat)) c) where
 mem:=by simp
 obj:=λi h st b hb=>by
  have e:b=it:=by simpa using hb
  subst e
  exact⟨_,st,λv z=>by cases (show Data.fields _=Data.cell v from z)⟩
 keep:=λi h h' st k=>k it (by simp) _ st
 item:=by
  intro X hP hw hK hc i pins s σ H E I hf st hg
  subst hP hw hK
  obtain⟨f0,f1,f2,f3,f4,f5⟩:=hf it (by simp)
  have W:=Walks.longrange (prog:=X.prog) (w:=X.w) (I.ok.hd hc) it lo c n
  refine W.item i s _ _ hg st λv h' tk hv st' kk=>?_
  obtain⟨t,rfl⟩:=hv
  have I1:Inv X pins σ H {s with heap:=h',toks:=tk}:=I.turned (λb o hb e=>kk b o (by simpa using hb) e) f0 f1 f3 f4 f5
  exact⟨_,rfl,xU (s:={s with heap:=h',toks:=tk}) (n:="longrange_iterator") st' rfl rfl (by decide) ⟨.int (lo+i * c),H,I1,⟨t,rfl⟩,⟨rfl,rfl⟩,st',λb hb=>(hf b hb).1⟩⟩
 done:=by
  intro X hP hw hK hc i pins s σ H E I hf st hg
  subst hP hw hK
  obtain⟨f0,f1,f2,f3,f4,f5⟩:=hf it (by simp)
  exact wpAny_pyNext_long_end (I.ok.hd hc) st (by have:n<=i:=hg;omega) λh' eb=>⟨rfl,I.turned (t':=s.toks) (λb o hb e=>eb b o hb e) f0 f1 f3 f4 f5⟩
 self:=λ_ _ _ _ _ st h=>wpAny_pyIter_longiter st h
theorem KW{a b c:Int}(hc:0<c):Builtin.Range.rangeSize a b c=if a<b then (b-a-1) / c+1 else 0:=by
 unfold Builtin.Range.rangeSize
 rw[if_pos hc]
theorem vV{pins:List (Addr×Obj)}{σ:St}{H:Hp}{s:Shared}{R:It->Hp->Prop}{E:Value->Shared->Prop}{lo hi c:Int}{t u v:Tok}{tk:Nat}(I:Inv X pins σ H s)(h3:0<c)
  (q:R (ItS lo c (if lo<hi then (hi-lo-1) / c+1 else 0:Int).toNat) H):wpAny (model X.prog X.w) X.A (pyIter (.ref s.heap.objs.size)) (PIE X pins σ tg R) E {s with heap:=s.heap.push {cls:=.type "range",data:=.fields #[.int lo t,.int hi u,.int c v]},toks:=tk}:=by
 have I1:Inv X pins σ H {s with heap:=s.heap.push {cls:=.type "range",data:=.fields #[.int lo t,.int hi u,.int c v]},toks:=tk}:=I.kept λb o e=>Heap.get?_push_of_some _ e
 have e1:lo+((0:Nat):Int) * c=lo:=by simp
 have e2:(((if lo<hi then (hi-lo-1) / c+1 else 0:Int).toNat:Nat):Int)-((0:Nat):Int)=Builtin.Range.rangeSize lo hi c:=by
  rw[KW h3]
  have:0<=(if lo<hi then (hi-lo-1) / c+1 else 0):=by
   split
   ·have h1:0<=(hi-lo-1) / c:=Int.ediv_nonneg (by omega) (by omega)
    omega
   ·omega
  omega
 have fr:∀b∈[(s.heap.push {cls:=.type "range",data:=.fields #[.int lo t,.int hi u,.int c v]}).objs.size],b=(s.heap.push {cls:=.type "range",data:=.fields #[.int lo t,.int hi u,.int c v]}).objs.size:=λb hb=>by simpa using hb
 cases hsm:Builtin.Range.small lo hi c with
 |true=>
  refine wpAny_pyIter_range (IsRange.new ..) hsm ?_
  refine⟨(s.heap.push {cls:=.type "range",data:=.fields #[.int lo t,.int hi u,.int c v]}).objs.size,[(s.heap.push {cls:=.type "range",data:=.fields #[.int lo t,.int hi u,.int c v]}).objs.size],_,_,H,rfl,
   I1.kept (t':=tk) λb o e=>Heap.get?_push_of_some _ e,uf _ lo c (if lo<hi then (hi-lo-1) / c+1 else 0:Int).toNat,?_,λb hb=>?_,q⟩
  ·show IsRangeIter _ _ (lo+((0:Nat):Int) * c) ((((if lo<hi then (hi-lo-1) / c+1 else 0:Int).toNat:Nat):Int)-((0:Nat):Int)) c
   rw[e1,e2]
   exact Heap.get?_push_size _ rfl
  ·rw[fr b hb]
   exact I1.fpOk (Nat.le_refl _) (I1.hok.fresh (Nat.le_refl _))
 |false=>
  refine wpAny_pyIter_longrange (IsRange.new ..) hsm ?_
  refine⟨(s.heap.push {cls:=.type "range",data:=.fields #[.int lo t,.int hi u,.int c v]}).objs.size,[(s.heap.push {cls:=.type "range",data:=.fields #[.int lo t,.int hi u,.int c v]}).objs.size],_,_,H,rfl,
   I1.kept (t':=tk) λb o e=>Heap.get?_push_of_some _ e,um _ lo c (if lo<hi then (hi-lo-1) / c+1 else 0:Int).toNat,?_,λb hb=>?_,q⟩
  ·show IsLongIter _ _ (lo+((0:Nat):Int) * c) ((((if lo<hi then (hi-lo-1) / c+1 else 0:Int).toNat:Nat):Int)-((0:Nat):Int)) c
   rw[e1,e2]
   exact Heap.get?_push_size _ rfl
  ·rw[fr b hb]
   exact I1.fpOk (Nat.le_refl _) (I1.hok.fresh (Nat.le_refl _))
theorem vb{lo c:Int}{n:Nat}:ItV D (ItS lo c n) (λ_ _ _=>True) ((List.range n).map λ(i:Nat)=>T.int (lo+i * c)):=
 ⟨λi φ α H _ hi=>by (show i<n);simpa using hi,λi φ α H v H' t _ hi y=>by
  obtain⟨j,hj,rfl⟩:=Qr (D:=D) (φ:=φ) (α:=α) (H:=H) hi
  rw[W9 hj]
  obtain⟨rfl,rfl⟩:=y
  exact⟨λ_ _ z=>z,rfl⟩,λφ α H _=>by show n<=_;simp⟩
theorem QL (C:Ck D W Γ X k) {p0:Pos} (hx:("range":Str)∈Γ.G) (hg:Γ.gl "range"=.none) (ha':noStar a=true) (hb':noStar b=true) (hc':noStar c=true) (ha:PE X a (rdE D W f)) (hb:PE X b (rdE D W g)) (hc:PE X c (rdE D W h)) :
  PI X tg (.Call (.Name "range" p0) [a,b,c] [] pos) (rdI D W (XT f g h)):=by
 have hm:=C.glo _ hx
 rw[hg] at hm
 rintro pins s σ H R I ⟨φ,α,τ,μ,sr,mr,p⟩
 have s3:starEach [a,b,c] X.env=[(false,eval a X.env),(false,eval b X.env),(false,eval c X.env)]:=by
  rw[z5 ha',z5 hb',z5 hc'];rfl
 refine Call_ (we I (C.glb _ hx) hm boot_range (PyProof.Rows.callWith_type1 (thn (zt ha (zt hb (zt hc qb (z5 hc')) (z5 hb')) (z5 ha') pos pins s σ H (λvs H1=>∃i j l:Int,vs=[.int i,.int j,.int l]/\(0<l/\l<1073741824)/\R (ItS i l (if i<j then (j-i-1) / l+1 else 0:Int).toNat) H1) I ?_) ?_) (z5 ha') (zJ (by simp[hb',hc']))))
 ·refine⟨φ,α,τ,μ,sr,mr,p.bind.mono λx μ1 α1 H1 st1 m1 q1 v1 d1=>⟨φ,α1,τ,μ1,sr.step st1,m1,q1.bind.mono λy μ2 α2 H2 st2 m2 q2 v2 d2=>⟨φ,α2,τ,μ2,(sr.step st1).step st2,m2,q2.bind.mono λz μ3 α3 H3 st3 m3 q3 v3 d3=>?_⟩⟩⟩
  cases x with
  |int a=>
   cases y with
   |int b=>
    cases z with
    |int c=>
     have q3:Post D W φ α3 H3 σ _ (RE.grd (inL a/\inL b/\0<c/\c<1073741824) (RE.ok (zU a b c,lvT) μ3)):=q3
     obtain⟨hh,q3⟩:=q3.grd
     have d1:v1=.int _:=d1
     have d2:v2=.int _:=d2
     have d3:v3=.int _:=d3
     subst d1 d2 d3
     exact⟨_,_,_,rfl,hh.2.2,q3.ok (Stp.refl _ _) m3 _ _ vb (λ_ _ _ _ _ _ _=>True.intro) trivial⟩
    |_=>exact Post.elim q3
   |_=>exact Post.elim q3
  |_=>exact Post.elim q3
 ·rintro us s1 ⟨vs,H1,I1,rv,i,j,l,rfl,h3,q⟩
  obtain⟨u1,u2,u3,rfl,r1,r2,r3⟩:=vals3 rv
  obtain⟨t1,rfl⟩:=r1
  obtain⟨t2,rfl⟩:=r2
  obtain⟨t3,rfl⟩:=r3
  exact call_range_3 (by omega) (vV I1 h3.1 q) (.inl (PyProof.noPylong_small (by omega)))
theorem QC (C:Ck D W Γ X k) {p0:Pos} (hx:("range":Str)∈Γ.G) (hg:Γ.gl "range"=.none) (ha':noStar a=true) (hb':noStar b=true) (ha:PE X a (rdE D W f)) (hb:PE X b (rdE D W g)) :
  PI X tg (.Call (.Name "range" p0) [a,b] [] pos) (rdI D W (kW f g)):=by
 have hm:=C.glo _ hx
 rw[hg] at hm
 rintro pins s σ H R I ⟨φ,α,τ,μ,sr,mr,p⟩
 refine Call_ (we I (C.glb _ hx) hm boot_range (PyProof.Rows.callWith_type1 (thn (zt ha (zt hb qb (z5 hb')) (z5 ha') pos pins s σ H (λvs H1=>∃i j:Int,vs=[.int i,.int j]/\R (ItS i 1 (if i<j then (j-i-1) / 1+1 else 0:Int).toNat) H1) I ?_) ?_) (by rw[z5 ha',z5 hb']) (by rw[z5 hb'];rfl)))
 ·refine⟨φ,α,τ,μ,sr,mr,p.bind.mono λx μ1 α1 H1 st1 m1 q1 v1 d1=>⟨φ,α1,τ,μ1,sr.step st1,m1,q1.bind.mono λy μ2 α2 H2 st2 m2 q2 v2 d2=>?_⟩⟩
  cases x with
  |int i=>
   cases y with
   |int j=>
    have q2:Post D W φ α2 H2 σ _ (RE.grd (inL i/\inL j) (RE.ok (zU i j 1,lvT) μ2)):=q2
    obtain⟨hh,q2⟩:=q2.grd
    have d1:v1=.int _:=d1
    have d2:v2=.int _:=d2
    subst d1 d2
    exact⟨_,_,rfl,q2.ok (Stp.refl _ _) m2 _ _ vb (λ_ _ _ _ _ _ _=>True.intro) trivial⟩
   |_=>exact Post.elim q2
  |_=>exact Post.elim q2
 ·rintro us s1 ⟨vs,H1,I1,rv,i,j,rfl,q⟩
  cases rv with
  |cons r rr=>
   cases rr with
   |cons r' rr=>
    cases rr
    obtain⟨t,rfl⟩:=r
    obtain⟨t',rfl⟩:=r'
    exact call_range_2 (vV I1 (by omega) q)
theorem Ws (C:Ck D W Γ X k) {p0:Pos} (hx:("range":Str)∈Γ.G) (hg:Γ.gl "range"=.none) (hs:noStar a=true) (ha:PE X a (rdE D W f)) :
  PI X tg (.Call (.Name "range" p0) [a] [] pos) (rdI D W (WR f)):=by
 have hm:=C.glo _ hx
 rw[hg] at hm
 rintro pins s σ H R I ⟨φ,α,τ,μ,sr,mr,p⟩
 refine Call_ (we I (C.glb _ hx) hm boot_range (PyProof.Rows.callWith_type1 (thn (zt ha qb (z5 hs) pos pins s σ H (λvs H1=>∃j:Int,vs=[.int j]/\R (ItS 0 1 (if 0<j then (j-0-1) / 1+1 else 0:Int).toNat) H1) I ?_) ?_) (z5 hs) rfl))
 ·refine⟨φ,α,τ,μ,sr,mr,p.bind.mono λt μ' α' H' st m q v d=>?_⟩
  cases t with
  |int n=>
   have d:v=.int _:=d
   subst d
   have q:Post D W φ α' H' σ _ (RE.grd (inL n) (RE.ok (rangeT n,lvT) μ')):=q
   obtain⟨hn,q⟩:=q.grd
   have e2:(if 0<n then (n-0-1) / 1+1 else 0:Int).toNat=n.toNat:=by
    split
    ·rw[Int.ediv_one];congr 1;omega
    ·omega
   have e3:((List.range n.toNat).map λ(i:Nat)=>T.int (0+i * 1))=rangeT n:=by
    unfold rangeT
    refine List.map_congr_left λi _=>?_
    simp
   refine⟨n,rfl,?_⟩
   rw[e2]
   exact q.ok (Stp.refl _ _) m _ _ (e3▸vb) (λ_ _ _ _ _ _ _=>True.intro) trivial
  |_=>exact Post.elim q
 ·rintro us s1 ⟨vs,H1,I1,rv,j,rfl,q⟩
  cases rv with
  |cons r rr=>
   cases rr
   obtain⟨t,rfl⟩:=r
   exact call_range_1 (vV I1 (by omega) q)
noncomputable def idxs (N:List Str):List Expr->Option (List Nat)
 |[]=>some []
 |.Name x _::r=>match idx N x,idxs N r with
  |some i,some is=>some (i::is)
  |_,_=>none
 |_::_=>none
noncomputable def qt (N:List Str):Expr->Option Tg
 |.Name x _=>(idx N x).map Tg.one
 |.Tuple es _ _=>(idxs N es).map Tg.tup
 |_=>none
noncomputable def z4:Expr->List Str
 |.Name x _=>[x]
 |.Tuple es _ _=>es.filterMap λe=>match e with|.Name x _=>some x|_=>none
 |_=>[]
noncomputable def Sto (X:Cx)(S:List Str):Prop:=∀x∈S,Loc X.env.scope x/\(X.fn x=true\/X.env.scope.names.lookup x=some .local)
theorem Qq{S N:List Str}(hN:X.N=N)(nd:N.Nodup)(hS:Sto X S):∀{es:List Expr} {is:List Nat} {ts:List T} {τ τ':Sl},(∀e∈es,∀x p,e=.Name x p->x∈S)->idxs N es=some is->uL is ts τ=some τ'->
  ∃t,PGs X es t/\(assignEach es X.env).length=ts.length/\(assignEach es X.env).findIdx? (·.1)=none/\∀{σ:St} {vs:List V} {φ α H} {Q:St->Hp->Prop},SRel D φ α H τ σ->DenL D φ α H ts vs->(∀σ',SRel D φ α H τ' σ'->Q σ' H)->t vs σ H Q
 |[],is,ts,τ,τ',_,h0,h=>by
  simp[idxs] at h0;subst h0
  cases ts with
  |nil=>
   simp[uL] at h;subst h
   exact⟨z1e,K_,rfl,rfl,λsr l q=>⟨l,q _ sr⟩⟩
  |cons _ _=>simp[uL] at h
 |e::es,is,ts,τ,τ',hn,h0,h=>by
  cases e with
  |Name x p0=>
   simp only[idxs] at h0
   split at h0
   ·rename_i i is' hi his
    cases h0
    cases ts with
    |nil=>simp[uL] at h
    |cons t ts=>
     have h:uL is' ts (w_ τ i (some t))=some τ':=h
     have hx:=hn _ List.mem_cons_self x p0 rfl
     have pg:PG X (.Name x p0) (Qb i):=Q6 (hN▸nd) (by rw[hN];exact qx hi) (hS x hx).1 (hS x hx).2
     obtain⟨u,pgs,hl,hf,hu⟩:=Qq hN nd hS (λe he=>hn e (List.mem_cons_of_mem _ he)) his h
     refine⟨Xw (Qb i) u,WG pg pgs rfl,by simpa[assignEach] using hl,?_,λ{σ vs φ α H Q} sr l k=>?_⟩
     ·have e1:assignEach (.Name x p0::es) X.env=(false,assign (.Name x p0) X.env)::assignEach es X.env:=rfl
      rw[e1,List.findIdx?_cons]
      simp[hf]
     ·obtain⟨v,r,rfl,d,l⟩:=l
      exact⟨v,r,rfl,hu (sr.set d) l k⟩
   ·cases h0
  |_=>simp[idxs] at h0
theorem ZC{S N:List Str}(hN:X.N=N)(nd:N.Nodup)(hS:Sto X S)(hc:X.calm=true){e:Expr}{tgt:Tg}{t:T}{τ τ':Sl}(hn:∀x∈z4 e,x∈S)(h0:qt N e=some tgt)(h:asg tgt t τ=some τ'){v:V}{u:Value}(I:Inv X pins σ H s)(sr:SRel D φ α H τ σ)(d:Den D φ α H t v)(r:RelV v u) :
  wpAny (model X.prog X.w) X.A (assign e X.env u) (λ_ s'=>∃σ',Inv X pins σ' H s'/\SRel D φ α H τ' σ') X.xe s:=by
 cases e with
 |Name x p0=>
  simp only[qt] at h0
  cases q:idx N x with
  |none=>rw[q] at h0;cases h0
  |some i=>
   rw[q] at h0;cases h0
   cases (Option.some.inj h:w_ τ i (some t)=τ')
   have hx:x∈S:=hn x (by simp[z4])
   refine thn (Q6 (i:=i) (hN▸nd) (by rw[hN];exact qx q) (hS x hx).1 (hS x hx).2 pins s σ H v u (λσ' H'=>H'=H/\σ'=σ.set i (some v)) I r ⟨rfl,rfl⟩) ?_
   rintro _ s1 ⟨σ',H',I1,rfl,rfl⟩
   exact⟨_,I1,sr.set d⟩
 |Tuple es kk p0=>
  simp only[qt] at h0
  cases q:idxs N es with
  |none=>rw[q] at h0;cases h0
  |some is=>
   rw[q] at h0;cases h0
   cases t with
   |tup ts=>
    obtain⟨g,pgs,hl,hf,hu⟩:=Qq (D:=D) hN nd hS (λe he x p hx=>hn x (by subst hx;exact List.mem_filterMap.mpr ⟨_,he,rfl⟩)) q h
    obtain⟨ad,xs,rfl,_,_,q,l⟩:=d
    refine thn (Uz (k:=kk) (pos:=p0) hc pgs hl hf pins s σ H (.ref ad) u (λσ' H'=>H'=H/\SRel D φ α H τ' σ') I r ⟨ad,xs,rfl,.inl q,l.length.symm,hu sr l λσ' sr'=>⟨rfl,sr'⟩⟩) ?_
    rintro _ s1 ⟨σ',H',I1,rfl,sr'⟩
    exact⟨σ',I1,sr'⟩
   |_=>cases h
 |_=>simp[qt] at h0
end
theorem X5(env:Env):∀(names:List (Str×NameKind)) (cs:List (Str×Addr)),(∀p∈names,p.2=.free->∃c,env.cells.lookup p.1=some c)->
  ∃cl,(forIn names cs (λ(x:Str×NameKind) r=>if (x.2 == .free)=true then do let a ←cellOf env x.1;pure (ForInStep.yield ((x.1,a)::r)) else pure (ForInStep.yield r)):Sem (List (Str×Addr)))=pure cl/\
   (∀x c,cl.lookup x=some c->cs.lookup x=some c\/(env.cells.lookup x=some c/\∃p∈names,p.1=x/\p.2=.free))/\(∀x c,cs.lookup x=some c->∃c',cl.lookup x=some c')/\∀p∈names,p.2=.free->∃c,cl.lookup p.1=some c:=by
 intro names
 induction names with
 |nil=>intro cs _;exact⟨cs,rfl,λx c h=>.inl h,λx c h=>⟨c,h⟩,λp hp=>absurd hp (by simp)⟩
 |cons p names ih=>
  intro cs h
  rw[List.forIn_cons]
  by_cases hp:p.2=.free
  ·obtain⟨c,hc⟩:=h p List.mem_cons_self hp
   have e:cellOf env p.1=pure c:=by unfold cellOf;rw[hc]
   rw[if_pos (by simp[hp]),e]
   obtain⟨cl,e1,e2,e3,e4⟩:=ih ((p.1,c)::cs) λq hq=>h q (List.mem_cons_of_mem _ hq)
   refine⟨cl,e1,λx c' hx=>?_,λx c' hx=>?_,λq hq hf=>?_⟩
   ·rcases e2 x c' hx with z|⟨z,q,hq,z1,z2⟩
    ·rw[List.lookup_cons] at z
     cases hb:x == p.1 with
     |true=>
      simp[hb] at z
      subst z
      have hb':x=p.1:=by simpa using hb
      exact .inr ⟨by rw[hb'];exact hc,p,List.mem_cons_self,hb'.symm,hp⟩
     |false=>simp[hb] at z;exact .inl z
    ·exact .inr ⟨z,q,List.mem_cons_of_mem _ hq,z1,z2⟩
   ·cases hb:x == p.1 with
    |true=>exact e3 x c (by simp[List.lookup_cons,hb])
    |false=>exact e3 x c' (by simp[List.lookup_cons,hb,hx])
   ·rcases List.mem_cons.mp hq with rfl|hq
    ·exact e3 _ c (by simp[List.lookup_cons])
    ·exact e4 q hq hf
  ·rw[if_neg (by simp[hp])]
   obtain⟨cl,e1,e2,e3,e4⟩:=ih cs λq hq=>h q (List.mem_cons_of_mem _ hq)
   refine⟨cl,e1,λx c' hx=>?_,e3,λq hq hf=>?_⟩
   ·rcases e2 x c' hx with z|⟨z,q,hq,z1,z2⟩
    ·exact .inl z
    ·exact .inr ⟨z,q,List.mem_cons_of_mem _ hq,z1,z2⟩
   ·rcases List.mem_cons.mp hq with rfl|hq
    ·exact absurd hf hp
    ·exact e4 q hq hf
noncomputable def y2(sc:Scope):List Str:=(sc.names.filter λp=>p.2 == .globalImplicit).map (·.1)
noncomputable def frees(sc:Scope):List Str:=(sc.names.filter λp=>p.2 == .free).map (·.1)
theorem wD{sc:Scope}{x:Str}:x∈frees sc↔∃p∈sc.names,p.1=x/\p.2=.free:=by
 unfold frees
 simp only[List.mem_map,List.mem_filter,beq_iff_eq]
 constructor
 ·rintro⟨p,⟨h1,h2⟩,h3⟩;exact⟨p,h1,h3,h2⟩
 ·rintro⟨p,h1,h3,h2⟩;exact⟨p,⟨h1,h2⟩,h3⟩
theorem Zb{sc:Scope}{env:Env}(h:∀x∈frees sc,∃c,env.cells.lookup x=some c) :
  ∃cl,closureFor sc env=pure cl/\(∀x c,cl.lookup x=some c->env.cells.lookup x=some c/\x∈frees sc)/\∀x∈frees sc,∃c,cl.lookup x=some c:=by
 obtain⟨cl,e1,e2,e3,e4⟩:=X5 env sc.names [] λp hp hf=>h p.1 (wD.mpr ⟨p,hp,rfl,hf⟩)
 refine⟨cl,?_,λx c hx=>?_,λx hx=>?_⟩
 ·rw[←e1]
  unfold closureFor
  simp
 ·rcases e2 x c hx with z|⟨z,p,hp,z1,z2⟩
  ·simp at z
  ·exact⟨z,wD.mpr ⟨p,hp,z1,z2⟩⟩
 ·obtain⟨p,hp,rfl,hf⟩:=wD.mp hx
  exact e4 p hp hf
section
variable {M:Model}{A:Around}{E:Value->Shared->Prop}{s:Shared}{env:Env}
noncomputable def yu(M:Model)(A:Around)(E:Value->Shared->Prop)(use:Option (Value->Sem Unit))(Q:Value->Shared->Prop)(acc:Value)(ce:Env):Result->Shared->Prop
 |.ok _,t=>(match use with
  |none=>∃m,t.heap.Ns ce.locals m/\∀g,Heap.SameBut ce.locals t.heap g->Q acc {t with heap:=g}
  |some u=>wpAny M A (u acc) (λ_ t2=>∃m,t2.heap.Ns ce.locals m/\∀g,Heap.SameBut ce.locals t2.heap g->Q .none {t2 with heap:=g}) E t)
 |.error x,t=>∃m,t.heap.Ns ce.locals m/\∀g,Heap.SameBut ce.locals t.heap g->wpAny M A (passOn "comprehension.variables-let-go" x ce:Sem Value) (λ_ _=>False) E {t with heap:=g}
theorem Xn{e:Expr}{sc:Scope}{pos:Pos}{mk fst:Sem Value}{g:Comprehension}{gs:List Comprehension}{cl:List (Str×Addr)}{use:Option (Value->Sem Unit)}{Q:Value->Shared->Prop}
  (h1:clausesOf e=g::gs) (h2:∀x,foldedSetIterable g.iter env x=pure x) (h3:closureFor sc env=pure cl) (h4:sc.kind=.function) (h5:∀x∈sc.names,x.2=.local->sc.names.lookup x.1=some .local)
  (h:wpAny M A fst (λx t1=>wpAny M A (pyIter x) (λit t2=>wpAny M A mk (λacc t3=>wpAny M A (newFunctionEnv sc env.globals cl [] env.qual none .none (some env)) (λce t4=>
    codeAny M A (.compStart e 0 it acc {ce with scope:=relabel sc env}) (yu M A E use Q acc {ce with scope:=relabel sc env}) t4) E t3) E t2) E t1) E s) :
  wpAny M A (comprehension e sc env pos mk false fst use) Q E s:=by
 unfold comprehension
 rw[h3,h1]
 have id2:∀(x:Value) (t:Shared),E x t->E x t:=λ_ _ z=>z
 refine wpAny_bind (wpAny_mono h (λx t1 q1=>?_) id2)
 refine wpAny_bind (wpAny_standAt (wpAny_bind (wpAny_of_eq (h2 x) (wpAny_bind (wpAny_holding (wpAny_mono q1 (λit t2 q2=>?_) id2))))))
 refine wpAny_standIf (wpAny_bind (wpAny_mono q2 (λacc t3 q3=>?_) id2))
 refine wpAny_bind (wpAny_pure (wpAny_bind (wpAny_mono q3 (λce t4 q4=>?_) id2)))
 dsimp only
 have lc:∀y∈(sc.names.filter λx=>(x.2 == .local || x.2 == .cell)&&x.1 != (".0":Str)),y.2=.local->Env.kindOf {ce with scope:=relabel sc env} y.1=some .local:=
  λy hy hl=>lookup_relabel_local (h5 y (List.mem_filter.mp hy).1 hl)
 have lr:∀y∈(sc.names.filter λx=>(x.2 == .local || x.2 == .cell)&&x.1 != (".0":Str)).reverse,y.2=.local->Env.kindOf {ce with scope:=relabel sc env} y.1=some .local:=
  λy hy=>lc y (List.mem_reverse.mp hy)
 refine wpAny_holding (wpAny_bind (wpAny_attempt (wpAny_holding (wpAny_run (codeAny_mono q4 λr t5 q5=>?_)))))
 cases r with
 |error x=>
  obtain⟨m,hn,q6⟩:=q5
  refine wpAny_bind (wpAny_holding (wpAny_comp_letGo (cenv:={ce with scope:=relabel sc env}) h4 _ t5 m lr hn λg m' _ sb=>?_))
  exact wpAny_mono (q6 g sb) (λ_ _ z=>z.elim) id2
 |ok f=>
  cases use with
  |none=>
   obtain⟨m,hn,q6⟩:=q5
   exact wpAny_bind (wpAny_holding (wpAny_comp_letGo (cenv:={ce with scope:=relabel sc env}) h4 _ t5 m lr hn λg m' _ sb=>wpAny_pure (q6 g sb)))
  |some u=>
   refine wpAny_bind (wpAny_rule (wpAny_bind (wpAny_holding (wpAny_mono q5 (λ_ t6 q6=>?_) id2))))
   obtain⟨m,hn,q6⟩:=q6
   refine wpAny_bind (wpAny_comp_letGo (cenv:={ce with scope:=relabel sc env}) h4 _ t6 m (λy hy=>?_) hn λg m' _ sb=>wpAny_pure (q6 g sb))
   rcases List.mem_append.mp hy with z|z
   ·exact lr y (List.mem_of_mem_drop z)
   ·exact lr y (List.mem_of_mem_take z)
end
section
variable {prog:Program}{w:World}{A:Around}{R:Result->Shared->Prop}{s:Shared}
theorem VL(elt target iter:Expr)(ifs:List Expr)(scope:Scope)(pos:Pos)(it acc:Value)(env:Env) :
  compTurn (.ListComp elt [⟨target,iter,ifs,0⟩] scope pos) 0 it acc env=(standAt iter.pos >>= λ_=>pyNext it >>= λr=>match r with
   |none=>pure (.done .next)
   |some v=>letOwnedTupleGo target it v >>= λ_=>assign target env v >>= λ_=>
    (forIn ifs true λc s=>if s=true then isTrue c env (eval c env) >>= λok=>pure (ForInStep.yield ok) else pure (ForInStep.yield s)) >>= λok=>
     if ok=true then (eval elt env >>= λx=>call (.builtin "list.append") [acc,x] >>= λ_=>pure ()) >>= λ_=>
      again (.compLoop (.ListComp elt [⟨target,iter,ifs,0⟩] scope pos) 0 it acc env)
     else again (.compLoop (.ListComp elt [⟨target,iter,ifs,0⟩] scope pos) 0 it acc env)):=by rfl
noncomputable def vT(M:Model)(A:Around)(env:Env)(E:Value->Shared->Prop):List Expr->(Bool->Shared->Prop)->Shared->Prop
 |[],Q,s=>Q true s
 |c::cs,Q,s=>wpAny M A (isTrue c env (eval c env)) (λb s1=>if b=true then vT M A env E cs Q s1 else Q false s1) E s
theorem x_{M:Model}{env:Env}{E:Value->Shared->Prop}{Q:Bool->Shared->Prop}:∀(cs:List Expr) {s:Shared},Q false s->
  wpAny M A (forIn cs false λc s=>if s=true then isTrue c env (eval c env) >>= λok=>pure (ForInStep.yield ok) else pure (ForInStep.yield s)) Q E s
 |[],s,h=>wpAny_pure h
 |c::cs,s,h=>by
  rw[List.forIn_cons]
  refine wpAny_bind ?_
  rw[if_neg (by decide)]
  exact wpAny_pure (x_ cs h)
theorem uS{M:Model}{env:Env}{E:Value->Shared->Prop}{Q:Bool->Shared->Prop}:∀(cs:List Expr) {s:Shared},vT M A env E cs Q s->
  wpAny M A (forIn cs true λc s=>if s=true then isTrue c env (eval c env) >>= λok=>pure (ForInStep.yield ok) else pure (ForInStep.yield s)) Q E s
 |[],s,h=>wpAny_pure h
 |c::cs,s,h=>by
  rw[List.forIn_cons]
  refine wpAny_bind ?_
  rw[if_pos rfl]
  refine wpAny_bind (thn h λb s1 h1=>wpAny_pure ?_)
  cases b with
  |true=>rw[if_pos rfl] at h1;exact uS cs h1
  |false=>rw[if_neg (by decide)] at h1;exact x_ cs h1
theorem QN{elt target iter:Expr}{ifs:List Expr}{scope:Scope}{pos:Pos}{it acc:Value}{env:Env}(I:Nat->Shared->Prop)
  (turn:∀n s,I n s->wpAny (model prog w) A (pyNext it) (λr s₁=>match r with
   |none=>R (.ok .next) s₁
   |some v=>wpAny (model prog w) A (letOwnedTupleGo target it v) (λ_ s₂=>wpAny (model prog w) A (assign target env v) (λ_ s₃=>vT (model prog w) A env (notedBy (model prog w) A env λx s'=>R (.error x) s') ifs (λb s₄=>
     if b=true then wpAny (model prog w) A (eval elt env) (λx s₅=>wpAny (model prog w) A (call (.builtin "list.append") [acc,x]) (λ_ s₆=>∃m,m<n/\I m s₆) (λ_ _=>False) s₅) (notedBy (model prog w) A env λx s'=>R (.error x) s') s₄ else ∃m,m<n/\I m s₄) s₃) (λ_ _=>False) s₂) (λ_ _=>False) s₁) (λ_ _=>False) s)
  (n:Nat) (h:I n s):codeAny (model prog w) A (.compLoop (.ListComp elt [⟨target,iter,ifs,0⟩] scope pos) 0 it acc env) R s:=by
 refine codeAny_loop rfl I (λn s hI=>?_) n h
 show wpAny _ _ ((compTurn (.ListComp elt [⟨target,iter,ifs,0⟩] scope pos) 0 it acc env).onRaise (λx=>do noteFrame x env;theTreesLotGoes x)) _ _ s
 refine wpAny_noted ?_
 rw[VL]
 have nx:∀{α:Type} {t:Sem α} {Q:α->Shared->Prop} {s:Shared} {N:Value->Shared->Prop},wpAny (model prog w) A t Q (λ_ _=>False) s->wpAny (model prog w) A t Q N s:=λh=>wpAny_mono h (λ_ _ q=>q) λ_ _ z=>z.elim
 refine wpAny_bind (wpAny_standAt (wpAny_bind (nx (thn (turn n s hI) λr s₁ h₁=>?_))))
 cases r with
 |none=>exact wpAny_pure h₁
 |some v=>
  refine wpAny_bind (nx (thn h₁ λ_ s₂ h₂=>?_))
  refine wpAny_bind (nx (thn h₂ λ_ s₃ h₃=>?_))
  refine wpAny_bind (thn (uS ifs h₃) λb s₄ h₄=>?_)
  cases b with
  |true=>
   rw[if_pos rfl] at h₄ ⊢
   exact wpAny_bind (wpAny_bind (thn h₄ λx s₅ h₅=>wpAny_bind (nx (thn h₅ λ_ s₆ h₆=>wpAny_pure (wpAny_pure ⟨rfl,h₆⟩)))))
  |false=>
   rw[if_neg (by decide)] at h₄ ⊢
   exact wpAny_pure ⟨rfl,h₄⟩
end
noncomputable abbrev noW:XW:=λ_ _ _ _=>False
noncomputable def cxC (X:Cx)(N:List Str)(sc:Scope)(cl:List (Str×Addr))(C0:Addr)(s3:Shared)(H3:Hp)(fp:List Addr):Cx:=
 {X with N:=N,s₀:=s3,H₀:=H3,env:=compEnvC sc cl C0 X.env,outer:=X.stack,ex:=fp,fn:=λ_=>false,pn:=[],xe:=λ_ _=>False}
noncomputable def Zq(N cel:List Str)(tg:Expr)(sc:Scope):Bool:=
 (sc.kind == .function)&&sc.names.all (λp=>p.2 != .cell)&&sc.names.all (λp=>p.2 != .local || sc.names.lookup p.1 == some .local)&&
 (z4 tg).all (λx=>sc.names.lookup x == some .local&&x != ("__debug__":Str)&&x != ("__classdict__":Str))&&(frees sc).all (λx=>(idx N x).isSome&&sc.names.lookup x == some .free&&cel.contains x&&x != ("__debug__":Str)&&x != ("__classdict__":Str))&&decide ((z4 tg++frees sc).Nodup)&&
 (y2 sc).all (λx=>sc.names.lookup x == some .globalImplicit)
structure CompOk(N cel:List Str)(tg:Expr)(sc:Scope):Prop where
 kind:sc.kind=.function
 noc:∀p∈sc.names,p.2≠.cell
 lcl:∀p∈sc.names,p.2=.local->sc.names.lookup p.1=some .local
 own:∀x∈z4 tg,sc.names.lookup x=some .local/\(x == ("__debug__":Str))=false/\(x == ("__classdict__":Str))=false
 fre:∀x∈frees sc,(∃i,idx N x=some i)/\sc.names.lookup x=some .free/\x∈cel/\(x == ("__debug__":Str))=false/\(x == ("__classdict__":Str))=false
 nd:(z4 tg++frees sc).Nodup
 glb:∀x∈y2 sc,sc.names.lookup x=some .globalImplicit
theorem QH{N cel:List Str}{tg:Expr}{sc:Scope}(h:Zq N cel tg sc=true):CompOk N cel tg sc:=by
 unfold Zq at h
 simp only[Bool.and_eq_true,List.all_eq_true,beq_iff_eq,bne_iff_ne,Bool.or_eq_true,decide_eq_true_eq,List.contains_iff_mem,Option.isSome_iff_exists,ne_eq] at h
 obtain⟨⟨⟨⟨⟨⟨h1,h2⟩,h3⟩,h4⟩,h5⟩,h6⟩,h7⟩:=h
 refine⟨h1,h2,λp hp hl=>?_,λx hx=>?_,λx hx=>?_,h6,h7⟩
 ·rcases h3 p hp with z|z
  ·exact absurd hl z
  ·exact z
 ·obtain⟨⟨a,b⟩,c⟩:=h4 x hx
  exact⟨a,by simpa using b,by simpa using c⟩
 ·obtain⟨⟨⟨⟨a,b⟩,c⟩,d⟩,e⟩:=h5 x hx
  exact⟨a,b,c,by simpa using d,by simpa using e⟩
theorem zx{env:Env}{x:Str}:∀{names:List (Str×NameKind)} {kd:NameKind},names.lookup x=some kd->
  (names.map λ(n,k)=>if (k == NameKind.free&&env.scope.kind == .function&&env.kindOf n == some .cell) then (n,NameKind.cell) else (n,k)).lookup x=some (if (kd == NameKind.free&&env.scope.kind == .function&&env.kindOf x == some .cell) then .cell else kd)
 |[],_,h=>by simp at h
 |(n,k)::r,kd,h=>by
  have ih:=@zx env x r kd
  rw[List.map_cons]
  rw[List.lookup_cons] at h
  cases hx:x == n with
  |true=>
   have hx':x=n:=by simpa using hx
   subst hx'
   simp at h
   subst h
   dsimp only
   split<;>simp_all[List.lookup_cons]
  |false=>
   simp only[hx] at h
   dsimp only
   split
   ·rw[List.lookup_cons];simp only[hx];exact ih h
   ·rw[List.lookup_cons];simp only[hx];exact ih h
section
variable {X:Cx}{D:DP}{W:XW}{Γ:Cn}{k:Nat}{pins:List (Addr×Obj)}{s2:Shared}{σ:St}{H2:Hp}{φ α:List Addr}{τ:Sl}{μ:Mem}{tg:Expr}{sc:Scope}{cl:List (Str×Addr)}{fp:List Addr}
noncomputable def ub (N:List Str)(σ:St)(fs:List Str):St:=fs.map λx=>(idx N x).bind λi=>(σ[i]?).join
noncomputable def jx (N:List Str):List Str->Option (List Nat)
 |[]=>some []
 |x::r=>match idx N x,jx N r with
  |some i,some is=>some (i::is)
  |_,_=>none
theorem yB:∀(n:Nat) {fs:List Nat} {τ:Sl},blk n fs τ=List.replicate n none++Z4 fs τ
 |0,_,_=>rfl
 |n+1,fs,τ=>by
  show none::blk n fs τ=_
  rw[yB n];rfl
theorem jK:∀{fs:List Nat} {τ:Sl},(Z4 fs τ).length=fs.length
 |[],_=>rfl
 |i::r,τ=>by show (Z4 r τ).length+1=_;rw[jK];rfl
theorem kn:∀{N xs:List Str} {fs:List Nat},jx N xs=some fs->fs.length=xs.length
 |N,[],fs,h=>by cases h;rfl
 |N,x::r,fs,h=>by
  simp only[jx] at h
  split at h
  ·rename_i i is h1 h2
   cases h
   simp[kn h2]
  ·cases h
theorem uv{N:List Str}{H:Hp}(sr:SRel D φ α H τ σ):∀{xs:List Str} {fs:List Nat},jx N xs=some fs->∀(j:Nat) (t:T),(Z4 fs τ)[j]?=some (some t)->∃v,(ub N σ xs)[j]?=some (some v)/\Den D φ α H t v
 |[],fs,h,j,t,e=>by cases h;simp[Z4] at e
 |x::r,fs,h,j,t,e=>by
  simp only[jx] at h
  split at h
  ·rename_i i is h1 h2
   cases h
   cases j with
   |zero=>
    have e:some (QF τ i)=some (some t):=e
    obtain⟨v,hv,d⟩:=sr.get (Option.some.inj e)
    exact⟨v,by simp[ub,h1,hv],d⟩
   |succ j=>
    have e:(Z4 is τ)[j]?=some (some t):=e
    obtain⟨v,hv,d⟩:=uv sr h2 j t e
    exact⟨v,by simpa[ub] using hv,d⟩
  ·cases h
theorem KU{N:List Str}{H:Hp}{ns xs:List Str}{fs:List Nat}(sr:SRel D φ α H τ σ)(h:jx N xs=some fs):SRel D φ α H (blk ns.length fs τ) (ns.map (λ_=>none)++ub N σ xs):=by
 rw[yB]
 refine⟨by simp[jK,kn h,ub],λj t e=>?_⟩
 rcases Nat.lt_or_ge j ns.length with hj|hj
 ·rw[List.getElem?_append_left (by simpa using hj),List.getElem?_replicate] at e
  split at e<;>cases e
 ·rw[List.getElem?_append_right (by simpa using hj)] at e
  rw[List.getElem?_append_right (by simpa using hj)]
  simp only[List.length_map,List.length_replicate] at e ⊢
  exact uv sr h _ t e
theorem Z7(C:Ck D W Γ X k)(ok:CompOk Γ.N Γ.cel tg sc)(I2:Inv X pins σ H2 s2)(hf:∀b∈fp,yw X pins H2 b)(hfo:∀b∈fp,∃o,s2.heap.get? b=some o)(hcl:∀x c,cl.lookup x=some c->X.env.cells.lookup x=some c/\x∈frees sc)(hcl2:∀x∈frees sc,∃c,cl.lookup x=some c)
  {h1:Heap} (hns:h1.Ns (s2.heap.objs.size+1) (λ_=>none)) (hsb:Heap.SameBut (s2.heap.objs.size+1) ((s2.heap.push {cls:=.type "list",data:=.seq ([]:List Value).toArray}).push {cls:=.type "dict",data:=.dict #[]}) h1) {tk:Nat} :
  Inv X pins σ (upd H2 s2.heap.objs.size (.lst [])) {s2 with heap:=s2.heap.push {cls:=.type "list",data:=.seq ([]:List Value).toArray}}/\
  Inv (cxC X (z4 tg++frees sc) sc cl (s2.heap.objs.size+1) {s2 with heap:=s2.heap.push {cls:=.type "list",data:=.seq ([]:List Value).toArray}} (upd H2 s2.heap.objs.size (.lst [])) fp) []
   ((z4 tg).map (λ_=>none)++ub Γ.N σ (frees sc)) (upd H2 s2.heap.objs.size (.lst [])) {s2 with heap:=h1,toks:=tk}:=by
 have I3:Inv X pins σ (upd H2 s2.heap.objs.size (.lst [])) {s2 with heap:=s2.heap.push {cls:=.type "list",data:=.seq ([]:List Value).toArray}}:=I2.lnew (its:=[]) (t':=s2.toks) .nil (by simp)
 refine⟨I3,?_⟩
 generalize hA:s2.heap.push {cls:=.type "list",data:=.seq ([]:List Value).toArray}=HA at hsb I3 ⊢
 have szA:HA.objs.size=s2.heap.objs.size+1:=by rw[←hA,Heap.size_push]
 have old:∀b o,HA.get? b=some o->h1.get? b=some o:=λb o e=>hsb.extBut b o (by rw[←szA];exact Nat.ne_of_lt (Heap.lt_size e)) (Heap.get?_push_of_some _ e)
 have fresh:(upd H2 s2.heap.objs.size (.lst [])) (s2.heap.objs.size+1)=none:=by rw[←szA];exact I3.hok.fresh (Nat.le_refl _)
 have kindC:∀x∈frees sc,(cxC X (z4 tg++frees sc) sc cl (s2.heap.objs.size+1) {s2 with heap:=HA} (upd H2 s2.heap.objs.size (.lst [])) fp).env.kindOf x=some .cell\/(cxC X (z4 tg++frees sc) sc cl (s2.heap.objs.size+1) {s2 with heap:=HA} (upd H2 s2.heap.objs.size (.lst [])) fp).env.kindOf x=some .free:=λx hx=>by
  have:=zx (env:=X.env) (ok.fre x hx).2.1
  show (relabel sc X.env).names.lookup x=some .cell\/(relabel sc X.env).names.lookup x=some .free
  unfold relabel
  dsimp only
  rw[this]
  split
  ·exact .inl rfl
  ·exact .inr rfl
 refine⟨⟨I2.ok.mod,ok.kind,I2.ok.glob,I2.ok.blt,?_,?_,?_,λx c h=>absurd h (by simp[cxC]),I2.ok.hd,I2.ok.frames,.inl rfl,?_,?_,?_,?_,?_,?_,?_⟩,rfl,I2.bare,Un.kept old,⟨_,hns,?_⟩,?_,fresh,?_,λp hp=>absurd hp (by simp[cxC]),I3.hok.kept old,?_⟩
 ·show HA.objs.size<=s2.heap.objs.size+1
  omega
 ·intro x y c h1 h2
  exact I2.ok.inj x y c (hcl x c h1).1 (hcl y c h2).1
 ·intro x hx
  have hx':(relabel sc X.env).names.lookup x=some .cell\/(relabel sc X.env).names.lookup x=some .free:=hx
  by_cases hm:x∈frees sc
  ·exact hcl2 x hm
  ·exfalso
   cases q:sc.names.lookup x with
   |none=>
    have:(relabel sc X.env).names.lookup x=none:=by
     unfold relabel
     dsimp only
     rw[List.lookup_eq_none_iff] at q ⊢
     intro p hp
     obtain⟨p0,hp0,rfl⟩:=List.mem_map.mp hp
     have:=q p0 hp0
     try dsimp only
     split<;>exact this
    rw[this] at hx'
    rcases hx' with z|z<;>cases z
   |some kd=>
    have hr:=zx (env:=X.env) q
    have hx2:=hx'
    unfold relabel at hx2
    dsimp only at hx2
    rw[hr] at hx2
    have hmem:(x,kd)∈sc.names:=PySem.mem_of_lookup q
    by_cases hkf:kd=.free
    ·exact hm (wD.mpr ⟨_,hmem,rfl,hkf⟩)
    ·have e:(kd == NameKind.free)=false:=by simpa using hkf
     rw[e] at hx2
     simp only[Bool.false_and,Bool.false_eq_true,if_false,Option.some.injEq] at hx2
     rcases hx2 with z|z
     ·exact ok.noc _ hmem z
     ·exact hkf z
 ·intro b hb
  obtain⟨f0,f1,f2,f3,f4,f5⟩:=hf b hb
  obtain⟨o,ho⟩:=hfo b hb
  refine⟨?_,λx c h=>f4 x c (hcl x c h).1⟩
  show b≠s2.heap.objs.size+1
  exact Nat.ne_of_lt (Nat.lt_succ_of_lt (Heap.lt_size ho))
 ·intro b o e
  exact I3.bs b o e
 ·exact Nat.le_trans I3.ok.bsz I3.sz
 ·intro b o e hb
  obtain⟨f0,f1,f2,f3,f4,f5⟩:=hf b hb
  rcases f3 with z|z
  ·exact I2.ok.noex b o e z
  ·exact absurd (Nat.lt_of_lt_of_le (Heap.lt_size e) (Nat.le_trans I2.ok.bsz z)) (Nat.lt_irrefl _)
 ·intro b hb hfs
  obtain⟨f0,f1,f2,f3,f4,f5⟩:=hf b hb
  rcases List.mem_cons.mp (I2.stkSub b hfs) with z|z
  ·exact f1 z
  ·exact f2 z
 ·exact I3.stack
 ·intro b hb
  exact I3.stkFree b hb
 ·intro i x v hN hσ hv
  obtain⟨m,hn,hl⟩:=I2.loc
  by_cases hi:i<(z4 tg).length
  ·exfalso
   rw[List.getElem?_append_left (by simpa using hi),List.getElem?_map] at hσ
   cases q:(z4 tg)[i]? with
   |none=>rw[q] at hσ;cases hσ
   |some y=>rw[q] at hσ;cases hσ
  ·have hN':(frees sc)[i-(z4 tg).length]?=some x:=by
    have:(z4 tg++frees sc)[i]?=some x:=hN
    rwa[List.getElem?_append_right (by omega)] at this
   rw[List.getElem?_append_right (by simpa using hi)] at hσ
   simp only[List.length_map] at hσ
   unfold ub at hσ
   rw[List.getElem?_map,hN'] at hσ
   simp only[Option.map_some,Option.some.injEq] at hσ
   have hx:x∈frees sc:=List.mem_of_getElem? hN'
   obtain⟨⟨j,hj⟩,_,hcelm,_⟩:=ok.fre x hx
   rw[hj] at hσ
   simp only[Option.bind_some] at hσ
   cases u:σ[j]? with
   |none=>rw[u] at hσ;cases hσ
   |some o=>
    rw[u] at hσ
    simp only[Option.join_some] at hσ
    subst hσ
    obtain⟨w,rw',lk⟩:=hl j x v (by rw[C.hN];exact qx hj) u (C.vis x (qf hj))
    refine⟨w,rw',.inr ⟨kindC x hx,?_⟩⟩
    have kx:=C.cel x hcelm
    rcases lk with⟨z,_⟩|⟨_,c,hc,hcell⟩
    ·rw[z] at kx
     rcases kx with kx|kx<;>cases kx
    ·obtain⟨c',hc'⟩:=hcl2 x hx
     have:=(hcl x c' hc').1
     rw[hc] at this
     cases this
     refine⟨c,hc',?_⟩
     obtain⟨oc,ho,hd⟩:=hcell
     exact⟨oc,old c oc (by rw[←hA];exact Heap.get?_push_of_some _ ho),hd⟩
 ·intro x c h
  obtain⟨v,oc,ho,hd⟩:=I2.cell x c (hcl x c h).1
  exact⟨v,oc,old c oc (by rw[←hA];exact Heap.get?_push_of_some _ ho),hd⟩
 ·intro x c h
  exact (I3.freeC x c (hcl x c h).1).imp id λz=>⟨rfl,z.2⟩
 ·show _=(z4 tg++frees sc).length
  simp[ub]
end
section
variable {X:Cx}{D:DP}{W:XW}{Γ:Cn}{k:Nat}{pins:List (Addr×Obj)}{s:Shared}{σ:St}{H:Hp}{φ α:List Addr}{τ:Sl}{μ:Mem}{tg iter elt:Expr}{sc:Scope}{fp:List Addr}{pos pos':Pos}
noncomputable def inComp(Γ:Cn)(tg:Expr)(sc:Scope):Cn:={Γ with N:=z4 tg++frees sc,G:=(y2 sc).filter Γ.U.contains,cel:=frees sc,lam:=none}
theorem K2{W':XW}{pn:List (Addr×Obj)}{xe:Value->Shared->Prop}(C:Ck D W Γ X k)(ok:CompOk Γ.N Γ.cel tg sc){cl:List (Str×Addr)}{C0:Addr}{s3:Shared}{H3:Hp}
  (hxe:∀e s,XP {(cxC X (z4 tg++frees sc) sc cl C0 s3 H3 fp) with pn:=pn,xe:=xe} W' e s->xe e s):Ck D W' (inComp Γ tg sc) {(cxC X (z4 tg++frees sc) sc cl C0 s3 H3 fp) with pn:=pn,xe:=xe} k:=by
 have kindC:∀x∈frees sc,(relabel sc X.env).names.lookup x=some .cell\/(relabel sc X.env).names.lookup x=some .free:=λx hx=>by
  have:=zx (env:=X.env) (ok.fre x hx).2.1
  unfold relabel
  dsimp only
  rw[this]
  split
  ·exact .inl rfl
  ·exact .inr rfl
 have other:∀{x kd},sc.names.lookup x=some kd->kd≠.free->(relabel sc X.env).names.lookup x=some kd:=λ{x kd} h hk=>by
  have:=zx (env:=X.env) h
  unfold relabel
  dsimp only
  rw[this]
  have e:(kd == NameKind.free)=false:=by simpa using hk
  simp[e]
 refine⟨C.hK,rfl,ok.nd,λx hx=>?_,λx hx=>?_,λx hx=>?_,λx hx=>?_,λx hx=>?_,C.glU,kindC,C.isi,C.fld,C.xcx,C.ocx,C.clv,C.clm,C.rom,C.rmh,hxe,?_,LamOk.no rfl,λh=>by cases h⟩
 ·rcases List.mem_append.mp hx with h|h
  ·exact .inl (other (ok.own x h).1 (by decide))
  ·rcases kindC x h with z|z
   ·exact .inr (.inl z)
   ·exact .inr (.inr z)
 ·rcases List.mem_append.mp hx with h|h
  ·exact (ok.own x h).2
  ·exact (ok.fre x h).2.2.2
 ·exact (C.glU x (by have:=(List.mem_filter.mp hx).2;simpa using this)).2
 ·exact other (ok.glb x (List.mem_filter.mp hx).1) (by decide)
 ·exact (C.glU x (by have:=(List.mem_filter.mp hx).2;simpa using this)).1
 ·obtain⟨e0,out,L,F⟩:=C.frm
  exact⟨e0,out,L,⟨F.stk,F.f0,F.fe⟩⟩
theorem VI(ok:CompOk Γ.N Γ.cel tg sc){cl:List (Str×Addr)}{C0:Addr}{s3:Shared}{H3:Hp}:Sto (cxC X (z4 tg++frees sc) sc cl C0 s3 H3 fp) (z4 tg):=λx hx=>by
 have e:=zx (env:=X.env) (ok.own x hx).1
 have e':(relabel sc X.env).names.lookup x=some .local:=by
  unfold relabel
  dsimp only
  rw[e]
  rfl
 exact⟨.inl e',.inr e'⟩
theorem ZP{M:List Str}{x:Str}:∀{L:List Str} {i:Nat},x∈L->idx (L++M) x=some i->i<L.length
 |[],_,h,_=>absurd h (by simp)
 |y::L,i,h,e=>by
  rw[List.cons_append] at e
  simp only[idx] at e
  split at e
  ·cases e;simp
  ·rename_i hn
   have hm:x∈L:=(List.mem_cons.mp h).resolve_left λz=>hn z.symm
   cases q:idx (L++M) x with
   |none=>rw[q] at e;cases e
   |some j=>rw[q] at e;cases e;simpa using ZP hm q
theorem xH{n i:Nat}{t:Option T}{τ:Sl}(h:i<n):∀j,n<=j->(w_ τ i t)[j]?=τ[j]?:=λj hj=>by
 rw[jB,List.getElem?_set_ne (by omega)]
theorem xY{L M:List Str}:∀{es:List Expr} {is:List Nat} {ts:List T} {τ τ':Sl},(∀e∈es,∀x p,e=.Name x p->x∈L)->idxs (L++M) es=some is->uL is ts τ=some τ'->∀j,L.length<=j->τ'[j]?=τ[j]?
 |[],is,ts,τ,τ',_,h0,h=>by
  cases h0
  cases ts with
  |nil=>cases h;exact λ_ _=>rfl
  |cons _ _=>cases h
 |e::es,is,ts,τ,τ',hn,h0,h=>by
  cases e with
  |Name x p0=>
   simp only[idxs] at h0
   split at h0
   ·rename_i i is' hi his
    cases h0
    cases ts with
    |nil=>cases h
    |cons t ts=>
     intro j hj
     rw[xY (λe he=>hn e (List.mem_cons_of_mem _ he)) his (show uL is' ts (w_ τ i (some t))=some τ' from h) j hj]
     exact xH (ZP (hn _ List.mem_cons_self x p0 rfl) hi) j hj
   ·cases h0
  |_=>simp[idxs] at h0
theorem WY{M:List Str}{e:Expr}{tgt:Tg}{t:T}{τ τ':Sl}(h0:qt (z4 e++M) e=some tgt)(h:asg tgt t τ=some τ'):∀j,(z4 e).length<=j->τ'[j]?=τ[j]?:=by
 cases e with
 |Name x p0=>
  simp only[qt] at h0
  cases q:idx (z4 (.Name x p0)++M) x with
  |none=>rw[q] at h0;cases h0
  |some i=>
   rw[q] at h0;cases h0
   cases (Option.some.inj h:w_ τ i (some t)=τ')
   exact xH (ZP (by simp[z4]) q)
 |Tuple es kk p0=>
  simp only[qt] at h0
  cases q:idxs (z4 (.Tuple es kk p0)++M) es with
  |none=>rw[q] at h0;cases h0
  |some is=>
   rw[q] at h0;cases h0
   cases t with
   |tup ts=>exact xY (λe he x p hx=>by subst hx;exact List.mem_filterMap.mpr ⟨_,he,rfl⟩) q h
   |_=>cases h
 |_=>simp[qt] at h0
noncomputable def uW (X:Cx)(D:DP)(W:XW):List Expr->List Dt->Prop
 |[],[]=>True
 |e::es,f::fs=>PT X e (rdT D W f)/\uW X D W es fs
 |_,_=>False
theorem Vg{M:Model}{A:Around}{β:Type}{R:β->Mem->List Addr->Hp->Prop}{fe:De}{kk:Option T->Mem->RE β}{Qf:Bool->Shared->Prop}:∀{cs:List Expr} {fs:List Dt} {s:Shared} {H:Hp} {α:List Addr} {μ:Mem},uW X D W cs fs->Inv X pins σ H s->SRel D φ α H τ σ->MRel D φ α H μ->Post D W φ α H σ R ((jr fs fe τ μ).bind kk)->
  (∀s' H' α' μ',Inv X pins σ H' s'->Stp α H α' H'->SRel D φ α' H' τ σ->MRel D φ α' H' μ'->Post D W φ α' H' σ R ((fe τ μ').bind λy μ1=>kk (some y) μ1)->Qf true s')->
  (∀s' H' α' μ',Inv X pins σ H' s'->Stp α H α' H'->SRel D φ α' H' τ σ->MRel D φ α' H' μ'->Post D W φ α' H' σ R (kk none μ')->Qf false s')->
  vT (model X.prog X.w) X.A X.env X.xe cs Qf s
 |[],[],s,H,α,μ,_,I,sr,mr,p,h1,_=>h1 s H α μ I (Stp.refl _ _) sr mr p
 |[],_::_,_,_,_,_,h,_,_,_,_,_,_=>h.elim
 |_::_,[],_,_,_,_,h,_,_,_,_,_,_=>h.elim
 |c::cs,f::fs,s,H,α,μ,h,I,sr,mr,p,h1,h2=>by
  have p:Post D W φ α H σ R ((f τ μ).bind λb μ1=>(RE.br b (jr fs fe τ μ1) (.ok none μ1)).bind kk):=p
  refine thn (z1X h.1 I sr mr p) ?_
  rintro b s1 ⟨H1,μ1,α1,I1,st1,sr1,mr1,p1⟩
  cases b with
  |true=>
   rw[if_pos rfl]
   exact Vg (M:=M) (A:=A) h.2 I1 sr1 mr1 p1 (λs' H' α' μ' a b=>h1 s' H' α' μ' a (st1.trans b)) (λs' H' α' μ' a b=>h2 s' H' α' μ' a (st1.trans b))
  |false=>
   rw[if_neg (by decide)]
   exact h2 s1 H1 α1 μ1 I1 st1 sr1 mr1 p1
end
section
variable {X:Cx}{D:DP}{W:XW}{Γ:Cn}{k:Nat}{pins:List (Addr×Obj)}{s:Shared}{σ:St}{H:Hp}{φ α:List Addr}{τ:Sl}{μ:Mem}{tg iter elt:Expr}{sc:Scope}{fp:List Addr}{pos pos':Pos}
theorem jk{M:Model}{A:Around}{env:Env}{E E':Value->Shared->Prop}{Q:Bool->Shared->Prop}(h:∀e s,E e s->E' e s):∀{cs:List Expr} {s:Shared},vT M A env E cs Q s->vT M A env E' cs Q s
 |[],_,q=>q
 |c::cs,s,q=>wpAny_mono q (λb s1 q1=>by
  cases b with
  |true=>rw[if_pos rfl] at q1 ⊢;exact jk h q1
  |false=>rw[if_neg (by decide)] at q1 ⊢;exact q1) h
theorem XTr.but{C0 x T:Addr}{cls fl:Value}{d:Option Addr}{h g:Heap}(t:XTr h x T cls d fl)(sb:Heap.SameBut C0 h g)(hx:x≠C0)(hT:T≠C0):XTr g x T cls d fl:=by
 obtain⟨oe,vs,a0,oT,ts,ho,hc,hd,hv0,hv1,hTx,hoT,hdT,h3⟩:=t
 exact⟨oe,vs,a0,oT,ts,sb.extBut x oe hx ho,hc,hd,hv0,hv1,hTx,sb.extBut T oT hT hoT,hdT,h3⟩
theorem jD{C0:Addr}{h':Heap}(I:Inv X pins σ H s)(xo:XOk X H C0)(hp:∀q∈pins,q.1≠C0)(sb:Heap.SameBut C0 s.heap h'):Inv X pins σ H {s with heap:=h'}:=
 uH (ch:=[C0]) I (λb hb=>by rw[List.mem_singleton.mp hb];exact⟨xo,hp⟩) (λb o _ hc e=>sb.extBut b o (λz=>hc (by simp[z])) e) λb o _ hc e=>⟨o.slots,sb.extBut b o (λz=>hc (by simp[z])) e⟩
inductive CompI(D:DP)(Xb:Cx)(tn:Nat->Heap->Prop)(fp φ1 α1:List Addr)(H2:Hp)(acc:Addr)(bl:Sl)(xs:List T)(P:Nat->List T->Mem->Prop)(n:Nat)(s':Shared):Prop where
 |mk (i:Nat) (σ':St) (H':Hp) (α':List Addr) (μ':Mem) (yT:List T) (yV:List V) (e:n=xs.length-i) (hi:i<=xs.length) (iv:Inv Xb [] σ' H' s') (t:tn i s'.heap) (fr:∀b∈fp,H' b=none) (st:Stp α1 H2 α' H') (mr:MRel D φ1 α' H' μ') (sr:SRel D φ1 α' H' bl σ') (ac:H' acc=some (.lst yV)) (dl:DenL D φ1 α' H' yT yV) (hy:yT.length<=i) (q:P i yT μ')
inductive CompX(D:DP)(φ1 α1:List Addr)(H2:Hp)(Z0:Xp)(cls:Value)(d:Option Addr)(_:St)(He:Hp):Prop where
 |mk (c:Nat) (fs':List (Nat×T)) (μ':Mem) (α':List Addr) (Cc:Addr) (z:Z0 c fs' μ') (st:Stp α1 H2 α' He) (m:MRel D φ1 α' He μ') (ad:D.adr c=some Cc) (e:cls=.ref Cc) (xd:XDict D φ1 α' He fs' d)
structure XbOk(Xb X:Cx)(env:Env)(N:List Str):Prop where
 pr:Xb.prog=X.prog
 w:Xb.w=X.w
 K:Xb.K=X.K
 A:Xb.A=X.A
 en:Xb.env=env
 ca:Xb.calm=X.calm
 st:Xb.stack=X.stack
 N:Xb.N=N
theorem vZ{β:Type}{R:β->Mem->List Addr->Hp->Prop}{fi:Di}{fs:List Nat}{tgt:Tg}{ifs:List Expr}{cs:List Dt}{fe:De}{kk:List T->Mem->RE β}{use:Option (Value->Sem Unit)}{Qf:Value->Shared->Prop}
  (C:Ck D W Γ X k) (hc:Γ.calm=true) (ok:CompOk Γ.N Γ.cel tg sc) (hfs:jx Γ.N (frees sc)=some fs) (htg:qt (z4 tg++frees sc) tg=some tgt) (hi:PI X tg iter (rdI D W fi)) (hel:∀X' W',Ck D W' (inComp Γ tg sc) X' k->PE X' elt (rdE D W' fe)) (hts:∀X' W',Ck D W' (inComp Γ tg sc) X' k->uW X' D W' ifs cs) (hs:∀x,foldedSetIterable iter X.env x=pure x)
  (I:Inv X pins σ H s) (sr:SRel D φ α H τ σ) (mr:MRel D φ α H μ)
  (p:Post D W φ α H σ R ((fi τ μ).go λxs o μ1=>.grd (xs.length<=room) ((zy tgt (jr cs fe) o (blk (z4 tg).length fs τ) xs μ1).bind kk)))
  (Kq:∀acc C0 s' α1 H1 H' α' ys vs μ',Inv X pins σ H' s'->Stp α H α1 H1->Stp α1 H1 α' H'->H1 acc=none->acc∉φ->acc∉α1->SRel D (φ++[acc]) α' H' τ σ->MRel D (φ++[acc]) α' H' μ'->H' acc=some (.lst vs)->DenL D (φ++[acc]) α' H' ys vs->Post D W φ α1 H1 σ R (kk ys μ')->XOk X H' C0->(∀q∈pins,q.1≠C0)->(∃m,s'.heap.Ns C0 m)->
   (match use with
    |none=>∃m,s'.heap.Ns C0 m/\∀g,Heap.SameBut C0 s'.heap g->Qf (.ref acc) {s' with heap:=g}
    |some u=>wpAny (model X.prog X.w) X.A (u (.ref acc)) (λ_ t2=>∃m,t2.heap.Ns C0 m/\∀g,Heap.SameBut C0 t2.heap g->Qf .none {t2 with heap:=g}) X.xe s')) :
  wpAny (model X.prog X.w) X.A (comprehension (.ListComp elt [⟨tg,iter,ifs,0⟩] sc pos) sc X.env pos' (newList []) false (eval iter X.env) use) Qf X.xe s:=by
 obtain⟨cl,hclos,hcl,hcl2⟩:=Zb (sc:=sc) (env:=X.env) λx hx=>I.ok.has x (C.cel x (ok.fre x hx).2.2.1)
 refine Xn (use:=use) rfl hs hclos ok.kind ok.lcl (thn (hi pins s σ H (λJ H2=>∃xs o μ1 α1 Ok,ItV D J Ok xs/\OkI D φ α1 H2 xs o Ok/\o μ1/\Stp α H α1 H2/\MRel D φ α1 H2 μ1/\
  Post D W φ α1 H2 σ R (.grd (xs.length<=room) ((zy tgt (jr cs fe) o (blk (z4 tg).length fs τ) xs μ1).bind kk))) I
  ⟨φ,α,τ,μ,sr,mr,(show Post D W φ α H σ R ((fi τ μ).re.bind λpr μ1=>.grd (pr.1.length<=room) ((zy tgt (jr cs fe) pr.2 (blk (z4 tg).length fs τ) pr.1 μ1).bind kk)) from p).bind.mono λpr μ' α' H' st m q J Ok iv okk lv=>⟨pr.1,pr.2,μ',α',Ok,iv,okk,lv,st,m,q⟩⟩) λv s1 h1=>thn h1 λitv s2 h2=>?_)
 obtain⟨it,fp,tn,J,H2,rfl,I2,Tn,tn0,f2,xs,Lv,μ1,α1,Ok,iv,okk,lv1,st1,mr1,p1⟩:=h2
 obtain⟨hroom,K0,Z0,q0,hk0,hz0⟩:=p1.grd
 have fo:∀b∈fp,∃o,s2.heap.get? b=some o:=λb hb=>let ⟨o,e,_⟩:=Tn.obj 0 _ tn0 b hb;⟨o,e⟩
 refine wpAny_newObj_type (wpAny_newFunctionEnv ok.noc (by intro y hy;simp at hy) (λh₁ hns₁ hsb₁=>?_) ok.kind)
 have sz:(s2.heap.push {cls:=.type "list",dict:=none,data:=.seq ([]:List Value).toArray}).objs.size=s2.heap.objs.size+1:=Heap.size_push ..
 dsimp only at hns₁ hsb₁ ⊢
 rw[sz] at hns₁ hsb₁ ⊢
 have hns:h₁.Ns (s2.heap.objs.size+1) (λ_=>none):=by simpa using hns₁
 obtain⟨I3,J0⟩:=Z7 (tk:=s2.toks+([]:List (Str×Value)).length) C ok I2 f2 fo hcl hcl2 hns hsb₁
 have hD:H2 s2.heap.objs.size=none:=I2.hok.fresh (Nat.le_refl _)
 have nph:s2.heap.objs.size∉φ:=zi mr1 hD
 have nal:s2.heap.objs.size∉α1:=zh mr1 hD
 have old:∀b o,s2.heap.get? b=some o->h₁.get? b=some o:=λb o e=>hsb₁.extBut b o (Nat.ne_of_lt (Nat.lt_succ_of_lt (Heap.lt_size e))) (Heap.get?_push_of_some _ (Heap.get?_push_of_some _ e))
 have n3:({s2 with heap:=s2.heap.push {cls:=.type "list",data:=.seq ([]:List Value).toArray}}:Shared).heap.get? (s2.heap.objs.size+1)=none:=Heap.get?_none_of_le (by show (s2.heap.push _).objs.size<=_;rw[Heap.size_push];exact Nat.le_refl _)
 have xo0:=vn I3 n3
 have pn3:∀q∈pins,q.1≠s2.heap.objs.size+1:=λq hq z=>by
  have:=(I3.pin q (List.mem_append_right _ hq)).1
  rw[z,n3] at this;cases this
 generalize hS3:({s2 with heap:=s2.heap.push {cls:=.type "list",data:=.seq ([]:List Value).toArray}}:Shared)=S3 at I3 J0 n3
 generalize hH3:upd H2 s2.heap.objs.size (.lst [])=H3 at I3 J0 xo0
 generalize hXb:cxC X (z4 tg++frees sc) sc cl (s2.heap.objs.size+1) S3 H3 fp=Xb at J0
 have hXb':XbOk Xb X (compEnvC sc cl (s2.heap.objs.size+1) X.env) (z4 tg++frees sc):=by subst hXb;exact⟨rfl,rfl,rfl,rfl,rfl,rfl,rfl,rfl⟩
 have sto:Sto Xb (z4 tg):=by subst hXb;exact VI (Γ:=Γ) ok
 have cm:Xb.calm=true:=by rw[hXb'.ca];exact C.clm hc
 have back:∀{s4:Shared} {σ4:St} {H4:Hp} {pp:List (Addr×Obj)},Inv Xb pp σ4 H4 s4->Inv X pins σ H4 s4:=λ{s4 σ4 H4 pp} I4=>by
  subst hXb
  exact I3.call' (ch:=fp) I4.os I4.base I4.hok I4.bare λb hb=>by
   obtain⟨f0,f1,f2',f3,f4,f5⟩:=f2 b hb
   exact⟨f3,f1,f4,f5⟩
 have fpk:∀{H':Hp},(∀b∈fp,H' b=none)->∀b∈fp,yw Xb [] H' b:=λhn b hb=>by
  obtain⟨f0,f1,f2',f3,f4,f5⟩:=f2 b hb
  obtain⟨o,ho⟩:=fo b hb
  subst hXb
  refine⟨hn b hb,Nat.ne_of_lt (Nat.lt_succ_of_lt (Heap.lt_size ho)),λz=>?_,.inl hb,λx c h=>f4 x c (hcl x c h).1,λq hq=>absurd hq (by simp[cxC])⟩
  rcases List.mem_cons.mp (I2.stkSub b z) with z|z
  ·exact f1 z
  ·exact f2' z
 have TnI:=Tn.item Xb hXb'.pr hXb'.w hXb'.K cm
 have TnD:=Tn.done Xb hXb'.pr hXb'.w hXb'.K cm
 obtain⟨e0,out,L,F⟩:=C.frm
 have ce:(compEnvC sc cl (s2.heap.objs.size+1) X.env).frame=some L:=F.fe
 obtain⟨NB,hNB⟩:∃NB:Value->Shared->Prop,NB=notedBy (model X.prog X.w) X.A (compEnvC sc cl (s2.heap.objs.size+1) X.env) (λx s'=>yu (model X.prog X.w) X.A X.xe use Qf (.ref s2.heap.objs.size) (compEnvC sc cl (s2.heap.objs.size+1) X.env) (.error x) s'):=⟨_,rfl⟩
 have leave:∀{pp:List (Addr×Obj)} {e:Value} {t:Shared},(∀b∈fp,∃o,(b,o)∈pp)->XP (Cx.pin' Xb pp) (CompX D (φ++[s2.heap.objs.size]) α1 H2 Z0) e t->
   NB e t:=λ{pp e t} hpp xp=>by
  have Fb:Frm (Cx.pin' Xb pp) e0 out L:=⟨by show Xb.stack=_;rw[hXb'.st];exact F.stk,F.f0,by show Xb.env.frame=_;rw[hXb'.en];exact ce⟩
  have hfr:X.A.frames=some (Cx.pin' Xb pp).stack:=by show _=some Xb.stack;rw[hXb'.st];exact I.ok.frames
  rw[hNB]
  unfold notedBy
  rw[show compEnvC sc cl (s2.heap.objs.size+1) X.env=(Cx.pin' Xb pp).env from hXb'.en.symm]
  refine jI (X:=Cx.pin' Xb pp) Fb hfr xp λx cls d σe He T h' ee Ie ox oT tr w=>?_
  subst ee
  have en:(Cx.pin' Xb pp).env=compEnvC sc cl (s2.heap.objs.size+1) X.env:=hXb'.en
  rw[en]
  have Iu:Inv Xb pp σe He {t with heap:=h'}:=zw Ie
  have IX:=back Iu
  have nw:∀b,XOk (Cx.pin' Xb pp) He b->XOk X He b/\b≠s2.heap.objs.size+1:=λb o=>by
   have hb:b∉fp:=λz=>by
    obtain⟨ob,hm⟩:=hpp b z
    exact o.pin (b,ob) (List.mem_append_right _ hm) rfl
   have h3:S3.heap.get? b=none:=by
    have:=o.new
    subst hXb
    exact this.resolve_left hb
   have q:=vn I3 h3
   refine⟨⟨o.free,q.loc,q.nfs,q.new,q.cel,q.pin⟩,?_⟩
   have:=o.loc
   have e2:(Cx.pin' Xb pp).env.locals=s2.heap.objs.size+1:=by rw[en];rfl
   rw[e2] at this;exact this
  have xoC:XOk X He (s2.heap.objs.size+1):=⟨by have:=Iu.free;rw[hXb'.en] at this;exact this,xo0.loc,xo0.nfs,xo0.new,xo0.cel,xo0.pin⟩
  obtain⟨m,hm,_⟩:=Iu.loc
  rw[hXb'.en] at hm
  refine⟨m,hm,λg sb=>?_⟩
  have sb':Heap.SameBut (s2.heap.objs.size+1) h' g:=sb
  have Ig:Inv X [] σ He {t with heap:=g}:=(jD IX xoC pn3 sb').pins_of λp hp=>absurd hp (by simp)
  have tg':=tr.but sb' (nw x ox).2 (nw T oT).2
  unfold PySem.passOn
  obtain⟨oe,vs',a0,oT',ts,ho,hcc,hd,hv0,hv1,hT,hoT,hdT,h3⟩:=id tg'
  refine wpAny_bind (wpAny_field ho hd hv1 ?_)
  rw[if_neg (show ¬((Value.ref T == Value.none)=true) from by simp)]
  have go:∀{t2:Shared},XP X W (.ref x) t2->wpAny (model X.prog X.w) X.A (throw (Value.ref x):Sem Value) (λ_ _=>False) X.xe t2:=λ{t2} xp=>wpAny_throw (C.xe _ _ xp)
  have fin:wpAny (model X.prog X.w) X.A (setFlight (.ref x) (compEnvC sc cl (s2.heap.objs.size+1) X.env).frame) (λ_ t2=>XP X W (.ref x) t2) X.xe {t with heap:=g}:=by
   refine zW (s:={t with heap:=g}) Ig (nw x ox).1 (nw T oT).1 tg' λh4 I4 tr4=>?_
   obtain⟨c,fs',μ',α',Cc,z,stp,m',ad,rfl,xd⟩:=w
   refine⟨x,.ref Cc,d,σ,He,some T,rawInt L,rfl,I4,(nw x ox).1,λt ht=>?_,?_,.inr ⟨L,F.fe,rfl⟩,?_⟩
   ·have:t=T:=by simpa using ht
    rw[this];exact (nw T oT).1
   ·rw[ce] at tr4;exact tr4
   ·refine hz0 c fs' μ' z α' He Cc d stp (m'.lk qO (λa ha=>⟨rfl,λz=>m'.dis a ha (List.mem_append_left _ z)⟩) λb hb=>m'.phi b (List.mem_append_left _ hb)) ad (xd.lk qO)
  first
   |exact wpAny_bind (thn fin λ_ t2 xp=>go xp)
   |exact wpAny_bind (wpAny_pure (wpAny_bind (thn fin λ_ t2 xp=>go xp)))
 have loop:codeAny (model X.prog X.w) X.A (.compLoop (.ListComp elt [⟨tg,iter,ifs,0⟩] sc pos) 0 (.ref it) (.ref s2.heap.objs.size) (compEnvC sc cl (s2.heap.objs.size+1) X.env)) (yu (model X.prog X.w) X.A X.xe use Qf (.ref s2.heap.objs.size) (compEnvC sc cl (s2.heap.objs.size+1) X.env)) {s2 with heap:=h₁,toks:=s2.toks+([]:List (Str×Value)).length}:=by
  obtain⟨LI,hLI⟩:∃LI:Nat->Shared->Prop,LI=CompI D Xb tn fp (φ++[s2.heap.objs.size]) α1 H2 s2.heap.objs.size (blk (z4 tg).length fs τ) xs (λi yT μ'=>Lv μ'/\zy tgt (jr cs fe) Lv (blk (z4 tg).length fs τ) (xs.drop i) μ' (λrest μ2=>kk (yT++rest) μ2 K0 Z0) Z0):=⟨_,rfl⟩
  refine QN LI ?_ xs.length ?_
  ·intro n s' h0
   rw[hLI] at h0
   obtain⟨i,σ',H',α',μ',yT,yV,rfl,hi',Iv,tni,fr,stp,mr',sr',hacc,dly,hyl,lv',hcmi⟩:=h0
   have okH:Ok (φ++[s2.heap.objs.size]) α' H':=okk _ α' H' μ' ((vS hD).trans stp.lk) mr' lv'
   by_cases hlt:i<xs.length
   ·have TI:=TnI i [] s' σ' H' (λ_ _=>False) Iv (fpk fr) tni (iv.go i _ _ H' okH (by omega))
    rw[hXb'.A] at TI
    refine thn TI ?_
    rintro r s4 ⟨u,rfl,h4⟩
    refine thn h4 ?_
    rintro _ s5 ⟨x,H5,I5,r5,y5,tn5,fr5⟩
    obtain⟨sm5,dx'⟩:=iv.yld i _ _ H' x H5 xs[i] okH (by simp[hlt]) y5
    have stp:=stp.trans (Stp.new (α:=α') sm5)
    have sr':=sr'.step (Stp.new (α:=α') sm5)
    have mr':=mr'.new sm5
    have hacc:=sm5 _ _ hacc
    have dly:=dly.step (Stp.new (α:=α') sm5)
    have hdr:xs.drop i=xs[i]::xs.drop (i+1):=List.drop_eq_getElem_cons hlt
    rw[hdr] at hcmi
    obtain⟨τ',ha,hfe⟩:=hcmi
    have I5':=I5.pinned (fpk fr5) (Tn.obj _ _ tn5)
    have A6:=ZC (S:=z4 tg) (X:=Xb) hXb'.N ok.nd sto cm (λx h=>h) htg ha I5' sr' dx' r5
    rw[hXb'.pr,hXb'.w,hXb'.A,hXb'.en,show Xb.xe=λ_ _=>False by subst hXb;rfl] at A6
    refine thn A6 ?_
    rintro _ s6 ⟨σ6,I6,sr6⟩
    generalize hpp:([]++kY fp s5.heap:List (Addr×Obj))=pp at I6
    have hppm:∀b∈fp,∃o,(b,o)∈pp:=λb hb=>by
     obtain⟨o,e,_⟩:=Tn.obj _ _ tn5 b hb
     exact⟨o,by rw[←hpp];exact List.mem_append_right _ (qZ hb e)⟩
    generalize hW1:CompX D (φ++[s2.heap.objs.size]) α1 H2 Z0=W1
    have lv:∀e t,XP (Cx.pin' Xb pp) W1 e t->NB e t:=λe t xp=>by
     rw[←hW1] at xp;exact leave hppm xp
    have ck:Ck D W1 (inComp Γ tg sc) ((Cx.pin' Xb pp).wish (XP (Cx.pin' Xb pp) W1)) k:=by
     subst hXb
     exact K2 (W':=W1) (pn:=[]++pp) (xe:=XP (Cx.pin' (cxC X (z4 tg++frees sc) sc cl (s2.heap.objs.size+1) S3 H3 fp) pp) W1) C ok λe s p=>j5 (X:=Cx.pin' (cxC X (z4 tg++frees sc) sc cl (s2.heap.objs.size+1) S3 H3 fp) pp) p
    have I6':Inv ((Cx.pin' Xb pp).wish (XP (Cx.pin' Xb pp) W1)) [] σ6 H5 s6:=(uR I6).wish _
    have next:∀{s7:Shared} {H7:Hp} {α7:List Addr} {μ7:Mem} {yT':List T} {yV':List V},Inv ((Cx.pin' Xb pp).wish (XP (Cx.pin' Xb pp) W1)) [] σ6 H7 s7->Stp α1 H2 α7 H7->MRel D (φ++[s2.heap.objs.size]) α7 H7 μ7->SRel D (φ++[s2.heap.objs.size]) α7 H7 τ' σ6->H7 s2.heap.objs.size=some (.lst yV')->DenL D (φ++[s2.heap.objs.size]) α7 H7 yT' yV'->yT'.length<=i+1->
      Lv μ7->zy tgt (jr cs fe) Lv (blk (z4 tg).length fs τ) (xs.drop (i+1)) μ7 (λrest μ2=>kk (yT'++rest) μ2 K0 Z0) Z0->
      ∃m,m<xs.length-i/\LI m s7:=λ{s7 H7 α7 μ7 yT' yV'} I7 st7 m7 sr7 ac7 dy7 hy7 lv7 q7=>by
     have I7u:Inv Xb pp σ6 H7 s7:=zw I7.unwish
     have pinned:∀b∈fp,∃o,s5.heap.get? b=some o/\s7.heap.get? b=some o/\H7 b=none:=λb hb=>by
      obtain⟨o,e,_⟩:=Tn.obj _ _ tn5 b hb
      have:=I7u.pin (b,o) (List.mem_append_right _ (by rw[←hpp];exact List.mem_append_right _ (qZ hb e)))
      exact⟨o,e,this.1,this.2.1⟩
     refine⟨xs.length-(i+1),by omega,?_⟩
     rw[hLI]
     refine⟨i+1,σ6,H7,α7,μ7,yT',yV',rfl,hlt,I7u.pins_of (λp hp=>absurd hp (by simp)),Tn.keep _ _ _ tn5 (λb hb o e=>?_),λb hb=>(pinned b hb).choose_spec.2.2,st7,m7,⟨?_,λj t e=>?_⟩,ac7,dy7,hy7,lv7,q7⟩
     ·obtain⟨o',e1,e2,_⟩:=pinned b hb
      rw[e] at e1;cases e1;exact e2
     ·have:=I7u.len
      rw[hXb'.N] at this
      rw[yB,this]
      simp[jK,kn hfs]
     ·have hj:(z4 tg).length<=j:=by
       rcases Nat.lt_or_ge j (z4 tg).length with h|h
       ·rw[yB,List.getElem?_append_left (by simpa using h),List.getElem?_replicate] at e
        split at e<;>cases e
       ·exact h
      exact sr7.val j t (by rw[WY htg ha j hj];exact e)
    have P0:Post D W1 (φ++[s2.heap.objs.size]) α' H5 σ6 (λ(o:Option T) μ7 α7 H7=>match o with
      |some y=>∀v,Den D (φ++[s2.heap.objs.size]) α7 H7 y v->Lv μ7/\zy tgt (jr cs fe) Lv (blk (z4 tg).length fs τ) (xs.drop (i+1)) μ7 (λys μ2=>kk (yT++y::ys) μ2 K0 Z0) Z0
      |none=>Lv μ7/\zy tgt (jr cs fe) Lv (blk (z4 tg).length fs τ) (xs.drop (i+1)) μ7 (λys μ2=>kk (yT++ys) μ2 K0 Z0) Z0) ((jr cs fe τ' μ').bind λo μ7=>RE.ok o μ7):=by
     refine⟨_,Z0,hfe,λo μ7 e α7 H7 st m=>?_,λc fs' μ7 z α7 H7 Cc d st m ad xd=>?_⟩
     ·cases o with
      |some y=>exact λv _=>e
      |none=>exact e
     ·rw[←hW1];exact⟨c,fs',μ7,α7,Cc,z,stp.trans st,m,ad,rfl,xd⟩
    have ep:((Cx.pin' Xb pp).wish (XP (Cx.pin' Xb pp) W1)).prog=X.prog:=hXb'.pr
    have ew:((Cx.pin' Xb pp).wish (XP (Cx.pin' Xb pp) W1)).w=X.w:=hXb'.w
    have eA:((Cx.pin' Xb pp).wish (XP (Cx.pin' Xb pp) W1)).A=X.A:=hXb'.A
    have ee:((Cx.pin' Xb pp).wish (XP (Cx.pin' Xb pp) W1)).env=compEnvC sc cl (s2.heap.objs.size+1) X.env:=hXb'.en
    have nD:s2.heap.objs.size∉α':=λz=>mr'.dis _ z (by simp)
    have G:=Vg (X:=(Cx.pin' Xb pp).wish (XP (Cx.pin' Xb pp) W1)) (M:=model X.prog X.w) (A:=X.A) (Qf:=λb s₄=>if b=true then wpAny (model X.prog X.w) X.A (eval elt (compEnvC sc cl (s2.heap.objs.size+1) X.env)) (λx s₅=>wpAny (model X.prog X.w) X.A (call (.builtin "list.append") [.ref s2.heap.objs.size,x]) (λ_ s₆=>∃m,m<xs.length-i/\LI m s₆) (λ_ _=>False) s₅) NB s₄ else ∃m,m<xs.length-i/\LI m s₄) (hts _ W1 ck) I6' sr6 mr' P0 (λs7 H7 α7 μ7 I7 st7 sr7 m7 p7=>?_) (λs7 H7 α7 μ7 I7 st7 sr7 m7 p7=>?_)
    ·rw[ep,ew,eA,ee] at G
     rw[←hNB]
     exact jk (λe t h=>lv e t h) G
    ·rw[if_pos rfl]
     have E7:=sub (hel _ W1 ck) I7 sr7 m7 p7
     rw[ep,ew,eA,ee] at E7
     refine wpAny_mono E7 (λx8 s8 h8=>?_) λe t h=>lv e t h
     obtain⟨v8,H8,y8,μ8,α8,I8,r8,st8,sr8,m8,d8,p8⟩:=h8
     have q8:=p8.ok (Stp.refl _ _) m8 v8 d8
     have acc8:H8 s2.heap.objs.size=some (.lst yV):=st8.keep _ _ (λz=>m7.dis _ z (by simp)) (st7.keep _ _ nD hacc)
     have hyv:yV.length<=i:=by rw[←dly.length];exact hyl
     have AP:=y7 (X:=Cx.pin' Xb pp) [] s8 σ6 H8 (.ref s2.heap.objs.size) [v8] (.ref s2.heap.objs.size) [x8] (λ_ H9=>H9=upd H8 s2.heap.objs.size (.lst (yV++[v8]))) I8.unwish rfl (.cons r8 .nil) ⟨_,yV,v8,rfl,rfl,acc8,Nat.lt_of_le_of_lt hyv (Nat.lt_of_lt_of_le hlt (zk hroom)),rfl⟩
     rw[show (Cx.pin' Xb pp).prog=X.prog from hXb'.pr,show (Cx.pin' Xb pp).w=X.w from hXb'.w,show (Cx.pin' Xb pp).A=X.A from hXb'.A,show (Cx.pin' Xb pp).xe=λ_ _=>False by subst hXb;rfl] at AP
     refine thn AP ?_
     rintro x9 s9 ⟨v9,H9,I9,r9,rfl⟩
     have inphi:s2.heap.objs.size∈φ++[s2.heap.objs.size]:=by simp
     have t:=(stp.trans st7).trans st8
     have one:DenL D (φ++[s2.heap.objs.size]) α8 H8 [y8] [v8]:=⟨v8,[],rfl,d8,rfl⟩
     refine next (I9.wish _) ⟨t.ext,λb o n e=>?_,λb e=>t.live b ?_⟩ (m8.lk (km inphi) (λa ha'=>⟨by rw[z8 (λz=>m8.dis a ha' (by rw[z];simp))],m8.dis a ha'⟩) (λb hb=>?_)) (sr8.lk (km inphi)) z6 ((((dly.step st7).step st8).append one).lk (km inphi)) (by simp;omega) q8.1 (by simpa using q8.2)
     ·rw[z8 (zv e hD)];exact t.keep b o n e
     ·by_cases hb:b=s2.heap.objs.size
      ·rw[hb,z6] at e;cases e
      ·rw[z8 hb] at e;exact e
     ·by_cases hb':b=s2.heap.objs.size
      ·rw[hb',z6];exact⟨_,rfl,rfl⟩
      ·rw[z8 hb'];exact m8.phi b hb
    ·rw[if_neg (by decide)]
     exact next I7 (stp.trans st7) m7 sr7 (st7.keep _ _ nD hacc) (dly.step st7) (by omega) (p7.ok (Stp.refl _ _) m7).1 (p7.ok (Stp.refl _ _) m7).2
   ·have hie:i=xs.length:=by omega
    have TD:=TnD i [] s' σ' H' (λ_ _=>False) Iv (fpk fr) tni (by rw[hie];exact iv.stop _ _ H' okH)
    rw[hXb'.A] at TD
    refine thn TD ?_
    rintro r s4 ⟨rfl,I4⟩
    have hdr:xs.drop i=[]:=by rw[hie];simp
    rw[hdr] at hcmi
    have q4:kk yT μ' K0 Z0:=by
     have:kk (yT++[]) μ' K0 Z0:=hcmi
     simpa using this
    have I5:=back I4
    obtain⟨m,hm,_⟩:=I4.loc
    rw[hXb'.en] at hm
    exact Kq s2.heap.objs.size (s2.heap.objs.size+1) s4 α1 H2 H' α' yT yV μ' I5 st1 stp hD nph nal (((sr.step st1).lk (vS hD)).step stp) mr' hacc dly ⟨K0,Z0,q4,hk0,hz0⟩ ⟨by have:=I4.free;rw[hXb'.en] at this;exact this,xo0.loc,xo0.nfs,xo0.new,xo0.cel,xo0.pin⟩ pn3 ⟨m,hm⟩
  ·have sm:jY H2 H3:=by rw[←hH3];exact zd hD
   rw[hLI]
   refine⟨0,_,_,α1,μ1,[],[],rfl,Nat.zero_le _,J0,Tn.keep _ _ _ tn0 λb hb o e=>old b o e,λb hb=>?_,Stp.new sm,?_,?_,by rw[←hH3];exact z6,rfl,Nat.le_refl _,lv1,by simpa using q0⟩
   ·obtain⟨o,ho⟩:=fo b hb
    rw[←hH3,z8 (Nat.ne_of_lt (Heap.lt_size ho))]
    exact (f2 b hb).1
   ·refine mr1.lk (uA hD sm) (λa ha=>?_) λb hb=>?_
    ·have na:a≠s2.heap.objs.size:=λz=>nal (z▸ha)
     exact⟨by rw[←hH3];exact z8 na,λz=>(List.mem_append.mp z).elim (mr1.dis a ha) λz=>na (List.mem_singleton.mp z)⟩
    ·rcases List.mem_append.mp hb with z|z
     ·obtain⟨o,e,n⟩:=mr1.phi b z
      exact⟨o,sm b o e,n⟩
     ·rw[List.mem_singleton.mp z,←hH3,z6];exact⟨_,rfl,rfl⟩
   ·exact (KU (sr.step st1) hfs).lk (uA hD sm)
 exact codeAny_compStart_list loop (wpAny_mono (Tn.self _ 0 _ _ _ (Tn.keep _ _ _ tn0 λb hb o e=>old b o e) loop) (λ_ _ q=>q) λ_ _ q=>q)
end
section
variable {X:Cx}{D:DP}{W:XW}{Γ:Cn}{k:Nat}{pins:List (Addr×Obj)}{s:Shared}{σ:St}{H:Hp}{φ α:List Addr}{τ:Sl}{μ:Mem}{tg iter elt:Expr}{sc:Scope}{pos:Pos}{fi:Di}{fs:List Nat}{tgt:Tg}{ifs:List Expr}{cs:List Dt}{fe:De}
theorem uM{β:Type}{R:β->Mem->List Addr->Hp->Prop}{kk:T->Mem->RE β}{acc:Addr}{α1 α':List Addr}{H1 H':Hp}{ys:List T}{vs:List V}{μ':Mem}(st:Stp α1 H1 α' H')(hn:H1 acc=none)(nph:acc∉φ)(mr:MRel D (φ++[acc]) α' H' μ')(ha:H' acc=some (.lst vs))(dl:DenL D (φ++[acc]) α' H' ys vs)(p:Post D W φ α1 H1 σ R (kk (.lst ys) μ')) :
  MRel D φ α' H' μ'/\Den D φ α' H' (.lst ys) (.ref acc)/\Post D W φ α' H' σ R (kk (.lst ys) μ'):=
 ⟨mr.lk qO (λa ha=>⟨rfl,λz=>mr.dis a ha (List.mem_append_left _ z)⟩) λb hb=>mr.phi b (List.mem_append_left _ hb),⟨acc,vs,rfl,nph,λz=>mr.dis _ z (by simp),.inl ha,dl.lk qO⟩,p.step st⟩
theorem va{acc:Addr}{α':List Addr}{H':Hp}:Lk (φ++[acc]) α' H' φ (α'++[acc]) H':=⟨λa o n1 n2 e=>⟨λz=>n1 (List.mem_append_left _ z),λz=>(List.mem_append.mp z).elim n2 λz=>n1 (by rw[List.mem_singleton.mp z];simp),e⟩,λi a e=>by
 rw[List.getElem?_append_left (List.getElem?_eq_some_iff.mp e).1];exact e⟩
theorem xM{acc:Addr}{α1 α':List Addr}{H1 H':Hp}{ys:List T}{vs:List V}{μ':Mem}(st:Stp α1 H1 α' H')(hn:H1 acc=none)(nph:acc∉φ)(mr:MRel D (φ++[acc]) α' H' μ')(ha:H' acc=some (.lst vs))(dl:DenL D (φ++[acc]) α' H' ys vs) :
  Stp α1 H1 (α'++[acc]) H'/\MRel D φ (α'++[acc]) H' (μ'++[.lst ys])/\Den D φ (α'++[acc]) H' (.mut μ'.length) (.ref acc):=by
 have nal:acc∉α':=λz=>mr.dis _ z (by simp)
 refine⟨?_,⟨by simp[mr.len],?_,λb hb=>?_,λb hb=>mr.phi b (List.mem_append_left _ hb),λi a o e1 e2=>?_⟩,acc,by rw[←mr.len,List.getElem?_append_right (Nat.le_refl _)];simp,rfl⟩
 ·obtain⟨β,e,hβ⟩:=st.ext
  exact⟨⟨β++[acc],by rw[e];simp,λb hb=>(List.mem_append.mp hb).elim (hβ b) λz=>by rw[List.mem_singleton.mp z];exact hn⟩,st.keep,st.live⟩
 ·rw[List.nodup_append]
  exact⟨mr.nd,by simp,λa ha b hb z=>nal (by rw[List.mem_singleton.mp hb] at z;exact z▸ha)⟩
 ·rcases List.mem_append.mp hb with h|h
  ·exact λz=>mr.dis b h (List.mem_append_left _ z)
  ·rw[List.mem_singleton.mp h];exact nph
 ·by_cases hi:i<α'.length
  ·rw[List.getElem?_append_left hi] at e1
   rw[List.getElem?_append_left (by rw[←mr.len];exact hi)] at e2
   exact (mr.ob i a o e1 e2).lk va rfl
  ·have hl:=mr.len
   rw[List.getElem?_append_right (by omega)] at e1 e2
   have hi':i-α'.length=0:=by
    by_cases z:i-α'.length=0
    ·exact z
    ·rw[List.getElem?_eq_none (by simp;omega)] at e1;cases e1
   have hi2:i-μ'.length=0:=by omega
   rw[hi'] at e1
   rw[hi2] at e2
   have e1:some acc=some a:=e1
   have e2:some (MO.lst ys)=some o:=e2
   cases e1;cases e2
   exact⟨vs,ha,dl.lk va⟩
theorem Z_(C:Ck D W Γ X k)(hc:Γ.calm=true)(ok:CompOk Γ.N Γ.cel tg sc)(hfs:jx Γ.N (frees sc)=some fs)(htg:qt (z4 tg++frees sc) tg=some tgt)(hi:PI X tg iter (rdI D W fi))(hel:∀X' W',Ck D W' (inComp Γ tg sc) X' k->PE X' elt (rdE D W' fe))(hts:∀X' W',Ck D W' (inComp Γ tg sc) X' k->uW X' D W' ifs cs)(hs:∀x,foldedSetIterable iter X.env x=pure x) :
  PE X (.ListComp elt [⟨tg,iter,ifs,0⟩] sc pos) (rdE D W (qw (z4 tg).length fs tgt fi cs fe)):=by
 rintro pins s σ H Q I ⟨φ,α,τ,μ,sr,mr,p⟩
 rw[eval_ListComp]
 refine vZ (kk:=λys μ=>RE.ok (T.lst ys) μ) (use:=none) (Qf:=EP X pins σ Q) C hc ok hfs htg hi hel hts hs I sr mr p ?_
 rintro acc C0 s' α1 H1 H' α' ys vs μ' I' st1 st hn nph nal sr' m ha dl post xo hp ⟨mm,hm⟩
 obtain⟨m2,d,post⟩:=uM (kk:=λt μ=>RE.ok t μ) st hn nph m ha dl post
 exact⟨mm,hm,λg sb=>⟨.ref acc,H',jD I' xo hp sb,rfl,post.here m2 d⟩⟩
theorem Jb(C:Ck D W Γ X k)(hc:Γ.calm=true)(ok:CompOk Γ.N Γ.cel tg sc)(hfs:jx Γ.N (frees sc)=some fs)(htg:qt (z4 tg++frees sc) tg=some tgt)(hi:PI X tg iter (rdI D W fi))(hel:∀X' W',Ck D W' (inComp Γ tg sc) X' k->PE X' elt (rdE D W' fe))(hts:∀X' W',Ck D W' (inComp Γ tg sc) X' k->uW X' D W' ifs cs)(hs:∀x,foldedSetIterable iter X.env x=pure x) :
  PE X (.ListComp elt [⟨tg,iter,ifs,0⟩] sc pos) (rdE D W (v_ (z4 tg).length fs tgt fi cs fe)):=by
 rintro pins s σ H Q I ⟨φ,α,τ,μ,sr,mr,p⟩
 rw[eval_ListComp]
 refine vZ (kk:=λys μ=>RE.ok (T.mut μ.length) (μ++[MO.lst ys])) (use:=none) (Qf:=EP X pins σ Q) C hc ok hfs htg hi hel hts hs I sr mr p ?_
 rintro acc C0 s' α1 H1 H' α' ys vs μ' I' st1 st hn nph nal sr' m ha dl post xo hp ⟨mm,hm⟩
 obtain⟨st2,m2,d⟩:=xM st hn nph m ha dl
 exact⟨mm,hm,λg sb=>⟨.ref acc,H',jD I' xo hp sb,rfl,post.ok st2 m2 _ d⟩⟩
theorem z_{x:Str}{g:GM}(h:Γ.look x=g)(hg:g≠.bad):x∈Γ.G/\Γ.gl x=g:=by
 unfold Cn.look at h
 split at h
 ·rename_i hm
  exact⟨by simpa using hm,h⟩
 ·exact absurd h.symm hg
theorem uk{iter:Expr}(h:qC iter=true):∀x,foldedSetIterable iter X.env x=pure x:=by
 intro x
 cases iter<;>first|rfl|(simp[qC] at h)
end
structure PostH(D:DP)(W:XW)(φ α:List Addr)(H:Hp)(E:Ends)(Q:En):Prop where
 nx:∀τ μ,Q.nx τ μ->∀α' H' σ',Stp α H α' H'->MRel D φ α' H' μ->SRel D φ α' H' τ σ'->E.nx σ' H'
 bk:∀τ μ,Q.bk τ μ->∀α' H' σ',Stp α H α' H'->MRel D φ α' H' μ->SRel D φ α' H' τ σ'->E.bk σ' H'
 ct:∀τ μ,Q.ct τ μ->∀α' H' σ',Stp α H α' H'->MRel D φ α' H' μ->SRel D φ α' H' τ σ'->E.ct σ' H'
 rt:∀t μ,Q.rt t μ->∀α' H' v,Stp α H α' H'->MRel D φ α' H' μ->Den D φ α' H' t v->E.rt v H'
 ex:∀c fs τ μ,Q.ex c fs τ μ->∀α' H' σ' C d,Stp α H α' H'->MRel D φ α' H' μ->SRel D φ α' H' τ σ'->D.adr c=some C->XDict D φ α' H' fs d->W (.ref C) d σ' H'
inductive PostS(D:DP)(W:XW)(φ α:List Addr)(H:Hp)(E:Ends)(o:Out):Prop where
 |mk (Q:En) (q:o Q) (h:PostH D W φ α H E Q)
noncomputable def rdS (D:DP)(W:XW)(f:Ds):TS:=λE σ H=>RdP D H σ λφ α τ μ=>PostS D W φ α H E (f τ μ)
structure Sk(D:DP)(W:XW)(Γ:Cn)(X:Cx)(k:Nat):Prop extends Ck D W Γ X k where
 sto:Sto X Γ.sto
 lcl:∀x∈Γ.N,Γ.cel.contains x=false->X.env.scope.names.lookup x=some .local
 pso:PassesOwn (model X.prog X.w) X.A X.env X.xe
 xmt:∀t x c,(x,c)∈Γ.cls->c<40->∀Ct Cc,D.adr t=some Ct->X.mg x=some (.ref Cc)->PySem.W.exmOne X.K (.ref Ct) (.ref Cc)=some (wj t c)
section
variable {X:Cx}{D:DP}{W:XW}{Γ:Cn}{k:Nat}{pins:List (Addr×Obj)}{s:Shared}{σ:St}{H:Hp}{φ α:List Addr}{τ:Sl}{μ:Mem}{f g:De}{a b c e:Expr}{pos:Pos}{E:Ends}{u v:Ds}
theorem PostS.step{α':List Addr}{H':Hp}{o:Out}(p:PostS D W φ α H E o)(st:Stp α H α' H'):PostS D W φ α' H' E o:=by
 obtain⟨Q,q,h1,h2,h3,h4,h5⟩:=p
 exact⟨Q,q,λτ μ z α2 H2 σ2 s2=>h1 τ μ z α2 H2 σ2 (st.trans s2),λτ μ z α2 H2 σ2 s2=>h2 τ μ z α2 H2 σ2 (st.trans s2),λτ μ z α2 H2 σ2 s2=>h3 τ μ z α2 H2 σ2 (st.trans s2),λτ μ z α2 H2 σ2 s2=>h4 τ μ z α2 H2 σ2 (st.trans s2),λc fs τ μ z α2 H2 σ2 C d s2=>h5 c fs τ μ z α2 H2 σ2 C d (st.trans s2)⟩
theorem PostS.elim{C:Prop}(p:PostS D W φ α H E Out.st):C:=by obtain⟨_,q,_⟩:=p;exact q.elim
theorem PostS.nx{τ:Sl}{μ:Mem}(p:PostS D W φ α H E (.nx τ μ)){α':List Addr}{H':Hp}{σ':St}(s:Stp α H α' H')(m:MRel D φ α' H' μ)(r:SRel D φ α' H' τ σ'):E.nx σ' H':=by
 obtain⟨Q,q,h1,_⟩:=p
 exact h1 τ μ q α' H' σ' s m r
theorem PostS.rt{t:T}{μ:Mem}(p:PostS D W φ α H E (.rt t μ)){α':List Addr}{H':Hp}{v:V}(s:Stp α H α' H')(m:MRel D φ α' H' μ)(r:Den D φ α' H' t v):E.rt v H':=by
 obtain⟨Q,q,_,_,_,h,_⟩:=p
 exact h t μ q α' H' v s m r
theorem PostS.ex{c:Nat}{fs:List (Nat×T)}{τ:Sl}{μ:Mem}(p:PostS D W φ α H E (.ex c fs τ μ)){α':List Addr}{H':Hp}{σ':St}{C:Addr}{d:Option Addr}(s:Stp α H α' H')(m:MRel D φ α' H' μ)(r:SRel D φ α' H' τ σ')(ad:D.adr c=some C)(x:XDict D φ α' H' fs d):W (.ref C) d σ' H':=by
 obtain⟨Q,q,_,_,_,_,h⟩:=p
 exact h c fs τ μ q α' H' σ' C d s m r ad x
theorem PostS.grd{c:Prop}{o:Out}(p:PostS D W φ α H E (Out.grd c o)):c/\PostS D W φ α H E o:=by
 obtain⟨Q,q,h⟩:=p
 exact⟨q.1,Q,q.2,h⟩
theorem PostS.som{γ:Type}{o:Option γ}{k:γ->Out}(p:PostS D W φ α H E (Out.som o k)):∃a,o=some a/\PostS D W φ α H E (k a):=by
 obtain⟨Q,⟨a,e,q⟩,h⟩:=p
 exact⟨a,e,Q,q,h⟩
theorem PostS.br{b:Bool}{r s:Out}(p:PostS D W φ α H E (Out.br b r s)):(b=true/\PostS D W φ α H E r)\/(b=false/\PostS D W φ α H E s):=by
 obtain⟨Q,q,h⟩:=p
 cases b with
 |true=>exact .inl ⟨rfl,Q,q,h⟩
 |false=>exact .inr ⟨rfl,Q,q,h⟩
theorem PostS.ex2{δ1 δ2:Type}{P P2:δ1->δ2->Prop}{r:δ1->δ2->Out}(p:PostS D W φ α H E (λQ=>∃x y,P x y/\P2 x y/\r x y Q)):∃x y,P x y/\P2 x y/\PostS D W φ α H E (r x y):=by
 obtain⟨Q,⟨x,y,h1,h2,q⟩,h⟩:=p
 exact⟨x,y,h1,h2,Q,q,h⟩
theorem PostS.ex1{δ1:Type}{P P2:δ1->Prop}{r:δ1->Out}(p:PostS D W φ α H E (λQ=>∃x,P x/\P2 x/\r x Q)):∃x,P x/\P2 x/\PostS D W φ α H E (r x):=by
 obtain⟨Q,⟨x,h1,h2,q⟩,h⟩:=p
 exact⟨x,h1,h2,Q,q,h⟩
theorem PostS.out{β:Type}{r:RE β}{kk:β->Mem->Out}(sr:SRel D φ α H τ σ)(p:PostS D W φ α H E (r.out τ kk)):Post D W φ α H σ (λt μ' α' H'=>PostS D W φ α' H' E (kk t μ')) r:=by
 obtain⟨Q,q,h⟩:=p
 refine⟨_,_,q,λa μ' e α' H' st m=>PostS.step ⟨Q,e,h⟩ st,λc fs μ' e α' H' C d st m ad xd=>?_⟩
 exact h.ex c fs τ μ' e α' H' σ C d st m (sr.step st) ad xd
theorem Us(ha:PE X a (rdE D W f)):PS X (.Return (some a) pos) (rdS D W (zz f)):=by
 rintro pins s σ H E I ⟨φ,α,τ,μ,sr,mr,p⟩
 refine YL ha pins s σ H E I ⟨φ,α,τ,μ,sr,mr,(PostS.out sr p).mono λt μ' α' H' st m q v d=>PostS.rt q (Stp.refl _ _) m d⟩
theorem Ko:PS X (.Return none pos) (rdS D W XE):=by
 rintro pins s σ H E I ⟨φ,α,τ,μ,sr,mr,p⟩
 exact J_ pins s σ H E I (PostS.rt p (Stp.refl _ _) mr rfl)
theorem X9(hs:swapsWith a none pos.line X.env=pure false)(ha:PE X a (rdE D W f)):PS X (.Expr a pos) (rdS D W (qd f)):=by
 rintro pins s σ H E I ⟨φ,α,τ,μ,sr,mr,p⟩
 refine JM ha hs pins s σ H E I ⟨φ,α,τ,μ,sr,mr,(PostS.out sr p).mono λt μ' α' H' st m q v d=>PostS.nx q (Stp.refl _ _) m (sr.step st)⟩
theorem Xc:PSs X [] (rdS D W (zT [])):=by
 rintro pins s σ H E I ⟨φ,α,τ,μ,sr,mr,p⟩
 exact Qg pins s σ H E I (PostS.nx p (Stp.refl _ _) mr sr)
theorem VH{st:Stmt}{r:List Stmt}{fs:List Ds}(h1:PS X st (rdS D W u))(h2:PSs X r (rdS D W (zT fs))):PSs X (st::r) (rdS D W (zT (u::fs))):=by
 rintro pins s σ H E I ⟨φ,α,τ,μ,sr,mr,Q,q,h3,h4,h5,h6,h7⟩
 refine Vy h1 h2 pins s σ H E I ⟨φ,α,τ,μ,sr,mr,_,q,λτ1 μ1 e α' H' σ' st m sr'=>?_,h4,h5,h6,h7⟩
 exact⟨φ,α',τ1,μ1,sr',m,PostS.step ⟨Q,e,h3,h4,h5,h6,h7⟩ st⟩
noncomputable def jM (X:Cx)(D:DP)(W:XW):List Stmt->List Ds->Prop
 |[],[]=>True
 |e::es,f::fs=>PS X e (rdS D W f)/\jM X D W es fs
 |_,_=>False
theorem qg:∀{sts:List Stmt} {fs:List Ds},jM X D W sts fs->PSs X sts (rdS D W (zT fs))
 |[],[],_=>Xc
 |st::r,f::fs,h=>VH h.1 (qg h.2)
 |[],_::_,h=>h.elim
 |_::_,[],h=>h.elim
theorem z0_{ft:Dt}{as bs:List Stmt}{us vs:List Ds}(hc:PT X c (rdT D W ft))(ha:jM X D W as us)(hb:jM X D W bs vs):PS X (.If c as bs pos) (rdS D W (sIf ft us vs)):=by
 rintro pins s σ H E I ⟨φ,α,τ,μ,sr,mr,p⟩
 refine z0B hc (qg ha) (qg hb) pins s σ H E I ⟨φ,α,τ,μ,sr,mr,(PostS.out sr p).mono λb μ' α' H' st m q=>?_⟩
 rcases PostS.br q with⟨rfl,q⟩|⟨rfl,q⟩
 ·exact⟨φ,α',τ,μ',sr.step st,m,q⟩
 ·exact⟨φ,α',τ,μ',sr.step st,m,q⟩
noncomputable def nFz (Γ:Cn)(tg:Expr):Bool:=(z4 tg).all λx=>!Γ.fz.contains x
theorem yi{tg:Expr}(h:nFz Γ tg=true)(m:∀x∈z4 tg,x∈Γ.N):∀x∈z4 tg,x∈Γ.sto:=λx hx=>List.mem_filter.mpr ⟨m x hx,List.all_eq_true.mp h x hx⟩
theorem Jh(C:Sk D W Γ X k){x:Str}{i:Nat}{p0:Pos}(hi:idx Γ.N x=some i)(hz:nFz Γ (.Name x p0)=true)(hs:swapsWith a (some (.Name x p0)) pos.line X.env=pure false)(ha:PE X a (rdE D W f)):PS X (.Assign [.Name x p0] a pos) (rdS D W (zo i f)):=by
 rintro pins s σ H E I ⟨φ,α,τ,μ,sr,mr,p⟩
 have hx:=yi hz (λy hy=>by rw[List.mem_singleton.mp hy];exact qf hi) x (List.mem_singleton.mpr rfl)
 refine YW (i:=i) (X:=X) (by rw[C.hN];exact C.nd) (by rw[C.hN];exact qx hi) (C.sto x hx).1 ha hs (C.sto x hx).2 pins s σ H E I ⟨φ,α,τ,μ,sr,mr,(PostS.out sr p).mono λt μ' α' H' st m q v d=>?_⟩
 exact PostS.nx q (Stp.refl _ _) m ((sr.step st).set d)
theorem ur{N:List Str}:∀{es:List Expr} {is:List Nat},idxs N es=some is->∀e∈es,∀x p,e=.Name x p->x∈N
 |[],_,_,e,he,_,_,_=>absurd he (by simp)
 |e0::es,is,h,e,he,x,p,hx=>by
  cases e0 with
  |Name y p0=>
   simp only[idxs] at h
   split at h
   ·rename_i i is' hi his
    rcases List.mem_cons.mp he with rfl|he
    ·cases hx;exact qf hi
    ·exact ur his e he x p hx
   ·cases h
  |_=>simp[idxs] at h
theorem WT{N:List Str}{e:Expr}{tgt:Tg}(h:qt N e=some tgt):∀x∈z4 e,x∈N:=by
 intro x hx
 cases e with
 |Name y p=>
  simp[z4] at hx
  subst hx
  simp only[qt] at h
  cases q:idx N x with
  |none=>rw[q] at h;cases h
  |some i=>exact qf q
 |Tuple es kk p=>
  obtain⟨e,he,q⟩:=List.mem_filterMap.mp hx
  simp only[qt] at h
  cases q2:idxs N es with
  |none=>rw[q2] at h;cases h
  |some is=>
   cases e with
   |Name y p0=>
    have q:some y=some x:=q
    cases q
    exact ur q2 _ he x p0 rfl
   |_=>cases q
 |_=>simp[z4] at hx
theorem Y2(C:Sk D W Γ X k)(hc:X.calm=true){tg:Expr}{tgt:Tg}(ht:qt Γ.N tg=some tgt)(hz:nFz Γ tg=true):PG X tg (λv σ H Q=>∃φ α τ t τ',SRel D φ α H τ σ/\Den D φ α H t v/\asg tgt t τ=some τ'/\∀σ',SRel D φ α H τ' σ'->Q σ' H):=by
 rintro pins s σ H v u Q I r ⟨φ,α,τ,t,τ',sr,d,ha,q⟩
 refine thn (ZC (S:=Γ.sto) C.hN C.nd C.sto hc (yi hz (WT ht)) ht ha I sr d r) ?_
 rintro _ s1 ⟨σ',I1,sr'⟩
 exact⟨σ',H,I1,q σ' sr'⟩
noncomputable def vz:Expr->Bool
 |.Call _ _ _ _=>true
 |.Name _ _=>true
 |.Subscript _ _ _=>true
 |.Attribute _ _ _=>true
 |_=>false
theorem Yc(C:Sk D W Γ X k)(hc:Γ.calm=true){es:List Expr}{is:List Nat}{kk:Nat}{p0:Pos}(hp:vz a=true)(hn:idxs Γ.N es=some is)(hz:nFz Γ (.Tuple es kk p0)=true)(ha:PE X a (rdE D W f)):PS X (.Assign [.Tuple es kk p0] a pos) (rdS D W (UX is f)):=by
 rintro pins s σ H E I ⟨φ,α,τ,μ,sr,mr,p⟩
 have h1:swapsWithSole [.Tuple es kk p0] a pos.line X.env=pure false:=by cases a<;>first|(simp[vz] at hp;done)|rfl
 have h2:swappedStores [.Tuple es kk p0] a X.env=pure none:=by cases a<;>first|(simp[vz] at hp;done)|rfl
 refine ZO ha (Y2 C (C.clm hc) (tg:=.Tuple es kk p0) (tgt:=.tup is) (by simp[qt,hn]) hz) h1 h2 rfl pins s σ H E I ⟨φ,α,τ,μ,sr,mr,(PostS.out sr p).mono λt μ' α' H' st m q v d=>?_⟩
 obtain⟨τ',h,q⟩:=PostS.som q
 exact⟨φ,α',τ,t,τ',sr.step st,d,h,λσ' sr'=>PostS.nx q (Stp.refl _ _) m sr'⟩
theorem YV(C:Sk D W Γ X k){o:Expr}{x:Str}{n:Nat}{p1:Pos}{go:De}(hn:(x,n)∈Γ.fld)(ha:PE X a (rdE D W f))(ho:PE X o (rdE D W go)) :
  PS X (.Assign [.Attribute o x p1] a pos) (rdS D W (wZ go n f)):=by
 rintro pins s σ H E I ⟨φ,α,τ,μ,sr,mr,p⟩
 have hs:swapsWith a (some (.Attribute o x p1)) pos.line X.env=pure false:=by cases a<;>rfl
 refine z0l ho ha hs pins s σ H E I ⟨φ,α,τ,μ,sr,mr,(PostS.out sr p).mono λt μ1 α1 H1 st1 m1 q v d=>?_⟩
 have sr1:=sr.step st1
 refine⟨φ,α1,τ,μ1,sr1,m1,(PostS.out sr1 q).mono λot μ2 α2 H2 st2 m2 q2 ov dv=>?_⟩
 split at q2
 case h_2=>exact PostS.elim q2
 rename_i i
 obtain⟨c,fs,hμ,hl,q2⟩:=PostS.ex2 q2
 obtain⟨y,hx,rfl⟩:=dv
 obtain⟨C0,dx,gs,ad,hH,df⟩:=m2.ob i y _ hx hμ
 obtain⟨fx,cl,na⟩:=C.fld c C0 x n ad hn
 refine⟨y,C0,dx,gs,rfl,hH,cl,na,by rw[←df.length];omega,?_⟩
 have st3:Stp α2 H2 α2 (upd H2 y (.ins C0 dx (qN x v gs))):=Stp.turn (List.mem_of_getElem? hx) ⟨_,hH⟩
 have hi:i<μ2.length:=(List.getElem?_eq_some_iff.mp hμ).1
 exact PostS.nx q2 st3 (m2.turn hx hi st3 ⟨C0,dx,_,ad,z6,DenF.put fx (df.step st3) ((d.step st2).step st3)⟩) ((sr1.step st2).step st3)
theorem set_list:UQ X (λo i v H Q=>∃l k xs,o=.ref l/\i=.int k/\H l=some (.lst xs)/\0<=k/\k<xs.length/\k<9223372036854775808/\Q (upd H l (.lst (xs.set k.toNat v)))):=by
 intro pins s σ H o i v ov iv u Q I ro ri rv h
 obtain⟨l,k,xs,rfl,rfl,hH,h0,h1,h2,q⟩:=h
 cases ro
 obtain⟨t,rfl⟩:=ri
 obtain⟨z,its,n,r,hl,e⟩:=I.lstM hH
 refine PySem.W.ki_setAt (n:=n) (items:=its.toArray) e h0 (by simpa using h2) (by rw[List.size_toArray,←hl];exact h1) ?_
 exact⟨_,I.lset (t':=s.toks) (ys:=xs.set k.toNat v) (its':=its.set k.toNat u) (f:=λa=>a.setIfInBounds k.toNat u) hH e (by simp) (Vals.set rv _ r) (by rw[List.length_set];exact z),q⟩
theorem U5(C:Sk D W Γ X k){o:Expr}{p1:Pos}{fo fb:De}(hb':zS b=true)(ha:PE X a (rdE D W f))(ho:PE X o (rdE D W fo))(hb:PE X b (rdE D W fb)) :
  PS X (.Assign [.Subscript o b p1] a pos) (rdS D W (z15 fo fb f)):=by
 rintro pins s σ H E I ⟨φ,α,τ,μ,sr,mr,p⟩
 have h1:swapsWithSole [.Subscript o b p1] a pos.line X.env=pure false:=by cases a<;>rfl
 have h2:swappedStores [.Subscript o b p1] a X.env=pure none:=by cases a<;>rfl
 refine ZO ha (Wq ho hb set_list (λv=>by cases b<;>first|(simp[zS] at hb';done)|rfl)) h1 h2 rfl pins s σ H E I ⟨φ,α,τ,μ,sr,mr,(PostS.out sr p).mono λt μ1 α1 H1 st1 m1 q v d=>?_⟩
 have sr1:=sr.step st1
 refine⟨φ,α1,τ,μ1,sr1,m1,(PostS.out sr1 q).mono λot μ2 α2 H2 st2 m2 q2 ov dv=>?_⟩
 have sr2:=sr1.step st2
 refine⟨φ,α2,τ,μ2,sr2,m2,(PostS.out sr2 q2).mono λit μ3 α3 H3 st3 m3 q3 iv di=>?_⟩
 have d3:=(d.step st2).step st3
 split at q3
 case h_2=>exact PostS.elim q3
 rename_i i kk
 have dv:=dv.step st3
 obtain⟨ts,hμ,hk,q3⟩:=PostS.ex1 q3
 obtain⟨x,hx,rfl⟩:=dv
 have di:iv=.int kk:=di
 subst di
 obtain⟨xs,hH,l⟩:=m3.ob i x _ hx hμ
 have st4:Stp α3 H3 α3 (upd H3 x (.lst (xs.set kk.toNat v))):=Stp.turn (List.mem_of_getElem? hx) ⟨_,hH⟩
 have hi:i<μ3.length:=(List.getElem?_eq_some_iff.mp hμ).1
 exact⟨x,kk,xs,rfl,rfl,hH,hk.1,by rw[←l.length];exact hk.2.1,hk.2.2,PostS.nx q3 st4 (m3.turn hx hi st4 ⟨_,z6,DenL.set (l.step st4) (d3.step st4)⟩) ((sr2.step st3).step st4)⟩
theorem US(C:Sk D W Γ X k)(hc:Γ.calm=true){tg iter:Expr}{tgt:Tg}(ht:qt Γ.N tg=some tgt)(hz:nFz Γ tg=true){fi:Di}{body:List Stmt}{vs:List Ds}(hi:PI X tg iter (rdI D W fi))(hb:jM X D W body vs)(hs:∀x,foldedSetIterable iter X.env x=pure x) :
  PS X (.For tg iter body [] pos) (rdS D W (yl tgt fi vs)):=by
 rintro pins s σ H E I ⟨φ,α,τ,μ,sr,mr,p⟩
 refine YD C.pso (C.clm hc) hi (Y2 C (C.clm hc) ht hz) (qg hb) hs pins s σ H E I ⟨φ,α,τ,μ,sr,mr,(PostS.out sr (show PostS D W φ α H E ((fi τ μ).re.out τ λpr μ1=>forM tgt (zT vs) pr.2 pr.1 τ μ1) from p)).mono λpr μ1 α1 H1 st1 m1 q J Ok iv okk lv1=>?_⟩
 obtain⟨xs,o⟩:=pr
 obtain⟨Q,q,h1,h2,h3,h4,h5⟩:=q
 refine⟨λi m σ' H'=>m=xs.length-i/\i<=xs.length/\∃α' τ' μ',Stp α1 H1 α' H'/\MRel D φ α' H' μ'/\SRel D φ α' H' τ' σ'/\o μ'/\forM tgt (zT vs) o (xs.drop i) τ' μ' Q,⟨xs.length,by simp,Nat.zero_le _,α1,τ,μ1,Stp.refl _ _,m1,sr.step st1,lv1,by simpa using q⟩,?_⟩
 rintro i m σ' H' ⟨rfl,hi',α',τ',μ',stp,mr',sr',lv',pf⟩
 have okH:Ok φ α' H':=okk _ α' H' μ' stp.lk mr' lv'
 by_cases hlt:i<xs.length
 ·refine .inr ⟨iv.go i _ _ H' okH hlt,λσ2 H2=>∃α2 τ2 μ2,Stp α1 H1 α2 H2/\MRel D φ α2 H2 μ2/\SRel D φ α2 H2 τ2 σ2/\o μ2/\forM tgt (zT vs) o (xs.drop (i+1)) τ2 μ2 Q,λσ2 H2 h2=>⟨xs.length-(i+1),by omega,rfl,hlt,h2⟩,λx H2 y=>?_⟩
  obtain⟨sm,dx⟩:=iv.yld i _ _ H' x H2 xs[i] okH (by simp[hlt]) y
  have stp:=stp.trans (Stp.new (α:=α') sm)
  have sr':=sr'.step (Stp.new (α:=α') sm)
  have mr':=mr'.new sm
  rw[List.drop_eq_getElem_cons hlt] at pf
  obtain⟨τ3,ha,pf⟩:=pf
  refine⟨φ,α',τ',xs[i],τ3,sr',dx,ha,λσ3 sr3=>⟨φ,α',τ3,μ',sr3,mr',_,pf,?_,?_,?_,?_,?_⟩⟩
  ·exact λτ4 μ4 e α4 H4 σ4 st4 m4 sr4=>⟨α4,τ4,μ4,stp.trans st4,m4,sr4,e⟩
  ·exact λτ4 μ4 e α4 H4 σ4 st4 m4 sr4=>h1 τ4 μ4 e α4 H4 σ4 (stp.trans st4) m4 sr4
  ·exact λτ4 μ4 e α4 H4 σ4 st4 m4 sr4=>⟨α4,τ4,μ4,stp.trans st4,m4,sr4,e⟩
  ·exact λt μ4 e α4 H4 v st4 m4 d4=>h4 t μ4 e α4 H4 v (stp.trans st4) m4 d4
  ·exact λc fs τ4 μ4 e α4 H4 σ4 Cc d st4 m4 sr4=>h5 c fs τ4 μ4 e α4 H4 σ4 Cc d (stp.trans st4) m4 sr4
 ·have hie:i=xs.length:=by omega
  rw[hie,List.drop_length] at pf
  exact .inl ⟨by rw[hie];exact iv.stop _ _ H' okH,h1 τ' μ' pf α' H' σ' stp mr' sr'⟩
theorem JE(C:Sk D W Γ X k){ft:Dt}{body:List Stmt}{vs:List Ds}(hc:PT X c (rdT D W ft))(hb:jM X D W body vs):PS X (.While c body [] pos) (rdS D W (ko ft vs)):=by
 rintro pins s σ H E I ⟨φ,α,τ,μ,sr,mr,Q,⟨J,⟨N,hN⟩,hJ⟩,h1,h2,h3,h4,h5⟩
 refine Vd C.pso hc (qg hb) pins s σ H E I ?_
 refine⟨λm σ' H'=>∃α' τ' μ',Stp α H α' H'/\MRel D φ α' H' μ'/\SRel D φ α' H' τ' σ'/\J m τ' μ',⟨N,α,τ,μ,Stp.refl _ _,mr,sr,hN⟩,?_⟩
 rintro m σ' H' ⟨α',τ',μ',stp,mr',sr',pf⟩
 refine⟨φ,α',τ',μ',sr',mr',_,_,hJ m τ' μ' pf,λb μ1 e α2 H2 st2 m2=>?_,λc fs μ1 e α2 H2 Cc d st2 m2 ad xd=>h5 c fs τ' μ1 e α2 H2 σ' Cc d (stp.trans st2) m2 (sr'.step st2) ad xd⟩
 cases b with
 |false=>exact h1 τ' μ1 e α2 H2 σ' (stp.trans st2) m2 (sr'.step st2)
 |true=>
  rw[if_pos rfl]
  have t2:=stp.trans st2
  refine⟨λσ4 H4=>∃j,j<m/\∃α4 τ4 μ4,Stp α H α4 H4/\MRel D φ α4 H4 μ4/\SRel D φ α4 H4 τ4 σ4/\J j τ4 μ4,λσ4 H4 h4=>h4,φ,α2,τ',μ1,sr'.step st2,m2,_,e,?_,?_,?_,?_,?_⟩
  ·exact λτ4 μ4 ⟨j,hj,q⟩ α4 H4 σ4 st4 m4 sr4=>⟨j,hj,α4,τ4,μ4,t2.trans st4,m4,sr4,q⟩
  ·exact λτ4 μ4 e α4 H4 σ4 st4 m4 sr4=>h1 τ4 μ4 e α4 H4 σ4 (t2.trans st4) m4 sr4
  ·exact λτ4 μ4 ⟨j,hj,q⟩ α4 H4 σ4 st4 m4 sr4=>⟨j,hj,α4,τ4,μ4,t2.trans st4,m4,sr4,q⟩
  ·exact λt μ4 e α4 H4 v st4 m4 d4=>h4 t μ4 e α4 H4 v (t2.trans st4) m4 d4
  ·exact λc fs τ4 μ4 e α4 H4 σ4 Cc d st4 m4 sr4=>h5 c fs τ4 μ4 e α4 H4 σ4 Cc d (t2.trans st4) m4 sr4
theorem Kx(C:Sk D W Γ X k)(hc:Γ.calm=true){tg iter elt:Expr}{sc:Scope}{fi:Di}{fs:List Nat}{tgt:Tg}{ifs:List Expr}{cs:List Dt}{fe:De}{x:Str}{ix:Nat}{p0 p1:Pos}(hix:idx Γ.N x=some ix)(hz:nFz Γ (.Name x p0)=true)(ok:CompOk Γ.N Γ.cel tg sc)(hfs:jx Γ.N (frees sc)=some fs)(htg:qt (z4 tg++frees sc) tg=some tgt)(hi:PI X tg iter (rdI D W fi))(hel:∀X' W',Ck D W' (inComp Γ tg sc) X' k->PE X' elt (rdE D W' fe))(hts:∀X' W',Ck D W' (inComp Γ tg sc) X' k->uW X' D W' ifs cs)(hs:∀x,foldedSetIterable iter X.env x=pure x)
  (own:Bool) (hsw:swapsWith (.ListComp elt [⟨tg,iter,ifs,0⟩] sc p1) (some (.Name x p0)) pos.line X.env=pure true) :
  PS X (.Assign [.Name x p0] (.ListComp elt [⟨tg,iter,ifs,0⟩] sc p1) pos) (rdS D W (zo ix (match own with|true=>v_ (z4 tg).length fs tgt fi cs fe|false=>qw (z4 tg).length fs tgt fi cs fe))):=by
 rintro pins s σ H E I ⟨φ,α,τ,μ,sr,mr,p⟩
 rw[exec_Assign_Name_used _ _ _ _ hsw]
 refine wpAny_bind (wpAny_standAt (wpAny_bind ?_))
 show wpAny _ _ (do let _ ←comprehension (.ListComp elt [⟨tg,iter,ifs,0⟩] sc p1) sc X.env _ (newList []) false (eval iter X.env) (some (assign (.Name x p0) X.env))) _ _ s
 refine wpAny_bind (thn (vZ (kk:=λys μ=>match own with|true=>RE.ok (T.mut μ.length) (μ++[MO.lst ys])|false=>RE.ok (T.lst ys) μ) (use:=some (assign (.Name x p0) X.env)) (Qf:=λ_ s'=>∃σ' H',Inv X pins σ' H' s'/\E.nx σ' H') C.toCk hc ok hfs htg hi hel hts hs I sr mr (PostS.out sr (by cases own<;>exact p)) ?_) λ_ s' hq=>wpAny_pure (wpAny_pure hq))
 rintro acc C0 s' α1 H1 H' α' ys vs μ' I' st1 st hn nph nal sr' m ha dl post xo hp ⟨mm,hm⟩
 have hx:=qf hix
 obtain⟨oc,es,ep,hoc,hdc,hrest⟩:=hm
 have I2:Inv X (pins++[(C0,oc)]) σ H' s':=I'.pins_of λp hp'=>(List.mem_append.mp hp').elim (λz=>I'.pin p (List.mem_append_right _ z)) λz=>by
  rw[List.mem_singleton.mp z]
  exact⟨hoc,xo.free,xo.loc,xo.nfs,λv e=>by rw[hdc] at e;cases e⟩
 have fin:∀{α'':List Addr} {t:T} {μ2:Mem},SRel D φ α'' H' τ σ->Den D φ α'' H' t (.ref acc)->(∀σ',SRel D φ α'' H' (w_ τ ix (some t)) σ'->E.nx σ' H')->wpAny (model X.prog X.w) X.A (assign (.Name x p0) X.env (.ref acc)) (λ_ t2=>∃m,t2.heap.Ns C0 m/\∀g,Heap.SameBut C0 t2.heap g->∃σ' H',Inv X pins σ' H' {t2 with heap:=g}/\E.nx σ' H') X.xe s':=λ{α'' t μ2} sr2 d q=>by
  refine thn (ZC (e:=.Name x p0) (S:=Γ.sto) (tgt:=.one ix) (t:=t) (τ:=τ) C.hN C.nd C.sto (C.clm hc) (yi hz λy hy=>by rw[List.mem_singleton.mp hy];exact hx) (by simp[qt,hix]) rfl I2 sr2 d (show RelV (.ref acc) (.ref acc) from rfl)) ?_
  rintro _ s2 ⟨σ',I3,sr3⟩
  have hpin:=(I3.pin (C0,oc) (List.mem_append_right _ (List.mem_append_right _ (List.mem_singleton.mpr rfl)))).1
  refine⟨mm,⟨oc,es,ep,hpin,hdc,hrest⟩,λg sb=>⟨σ',H',?_,q σ' sr3⟩⟩
  exact jD (I3.pins_of λp hp'=>I3.pin p (List.mem_append_right _ (List.mem_append_left _ hp'))) xo hp sb
 cases own with
 |false=>
  obtain⟨m2,d,post⟩:=uM (kk:=λt μ=>RE.ok t μ) st hn nph m ha dl post
  exact fin (μ2:=μ') (sr'.lk qO) d λσ' sr3=>PostS.nx (post.ok (Stp.refl _ _) m2) (Stp.refl _ _) m2 sr3
 |true=>
  obtain⟨st2,m2,d⟩:=xM st hn nph m ha dl
  exact fin (μ2:=μ') (sr'.lk va) d λσ' sr3=>PostS.nx (post.ok st2 m2) (Stp.refl _ _) m2 sr3
end
noncomputable def z0G(C:Addr)(h:Heap):Prop:=∃tl N nm q bs hd sn sub ab col dd k0 k1 k2 k3 k5 mN,h.get? C=some (excClassObj nm q C N bs tl hd sn sub ab col dd k0 k1 k2 k3 k5 "ValueError.__new__")/\h.Ns N mN/\mN "__init__"=none/\OwnTail h qm tl
theorem WU {K:PySem.W.Frag} {h:Heap} {C:Addr} (kin:K.In h) (e:PySem.W.excIn K C qm "ValueError.__new__"=true):z0G C h:=by
 simp only[PySem.W.excIn] at e
 revert e
 cases hk:K.lookup C with
 |none=>intro e;cases e
 |some o=>
  intro e
  split at e
  case h_2=>cases e
  rename_i dd cd sl ho
  cases ho
  split at e
  case h_2=>cases e
  rename_i C' tl k0 k1 k2 k3 n k5 hm hs
  simp only[Bool.and_eq_true,beq_iff_eq,Bool.not_eq_true'] at e
  obtain⟨⟨⟨⟨⟨e1,e2⟩,e3⟩,e4⟩,e5⟩,e6⟩:=e
  cases cd
  rename_i nm bs mro ns qn hd sn sub ab col del
  simp only at hm e3 e5 e6
  cases e1;cases e2;cases hm;cases e3
  have hsl:sl=#[k0,k1,k2,k3,some (.builtin "ValueError.__new__"),k5]:=by
   cases sl;simp only at hs;rw[hs]
  cases hsl
  exact⟨tl,ns,nm,qn,bs,hd,sn,sub,ab,col,dd,k0,k1,k2,k3,k5,h.nsMap ns,kin _ _ hk,.of_isNs (PySem.W.isNs_of_in kin e5),PySem.W.nsMap_none_of_in kin e5 e6,PySem.W.tail_of_in kin e4⟩
section
variable {X:Cx}{pins:List (Addr×Obj)}{s:Shared}{σ:St}{H:Hp}
theorem Wc{i:Nat}{x:Str}{m:Str->Option Value}{h':Heap}{u:Option Value}{tk:Nat}(I:Inv X pins σ H s)(hN:X.N.Nodup)(hi:X.N[i]?=some x)
  (hm:∀(i:Nat) (x:Str) (v:V),X.N[i]?=some x->σ[i]?=some (some v)->Vis X.env.scope x->∃u,RelV v u/\Look X.env s.heap m x u)
  (hn:h'.Ns X.env.locals λy=>if y=x then u else m y) (hs:Heap.SameBut X.env.locals s.heap h'):Inv X pins (σ.set i none) H {s with heap:=h',toks:=tk}:=by
 have cne:=I.cne
 have low:∀b o,X.s₀.heap.get? b=some o->b≠X.env.locals:=λb o e=>Nat.ne_of_lt (Nat.lt_of_lt_of_le (Heap.lt_size e) I.ok.above)
 refine⟨I.ok,I.os,I.bare,⟨λb o e n hb hx=>?_,λb o e n hb hx=>?_,I.base.free,λb o e hx=>?_,I.base.tups,I.base.frzs,I.base.tbls⟩,⟨_,hn,λj y v e1 e2 e3=>?_⟩,λy c e=>?_,I.free,I.freeC,λp hp=>?_,λb ob e=>?_,by simpa using I.len⟩
 ·exact (hs.2 b (low b o e)).trans (I.base.keep b o e n hb hx)
 ·obtain⟨sl,e1⟩:=I.base.slot b o e n hb hx
  exact⟨sl,(hs.2 b (low b o e)).trans e1⟩
 ·obtain⟨o',e1⟩:=I.base.there b o e hx
  exact⟨o',(hs.2 b (low b o e)).trans e1⟩
 ·by_cases hj:j=i
  ·subst hj
   rw[List.getElem?_set_self'] at e2
   cases q:σ[j]? with
   |none=>rw[q] at e2;cases e2
   |some w=>rw[q] at e2;cases e2
  ·rw[List.getElem?_set_ne (Ne.symm hj)] at e2
   obtain⟨w,r,q⟩:=hm j y v e1 e2 e3
   refine⟨w,r,?_⟩
   rcases q with⟨k,e⟩|⟨k,c,e,z⟩
   ·have:y≠x:=λz=>hj (vp hN e1 (by rw[z];exact hi))
    exact .inl ⟨k,by simp[this,e]⟩
   ·exact .inr ⟨k,c,e,z.sameBut hs (cne y c e)⟩
 ·obtain⟨w,z⟩:=I.cell y c e
  exact⟨w,z.sameBut hs (cne y c e)⟩
 ·obtain⟨e,n,ne,nf,d⟩:=I.pin p hp
  exact⟨(hs.2 p.1 ne).trans e,n,ne,nf,d⟩
 ·refine (I.hok b ob e).stay (λc w hc q=>(hs.2 c ?_).trans q) (λ_ q=>q) λ_ _ q=>q
  rintro rfl
  rcases hc with rfl|hc
  ·rw[I.free] at e;cases e
  ·rw[I.free] at hc;cases hc
theorem Wf{x C:Addr}{d:Option Addr}(I:Inv X pins σ H s)(ox:XOk X H x)(hp:∀p∈pins,p.1≠x)(hx:XcAt x C d s.heap):Inv X pins σ (upd H x (.ext (XcAt x C d))) s:=by
 have ne:∀b,H b≠none->b≠x:=λb h z=>h (by rw[z];exact ox.free)
 refine⟨I.ok,I.os,I.bare,⟨I.base.keep,I.base.slot,λb o e n hx'=>?_,I.base.there,λb xs e=>?_,λb o u e=>?_,λb ps e=>?_⟩,I.loc,I.cell,?_,λy c e=>?_,λp hp'=>?_,λb ob e=>?_,I.len⟩
 ·have:b≠x:=λz=>by
   rcases ox.new with q|q
   ·exact hx' (by rw[z];exact q)
   ·rw[←z,e] at q;cases q
  rw[z8 this];exact I.base.free b o e n hx'
 ·have q:=I.base.tups b xs e
  rw[z8 (ne b (by rw[q];simp))];exact q
 ·have q:=I.base.frzs b o u e
  rw[z8 (ne b (by rw[q];simp))];exact q
 ·obtain⟨more,q⟩:=I.base.tbls b ps e
  exact⟨more,by rw[z8 (ne b (by rw[q];simp))];exact q⟩
 ·rw[z8 (Ne.symm ox.loc)];exact I.free
 ·rw[z8 (ox.cel y c e)];exact I.freeC y c e
 ·obtain⟨e,n,r⟩:=I.pin p hp'
  have:p.1≠x:=(List.mem_append.mp hp').elim (ox.pin p) (hp p)
  exact⟨e,by rw[z8 this];exact n,r⟩
 ·by_cases z:b=x
  ·subst z
   rw[z6] at e
   cases e
   obtain⟨oe,vs,h1,h2⟩:=id hx
   refine⟨hx,⟨oe,h1⟩,λg1 g2 p k=>?_⟩
   obtain⟨oe',vs',h1',h2'⟩:=p
   exact⟨oe',vs',k _ h1',h2'⟩
  ·rw[z8 z] at e
   have sm:∀c o,H c=some o->upd H x (.ext (XcAt x C d)) c=some o:=λc o q=>by rw[z8 (ne c (by rw[q];simp))];exact q
   exact (I.hok b ob e).stay (λ_ _ _ q=>q) (λc q=>sm c _ q) λc xs q=>sm c _ q
end
section
variable {X:Cx}{D:DP}{W:XW}{Γ:Cn}{k:Nat}{pins:List (Addr×Obj)}{s:Shared}{σ:St}{H:Hp}{φ α:List Addr}{τ:Sl}{μ:Mem}{a b c e:Expr}{pos:Pos}{E:Ends}{es:List Expr}{fs:List De}
theorem V3(C:Sk D W Γ X k)(hc:Γ.calm=true){x:Str}{n:Nat}{p0 p1:Pos}(hx:x∈Γ.G)(hg:Γ.gl x=.xcl n)(ha:EsOk X D W (a::es) fs) :
  PS X (.Raise (some (.Call (.Name x p0) (a::es) [] p1)) none pos) (rdS D W (qp n fs)):=by
 rintro pins s σ H E I ⟨φ,α,τ,μ,sr,mr,p⟩
 have q:=C.glo x hx
 rw[hg] at q
 obtain⟨C0,ad,hm,hex⟩:=q
 have hs:=ha.stars
 obtain⟨tl,N,nm,qn,bs,hd,sn,sub,ab,col,dd,k0,k1,k2,k3,k5,mN,o1,o2,o3,o4⟩:=WU I.ok.mod.kin hex
 have hb:tl.contains (.type "BaseException")=true:=o4.hasType PySem.F.excBase_ValueError.hasBase
 have hp:(backTo p1 (starEach (a::es) X.env)).any (·.1)=false:=zJ hs
 refine wpAny_Raise_call_subT (nm:=nm) (q:=qn) (C:=C0) (N:=N) (bs:=bs) (bm:=tl) (hdct:=hd) (sn:=sn) (sub:=sub) (ab:=ab) (col:=col) (dd:=dd) (k0:=k0) (k1:=k1) (k2:=k2) (k3:=k3) (k5:=k5) (mN:=mN) PySem.F.excBase_ValueError hb (I.ok.hd (C.clm hc)) hp o3 ?_
 refine wF I (C.glb x hx) hm ⟨rfl,?_⟩ (C.dbG x hx)
 have hs1:noStar a=true:=by simp only[List.all_cons,Bool.and_eq_true] at hs;exact hs.1
 have sA:=thn (qV ha p1 pins s σ H (λvs H1=>∃ts μ1 α1,Stp α H α1 H1/\SRel D φ α1 H1 τ σ/\MRel D φ α1 H1 μ1/\DenL D φ α1 H1 ts vs/\PostS D W φ α1 H1 E (.grd (ts.length<=room) (.ex n [] τ μ1))) I ⟨φ,α,τ,μ,sr,mr,(PostS.out sr p).mono λts μ' α' H' st m q vs d _=>⟨ts,μ',α',st,sr.step st,m,d,q⟩⟩) (Q':=λus s1=>us.length<=sizeLine/\s1.heap.get? C0=some (excClassObj nm qn C0 N bs tl hd sn sub ab col dd k0 k1 k2 k3 k5 "ValueError.__new__")/\s1.heap.Ns N mN/\OwnTail s1.heap qm tl/\∀h' e,Heap.MadeExcOf s1.heap h' e (.ref C0) us->X.xe (.ref e) {s1 with heap:=h'}) ?_
 ·rw[z5 hs1] at sA ⊢
  exact Calls.evalArgs_plain (thn sA λus s1 h1=>⟨rfl,h1⟩)
 ·rintro us s1 ⟨vs,H1,I1,r,ts,μ1,α1,st,sr1,m1,dl,q⟩
  obtain⟨hl,q⟩:=PostS.grd q
  refine⟨?_,I1.bk _ _ o1,o2.keeps I1.bk,o4.keeps I1.bk,λh' e mk=>?_⟩
  ·have e1:=dl.length
   have e2:=r.length
   have:=zk hl
   rw[←e2,←e1]
   exact this
  ·exact C.xe _ _ (Kk I1 mk (PostS.ex q (Stp.refl _ _) m1 sr1 ad rfl))
theorem XTr.at{h:Heap}{x T C:Addr}{d:Option Addr}{fl:Value}(t:XTr h x T (.ref C) d fl):XcAt x C d h:=by
 obtain⟨oe,vs,a0,oT,ts,h1,⟨h2,h3⟩,h4,_⟩:=t
 exact⟨oe,vs,h1,h2,h4,h3⟩
theorem XcAt.ty{M:Model}{h:Heap}{x C:Addr}{d:Option Addr}(t:XcAt x C d h):PySem.W.Looks M h (typeOf (.ref x)) (.ref C):=by
 obtain⟨oe,vs,h1,h2,h3,h4⟩:=t
 exact h2▸(PySem.W.Looks.ld h1).andThen .now
noncomputable def HcOk (Γ:Cn)(x:Str)(c:Nat):Prop:=x∈Γ.G/\(x,c)∈Γ.cls/\((∃f,Γ.gl x=.xcf c f)\/Γ.gl x=.xcl c)/\c<40
noncomputable def z1Y (Γ:Cn):Option Str->Option Nat->Prop
 |none,none=>True
 |some e,some j=>idx Γ.N e=some j/\Γ.cel.contains e=false
 |_,_=>False
noncomputable def jy (D:DP)(Γ:Cn)(k:Nat):List ExceptHandler->List (List Nat×Option Nat×List Ds)->Prop
 |[],[]=>True
 |h::hs,g::r=>(∃x p nm b0 suite pp c i vs,h=.ExceptHandler (some (.Name x p)) nm (b0::suite) pp/\g=([c],i,vs)/\HcOk Γ x c/\z1Y Γ nm i/\∀X',Sk D noW {Γ with calm:=false} X' k->jM X' D noW (b0::suite) vs)/\jy D Γ k hs r
 |_,_=>False
theorem HcOk.mg(C:Sk D W Γ X k){x:Str}{c:Nat}(h:HcOk Γ x c):∃Cc,X.mg x=some (.ref Cc):=by
 have q:=C.glo x h.1
 rcases h.2.2.1 with⟨f,g⟩|g
 ·rw[g] at q
  obtain⟨Cc,_,hm⟩:=q
  exact⟨Cc,hm⟩
 ·rw[g] at q
  obtain⟨Cc,_,hm,_⟩:=q
  exact⟨Cc,hm⟩
theorem Vt(C:Sk D W Γ X k){x Tt Ck:Addr}{d:Option Addr}{kk:Nat}{xfs:List (Nat×T)}(ad:D.adr kk=some Ck):∀{hs:List ExceptHandler} {r:List (List Nat×Option Nat×List Ds)} {s1:Shared} {σ1:St} {H1:Hp} {α1:List Addr} {τ1:Sl} {μ1:Mem},jy D Γ k hs r->Inv (Cx.pin' X pins) [] σ1 H1 s1->XOk (Cx.pin' X pins) H1 x->XOk (Cx.pin' X pins) H1 Tt->XTr s1.heap x Tt (.ref Ck) d .none->
  XDict D φ α1 H1 xfs d->MRel D φ α1 H1 μ1->SRel D φ α1 H1 τ1 σ1->PostS D W φ α1 H1 E (JO r kk xfs τ1 μ1)->wpAny (model X.prog X.w) X.A (handleBy (.ref x) X.env hs) (SP X pins E) X.xe s1
 |[],[],s1,σ1,H1,α1,τ1,μ1,_,I1,ox,oT,tr,xd,m1,sr1,p=>by
  obtain⟨e0,out,L,F⟩:=C.frm
  refine wpAny_handleBy_nil ?_
  unfold PySem.passOn
  obtain⟨oe,vs',a0,oT',ts,ho,hcc,hd,hv0,hv1,hT,hoT,hdT,h3⟩:=id tr
  refine wpAny_bind (wpAny_field ho hd hv1 ?_)
  rw[if_neg (show ¬((Value.ref Tt == Value.none)=true) from by simp)]
  have go:∀{t2:Shared},XP X W (.ref x) t2->wpAny (model X.prog X.w) X.A (throw (Value.ref x):Sem Flow) (SP X pins E) X.xe t2:=λ{t2} xp=>wpAny_throw (C.xe _ _ xp)
  have un:∀b,XOk (Cx.pin' X pins) H1 b->XOk X H1 b:=λb o=>⟨o.free,o.loc,o.nfs,o.new,o.cel,λp hp=>o.pin p (List.mem_append_left _ hp)⟩
  have fin:wpAny (model X.prog X.w) X.A (setFlight (.ref x) X.env.frame) (λ_ t2=>XP X W (.ref x) t2) X.xe s1:=by
   refine zW ((zw I1).pins_of λp hp=>absurd hp (by simp)) (un x ox) (un Tt oT) tr λh4 I4 tr4=>?_
   refine⟨x,.ref Ck,d,σ1,H1,some Tt,rawInt L,rfl,I4,un x ox,λt ht=>?_,?_,.inr ⟨L,F.fe,rfl⟩,PostS.ex p (Stp.refl _ _) m1 sr1 ad xd⟩
   ·have:t=Tt:=by simpa using ht
    rw[this];exact un Tt oT
   ·rw[F.fe] at tr4;exact tr4
  first
   |exact wpAny_bind (thn fin λ_ t2 xp=>go xp)
   |exact wpAny_bind (wpAny_pure (wpAny_bind (thn fin λ_ t2 xp=>go xp)))
 |[],_::_,_,_,_,_,_,_,h,_,_,_,_,_,_,_,_=>h.elim
 |_::_,[],_,_,_,_,_,_,h,_,_,_,_,_,_,_,_=>h.elim
 |hd::hs',g::r',s1,σ1,H1,α1,τ1,μ1,h,I1,ox,oT,tr,xd,m1,sr1,p=>by
   obtain⟨⟨x0,p0,nm,b0,suite',pp,c,i,vs,rfl,rfl,hcx,hnm,hsu⟩,hrest⟩:=h
   obtain⟨Cc,hmc⟩:=hcx.mg C
   have IX:Inv (Cx.han (Cx.pin' X pins) x) [] σ1 H1 s1:=ym I1
   have hexm:=C.xmt kk x0 c hcx.2.1 hcx.2.2.2 Ck Cc ad hmc
   refine wpAny_handleBy_cons (codeAny_handlers_test (wF (X:=Cx.han (Cx.pin' X pins) x) IX (C.glb x0 hcx.1) hmc ?_ (C.dbG x0 hcx.1))) (λq=>by cases q)
   refine (PySem.W.exm_one (M:=model X.prog X.w) IX.kIn (XcAt.ty (XTr.at tr)) hexm).at ?_
   have hio:isAny kk [c]=wj kk c:=by
    rw[ke];show bOr _ false=_
    cases wj kk c<;>rfl
   have p:PostS D W φ α1 H1 E (.br (wj kk c) (z0C i vs kk xfs τ1 μ1) (JO r' kk xfs τ1 μ1)):=by rw[←hio];exact p
   rcases PostS.br p with⟨hb,p⟩|⟨hb,p⟩
   ·rw[hb]
    obtain⟨Q,q,h1,h2,h3,h4,h5⟩:=p
    have C2:∀{X':Cx},X'=Cx.han (Cx.pin' X pins) x->Sk D noW {Γ with calm:=false} X' k:=λ{X'} hX'=>by
     subst hX'
     obtain⟨e0,out,L,F⟩:=C.frm
     exact {hK:=C.hK,hN:=C.hN,nd:=C.nd,vis:=C.vis,dbg:=C.dbg,dbG:=C.dbG,glb:=C.glb,glo:=C.glo,glU:=C.glU,cel:=C.cel,isi:=C.isi,fld:=C.fld,xcx:=C.xcx,ocx:=C.ocx,clv:=C.clv,clm:=(λz=>by cases z),rom:=(λz=>by cases z),rmh:=⟨C.rmh.dp,C.rmh.un⟩,xe:=(λe s p=>by obtain⟨_,_,_,_,_,_,_,_,_,_,_,_,_,z⟩:=p;exact z),frm:=⟨e0,out,L,F.stk,F.f0,F.fe⟩,lam:=C.lam,kfz:=C.kfz,sto:=C.sto,lcl:=C.lcl,pso:=PassesOwn.never,xmt:=C.xmt}
    have okX:X.Ok:=ug I1.ok
    cases nm with
    |none=>
     cases i with
     |some j=>exact False.elim hnm
     |none=>
      refine codeAny_handlers_suite (zW (X:=Cx.pin' X pins) I1 ox oT tr λh3' I3 tr3=>?_)
      have S:=qg (hsu _ (C2 rfl)) [] _ _ _ {nx:=E.nx,rt:=E.rt} (ym (x:=x) I3) ⟨φ,α1,τ1,μ1,sr1,m1,_,q,h1,(λ_ _ z=>z.elim),(λ_ _ z=>z.elim),h4,(λ_ _ _ _ z=>z.elim)⟩
      refine wpAny_mono S (λf s6 h6=>?_) (λ_ _ z=>z.elim)
      cases f with
      |next=>obtain⟨σ',H',I',q'⟩:=h6;exact⟨σ',H',zw (vN I1.ok I'),q'⟩
      |brk=>obtain⟨σ',H',I',q'⟩:=h6;exact q'.elim
      |cont=>obtain⟨σ',H',I',q'⟩:=h6;exact q'.elim
      |ret w=>obtain⟨y,σ',H',I',r,q'⟩:=h6;exact⟨y,σ',H',zw (vN I1.ok I'),r,q'⟩
    |some e=>
     cases i with
     |none=>exact False.elim hnm
     |some j=>
      obtain⟨hidx,hce⟩:=hnm
      refine codeAny_handlers_suite_as (zW (X:=Cx.pin' X pins) I1 ox oT tr λh3' I3 tr3=>?_)
      have I4:=Wf (C:=Ck) (d:=d) I3 ox (λp hp=>absurd hp (by simp)) (XTr.at tr3)
      have st2:Stp α1 H1 α1 (upd H1 x (.ext (XcAt x Ck d))):=Stp.new (zd ox.free)
      have hloc:X.env.scope.names.lookup e=some .local:=C.lcl e (qf hidx) hce
      have hNd:X.N.Nodup:=by rw[C.hN];exact C.nd
      have hNi:X.N[j]?=some e:=by rw[C.hN];exact qx hidx
      refine j_ (X:=Cx.han (Cx.pin' X pins) x) (i:=j) (v:=.ref x) (ym I4) hNd hNi (.inl hloc) rfl (λs5 I5=>?_) (.inr hloc)
      have xd5:=xd.lk (st2.lk (φ:=φ))
      have den:Den D φ α1 (upd H1 x (.ext (XcAt x Ck d))) (.exc kk xfs) (.ref x):=⟨x,Ck,d,rfl,zi m1 ox.free,zh m1 ox.free,ad,z6,by cases d<;>exact xd5⟩
      have sr5:=(sr1.step st2).set (i:=j) den
      have m5:=m1.new (zd (o:=HO.ext (XcAt x Ck d)) ox.free)
      have S:=qg (hsu _ (C2 rfl)) [] s5 _ _ {nx:=λσ' H'=>E.nx (σ'.set j none) H',rt:=E.rt} I5 ⟨φ,α1,_,μ1,sr5,m5,_,q,(λτ2 μ2 z α' H' σ' st m r=>h1 _ μ2 z α' H' _ (st2.trans st) m r.unset),(λ_ _ z=>z.elim),(λ_ _ z=>z.elim),(λt μ2 z α' H' v st m dd=>h4 t μ2 z α' H' v (st2.trans st) m dd),(λ_ _ _ _ z=>z.elim)⟩
      have hkf:(X.env.scope.kind == .class || (X.env.scope.kind == .module&&X.env.locals != X.env.globals))=false:=by rw[okX.kind];rfl
      refine wpAny_mono S (λf s6 h6=>?_) (λ_ _ z=>z.elim)
      have fin:∀{σ6 H6},Inv (Cx.han (Cx.pin' X pins) x) [] σ6 H6 s6->(∀s7,Inv X pins (σ6.set j none) H6 s7->SP X pins E f s7)->wpAny (model X.prog X.w) X.A (do bindName X.env e .none;unbindBehindTheSuite X.env e pp) (λ_ s7=>SP X pins E f s7) X.xe s6:=λ{σ6 H6} I6 q=>by
       have I7:Inv X pins σ6 H6 s6:=zw (vN (WK okX) I6)
       obtain⟨m,hn,hl⟩:=I7.loc
       refine wpAny_nameGoes_keeps hloc hn hkf λh7 u7 hn7 hs7=>?_
       exact q _ (Wc I7 hNd hNi hl hn7 hs7)
      cases f with
      |next=>obtain⟨σ',H',I',q'⟩:=h6;exact fin I' λs7 I7=>⟨_,H',I7,q'⟩
      |brk=>obtain⟨σ',H',I',q'⟩:=h6;exact q'.elim
      |cont=>obtain⟨σ',H',I',q'⟩:=h6;exact q'.elim
      |ret w=>obtain⟨y,σ',H',I',r,q'⟩:=h6;exact fin I' λs7 I7=>⟨y,_,H',I7,r,q'⟩
   ·rw[hb]
    exact Vt C ad hrest I1 ox oT tr xd m1 sr1 p
theorem UI(C:Sk D W Γ X k)(hc:Γ.calm=true){body:List Stmt}{us:List Ds}{h0:ExceptHandler}{hs:List ExceptHandler}{r:List (List Nat×Option Nat×List Ds)}(hb:∀X' W',Sk D W' Γ X' k->jM X' D W' body us)(hh:jy D Γ k (h0::hs) r) :
  PS X (.Try body (h0::hs) [] [] pos) (rdS D W (z0k us r)):=by
 rintro pins s σ H E I ⟨φ,α,τ,μ,sr,mr,Q,q,h1,h2,h3,h4,h5⟩
 obtain⟨e0,out,L,F⟩:=C.frm
 have F0:Frm (Cx.pin' X pins) e0 out L:=⟨F.stk,F.f0,F.fe⟩
 generalize hW:(λ(cls:Value) (d:Option Addr) (σ':St) (H':Hp)=>∃kk fs τ1 μ1 α1 Ck,JO r kk fs τ1 μ1 Q/\D.adr kk=some Ck/\cls=.ref Ck/\Stp α H α1 H'/\MRel D φ α1 H' μ1/\SRel D φ α1 H' τ1 σ'/\XDict D φ α1 H' fs d:XW)=W1
 have C1:Sk D W1 Γ ((Cx.pin' X pins).wish (XP (Cx.pin' X pins) W1)) k:={hK:=C.hK,hN:=C.hN,nd:=C.nd,vis:=C.vis,dbg:=C.dbg,dbG:=C.dbG,glb:=C.glb,glo:=C.glo,glU:=C.glU,cel:=C.cel,isi:=C.isi,fld:=C.fld,xcx:=C.xcx,ocx:=C.ocx,clv:=C.clv,clm:=C.clm,rom:=C.rom,rmh:=⟨C.rmh.dp,C.rmh.un⟩,xe:=λe s p=>j5 p,frm:=⟨e0,out,L,F.stk,F.f0,F.fe⟩,lam:=C.lam,kfz:=C.kfz,sto:=C.sto,lcl:=C.lcl,pso:=xO F0 I.ok.frames,xmt:=C.xmt}
 have B:=qg (hb _ W1 C1) [] s σ H E ((uR I).wish _) ⟨φ,α,τ,μ,sr,mr,_,q,h1,h2,h3,h4,λkk fs τ1 μ1 z α' H' σ' Ck d st m sr' ad xd=>by rw[←hW];exact⟨kk,fs,τ1,μ1,α',Ck,z,ad,rfl,st,m,sr',xd⟩⟩
 refine wpAny_Try_except (wpAny_mono B (λf s1 h1=>?_) (λe1 s1 hx=>?_))
 ·cases f with
  |next=>obtain⟨σ',H',I',q⟩:=h1;exact Qg pins s1 σ' H' E (zw I'.unwish) q
  |brk=>obtain⟨σ',H',I',q⟩:=h1;exact⟨σ',H',zw I'.unwish,q⟩
  |cont=>obtain⟨σ',H',I',q⟩:=h1;exact⟨σ',H',zw I'.unwish,q⟩
  |ret w=>obtain⟨y,σ',H',I',r,q⟩:=h1;exact⟨y,σ',H',zw I'.unwish,r,q⟩
 have hx:XP (Cx.pin' X pins) W1 e1 s1:=hx
 refine jI (X:=Cx.pin' X pins) F0 I.ok.frames hx λx cls d σ1 H1 Tt h' ee I1 ox oT tr w=>?_
 subst ee
 refine zW (X:=Cx.pin' X pins) (s:={s1 with heap:=h'}) I1 ox oT tr λh2' I2 tr2=>?_
 rw[←hW] at w
 obtain⟨kk,fs,τ1,μ1,α1,Ck,z,ad,rfl,st1,m1,sr1,xd⟩:=w
 exact Vt C ad hh I2 ox oT tr2 xd m1 sr1 (PostS.step ⟨Q,z,h1,h2,h3,h4,h5⟩ st1)
end
structure Rec where
 e:Cn->Expr->Option De
 t:Cn->Expr->Option Dt
 w:Cn->Expr->Option Dt
 i:Cn->Expr->Option Di
 o:Cn->Expr->Option De
 s:Cn->Stmt->Option Ds
noncomputable abbrev ER:=Rec->Cn->Expr->Option De
noncomputable abbrev TR:=Rec->Cn->Expr->Option Dt
noncomputable abbrev IR:=Rec->Cn->Expr->Option Di
noncomputable abbrev SR:=Rec->Cn->Stmt->Option Ds
structure Rules where
 e:List ER
 t:List TR
 w:List TR
 i:List IR
 o:List ER
 s:List SR
noncomputable def yP {α β:Type}:List (Rec->Cn->α->Option β)->Rec->Cn->α->Option β
 |[],_,_,_=>none
 |f::fs,r,Γ,e=>match f r Γ e with
  |some d=>some d
  |none=>yP fs r Γ e
noncomputable def comp (R:Rules):Nat->Rec
 |0=>⟨λ_ _=>none,λ_ _=>none,λ_ _=>none,λ_ _=>none,λ_ _=>none,λ_ _=>none⟩
 |n+1=>⟨yP R.e (comp R n),yP R.t (comp R n),yP R.w (comp R n),yP R.i (comp R n),yP R.o (comp R n),yP R.s (comp R n)⟩
noncomputable def Jp(tg e:Expr):Bool:=match e with
 |.Call (.Name x _) _ _ _=>(x != ("enumerate":Str)&&x != ("zip":Str)) || (match tg with|.Tuple _ _ _=>true|_=>false)
 |_=>true
structure RecOk(D:DP)(r:Rec):Prop where
 e:∀{X W Γ k e f},Ck D W Γ X k->r.e Γ e=some f->PE X e (rdE D W f)
 t:∀{X W Γ k e f},Ck D W Γ X k->r.t Γ e=some f->PT X e (rdT D W f)
 w:∀{X W Γ k e f},Ck D W Γ X k->r.w Γ e=some f->PW X e (rdT D W f)
 i:∀{X W Γ k tg e f},Ck D W Γ X k->Jp tg e=true->r.i Γ e=some f->PI X tg e (rdI D W f)
 o:∀{X W Γ k e f},Ck D W Γ X k->r.o Γ e=some f->PE X e (rdE D W f)
 s:∀{X W Γ k e f},Sk D W Γ X k->r.s Γ e=some f->PS X e (rdS D W f)
noncomputable def EOk (D:DP)(f:ER):Prop:=∀r,RecOk D r->∀{X W Γ k e d},Ck D W Γ X k->f r Γ e=some d->PE X e (rdE D W d)
noncomputable def TOk (D:DP)(f:TR):Prop:=∀r,RecOk D r->∀{X W Γ k e d},Ck D W Γ X k->f r Γ e=some d->PT X e (rdT D W d)
noncomputable def WOk (D:DP)(f:TR):Prop:=∀r,RecOk D r->∀{X W Γ k e d},Ck D W Γ X k->f r Γ e=some d->PW X e (rdT D W d)
noncomputable def IOk (D:DP)(f:IR):Prop:=∀r,RecOk D r->∀{X W Γ k tg e d},Ck D W Γ X k->Jp tg e=true->f r Γ e=some d->PI X tg e (rdI D W d)
noncomputable def SOk (D:DP)(f:SR):Prop:=∀r,RecOk D r->∀{X W Γ k e d},Sk D W Γ X k->f r Γ e=some d->PS X e (rdS D W d)
noncomputable def jl{α:Type}(P:α->Prop):List α->Prop
 |[]=>True
 |f::fs=>P f/\jl P fs
structure RulesOk(D:DP)(R:Rules):Prop where
 e:jl (EOk D) R.e
 t:jl (TOk D) R.t
 w:jl (WOk D) R.w
 i:jl (IOk D) R.i
 o:jl (EOk D) R.o
 s:jl (SOk D) R.s
theorem qS{α β:Type}{P:(Rec->Cn->α->Option β)->Prop}{C:Prop}{r:Rec}{Γ:Cn}{e:α}{d:β}:∀{fs:List (Rec->Cn->α->Option β)},jl P fs->(∀f,P f->f r Γ e=some d->C)->yP fs r Γ e=some d->C
 |[],_,_,h=>by cases h
 |f::fs,a,k,h=>by
  unfold yP at h
  cases q:f r Γ e with
  |some d'=>rw[q] at h;cases h;exact k f a.1 q
  |none=>rw[q] at h;exact qS a.2 k h
theorem qy{D:DP}{R:Rules}(H:RulesOk D R):∀n,RecOk D (comp R n)
 |0=>⟨λ_ h=>(by cases h),λ_ h=>(by cases h),λ_ h=>(by cases h),λ_ _ h=>(by cases h),λ_ h=>(by cases h),λ_ h=>(by cases h)⟩
 |n+1=>⟨λC h=>qS H.e (λf p q=>p _ (qy H n) C q) h,λC h=>qS H.t (λf p q=>p _ (qy H n) C q) h,λC h=>qS H.w (λf p q=>p _ (qy H n) C q) h,λC ht h=>qS H.i (λf p q=>p _ (qy H n) C ht q) h,λC h=>qS H.o (λf p q=>p _ (qy H n) C q) h,λC h=>qS H.s (λf p q=>p _ (qy H n) C q) h⟩
noncomputable def gd{α:Type}(b:Bool)(o:Option α):Option α:=match b with
 |true=>o
 |false=>none
theorem zj{α:Type}{b:Bool}{o:Option α}{x:α}(h:gd b o=some x):b=true/\o=some x:=by
 cases b with
 |true=>exact⟨rfl,h⟩
 |false=>cases h
theorem bnd{α β:Type}{o:Option α}{f:α->Option β}{x:β}(h:o.bind f=some x):∃a,o=some a/\f a=some x:=Option.bind_eq_some_iff.mp h
noncomputable def zp {α β:Type}(f:α->Option β):List α->Option (List β)
 |[]=>some []
 |a::r=>(f a).bind λb=>(zp f r).bind λbs=>some (b::bs)
noncomputable def cEs (r:Rec)(Γ:Cn)(es:List Expr):Option (List De):=zp (λe=>gd (noStar e) (r.e Γ e)) es
section
variable {D:DP}{r:Rec}{X:Cx}{W:XW}{Γ:Cn}{k:Nat}
theorem wd(h:RecOk D r)(C:Ck D W Γ X k):∀{es:List Expr} {fs:List De},cEs r Γ es=some fs->EsOk X D W es fs
 |[],fs,e=>by cases e;trivial
 |a::es,fs,e=>by
  obtain⟨f,h1,e⟩:=bnd e
  obtain⟨gs,h2,e⟩:=bnd e
  cases e
  obtain⟨h3,h4⟩:=zj h1
  exact⟨h3,h.e C h4,wd h C h2⟩
theorem vE(h:RecOk D r)(C:Ck D W Γ X k):∀{es:List Expr} {fs:List Dt},zp (r.t Γ) es=some fs->uW X D W es fs
 |[],fs,e=>by cases e;trivial
 |a::es,fs,e=>by
  obtain⟨f,h1,e⟩:=bnd e
  obtain⟨gs,h2,e⟩:=bnd e
  cases e
  exact⟨h.t C h1,vE h C h2⟩
theorem zY(h:RecOk D r)(C:Sk D W Γ X k):∀{es:List Stmt} {fs:List Ds},zp (r.s Γ) es=some fs->jM X D W es fs
 |[],fs,e=>by cases e;trivial
 |a::es,fs,e=>by
  obtain⟨f,h1,e⟩:=bnd e
  obtain⟨gs,h2,e⟩:=bnd e
  cases e
  exact⟨h.s C h1,zY h C h2⟩
end
noncomputable def z0Z:ER:=λ_ _ e=>match e with
 |.Constant c _ _=>(match c with
  |.int i=>some (eC (.int i))
  |.bool b=>some (eC (.bl b))
  |.none=>some (eC .non)
  |.str x=>some (eC (.str x))
  |_=>none)
 |_=>none
theorem Ku{D:DP}:EOk D z0Z:=by
 intro r H X W Γ k e d C h
 cases e with
 |Constant c j p=>
  cases c with
  |int i=>cases h;exact U6
  |bool i=>cases h;exact z16
  |none=>cases h;exact Uk
  |str i=>cases h;exact UL
  |_=>cases h
 |_=>cases h
noncomputable def YX:ER:=λ_ Γ e=>match e with
 |.Name x _=>(match idx Γ.N x with
  |some i=>some (eV i)
  |none=>(match Γ.look x with
   |.cst t=>some (eC t)
   |_=>none))
 |_=>none
theorem Ks{D:DP}:EOk D YX:=by
 intro r H X W Γ k e d C h
 cases e with
 |Name x p=>
  simp only[YX] at h
  cases q:idx Γ.N x with
  |some i=>rw[q] at h;cases h;exact Y9 C q
  |none=>
   rw[q] at h
   cases hl:Γ.look x with
   |cst t=>
    simp only[hl] at h
    cases h
    obtain⟨hx,hg⟩:=z_ hl (by intro z;cases z)
    exact UA C hx hg
   |_=>simp[hl] at h
 |_=>cases h
noncomputable def z0X:ER:=λr Γ e=>match e with
 |.BinOp a op b _=>(r.e Γ a).bind λf=>(r.e Γ b).bind λg=>some (zb op f g)
 |_=>none
theorem KI{D:DP}:EOk D z0X:=by
 intro r H X W Γ k e d C h
 cases e with
 |BinOp a op b p=>
  obtain⟨f,h1,h⟩:=bnd h
  obtain⟨g,h2,h⟩:=bnd h
  cases h
  exact z0d (H.e C h1) (H.e C h2)
 |_=>cases h
noncomputable def rUn:ER:=λr Γ e=>match e with
 |.UnaryOp op a _=>(r.e Γ a).bind λf=>(match op with
  |.USub=>some (z0v f)
  |.Not=>some (Xf f)
  |_=>none)
 |_=>none
theorem U8{D:DP}:EOk D rUn:=by
 intro r H X W Γ k e d C h
 cases e with
 |UnaryOp op a p=>
  obtain⟨f,h1,h⟩:=bnd h
  cases op with
  |USub=>cases h;exact U7 (H.e C h1)
  |Not=>cases h;exact Yr (H.e C h1)
  |_=>cases h
 |_=>cases h
noncomputable def XQ:ER:=λr Γ e=>match e with
 |.BoolOp op es p=>(match es with
  |[a]=>r.e Γ a
  |a::b::l=>(r.e Γ a).bind λf=>(r.e Γ (.BoolOp op (b::l) p)).bind λg=>some (match op with|.And=>VN f g|.Or=>eOr f g)
  |[]=>none)
 |_=>none
theorem V1{D:DP}:EOk D XQ:=by
 intro r H X W Γ k e d C h
 cases e with
 |BoolOp op es p=>
  match es with
  |[]=>cases h
  |[a]=>exact Yj (H.e C h)
  |a::b::l=>
   obtain⟨f,h1,h⟩:=bnd h
   obtain⟨g,h2,h⟩:=bnd h
   cases h
   cases op with
   |And=>exact z0b (H.e C h1) (H.e C h2)
   |Or=>exact z0D (H.e C h1) (H.e C h2)
 |_=>cases h
noncomputable def chs (r:Rec)(Γ:Cn):List CmpOp->List Expr->Option (List (CmpOp×De))
 |[],[]=>some []
 |op::ops,e::es=>gd (wR op) ((r.e Γ e).bind λf=>(chs r Γ ops es).bind λps=>some ((op,f)::ps))
 |_,_=>none
theorem VJ{D:DP}{r:Rec}{X:Cx}{W:XW}{Γ:Cn}{k:Nat}(H:RecOk D r)(C:Ck D W Γ X k):∀{ops:List CmpOp} {es:List Expr} {ps:List (CmpOp×De)},chs r Γ ops es=some ps->Wb X D W es ps/\ps.map (·.1)=ops/\ps.all (λp=>wR p.1)=true
 |[],[],ps,h=>by cases h;exact⟨trivial,rfl,rfl⟩
 |[],_::_,ps,h=>by cases h
 |_::_,[],ps,h=>by cases h
 |op::ops,e::es,ps,h=>by
  obtain⟨hb,h⟩:=zj h
  obtain⟨f,h1,h⟩:=bnd h
  obtain⟨qs,h2,h⟩:=bnd h
  cases h
  obtain⟨k1,k2,k3⟩:=VJ H C h2
  exact⟨⟨H.e C h1,k1⟩,by simp[k2],by simp[hb,k3]⟩
noncomputable def UO (r:Rec)(Γ:Cn)(a:Expr)(ops:List CmpOp)(es:List Expr):Option De:=(r.e Γ a).bind λf=>(match ops,es with
 |[op],[b]=>gd (qK op b) ((r.e Γ b).bind λg=>some (zB op f g))
 |_::_::_,_::_::_=>(chs r Γ ops es).bind λps=>some (eCh f ps)
 |_,_=>none)
theorem Qm{D:DP}{r:Rec}{X:Cx}{W:XW}{Γ:Cn}{k:Nat}(H:RecOk D r)(C:Ck D W Γ X k){a:Expr}{ops:List CmpOp}{es:List Expr}{p:Pos}{d:De}(h:UO r Γ a ops es=some d):PE X (.Compare a ops es p) (rdE D W d)/\PT X (.Compare a ops es p) (rdT D W (tE d)):=by
 obtain⟨f,h1,h⟩:=bnd h
 match ops,es with
 |[op],[b]=>
  obtain⟨ho,h⟩:=zj h
  obtain⟨g,h2,h⟩:=bnd h
  cases h
  exact⟨Y_ C ho (H.e C h1) (H.e C h2),Zt C ho (H.e C h1) (H.e C h2)⟩
 |op::op'::ops,e::e'::es=>
  obtain⟨ps,h2,h⟩:=bnd h
  cases h
  obtain⟨k1,k2,k3⟩:=VJ H C h2
  match ps with
  |[]=>cases k2
  |[p1]=>simp at k2
  |p1::p2::ps=>
   simp only[List.map_cons,List.cons.injEq] at k2
   obtain⟨rfl,rfl,rfl⟩:=k2
   exact⟨V7 C k3 (H.e C h1) k1,u4 C k3 (H.e C h1) k1⟩
 |[],es=>cases h
 |[_],[]=>cases h
 |[_],_::_::_=>cases h
 |_::_::_,[]=>cases h
 |_::_::_,[_]=>cases h
noncomputable def z0V:ER:=λr Γ e=>match e with
 |.Compare a ops es _=>UO r Γ a ops es
 |_=>none
theorem Ka{D:DP}:EOk D z0V:=by
 intro r H X W Γ k e d C h
 cases e with
 |Compare a ops es p=>exact (Qm H C h).1
 |_=>cases h
noncomputable def z10:ER:=λr Γ e=>match e with
 |.Attribute a x _=>gd (zR a) ((r.e Γ a).bind λf=>(Γ.fld.lookup x).bind λn=>some (zC f n))
 |_=>none
theorem Kf{D:DP}:EOk D z10:=by
 intro r H X W Γ k e d C h
 cases e with
 |Attribute a x p=>
  obtain⟨hp,h⟩:=zj h
  obtain⟨f,h1,h⟩:=bnd h
  obtain⟨n,h2,h⟩:=bnd h
  cases h
  exact Yh C hp (lookup_mem h2) (H.e C h1)
 |_=>cases h
noncomputable def prt (r:Rec)(Γ:Cn):Option Expr->Option Dp
 |none=>some pN
 |some e=>(r.e Γ e).bind λf=>some (pS f)
theorem Jm{D:DP}{r:Rec}{X:Cx}{W:XW}{Γ:Cn}{k:Nat}(H:RecOk D r)(C:Ck D W Γ X k){o:Option Expr}{d:Dp}(h:prt r Γ o=some d):PO X o (rdO D W d):=by
 cases o with
 |none=>cases h;exact JX
 |some e=>
  obtain⟨f,h1,h⟩:=bnd h
  cases h
  exact Kc (H.e C h1)
noncomputable def YM:ER:=λr Γ e=>match e with
 |.Subscript a b _=>(match b with
  |.Slice lo hi st _=>(match st with
   |none=>(r.e Γ a).bind λf=>(prt r Γ lo).bind λl=>(prt r Γ hi).bind λu=>some (eSl f l u)
   |some _=>none)
  |b=>gd (zS b) ((r.e Γ a).bind λf=>(r.e Γ b).bind λg=>some (eIx f g)))
 |_=>none
theorem KQ{D:DP}:EOk D YM:=by
 intro r H X W Γ k e d C h
 cases e with
 |Subscript a b p=>
  have gen:∀{b},gd (zS b) ((r.e Γ a).bind λf=>(r.e Γ b).bind λg=>some (eIx f g))=some d->PE X (.Subscript a b p) (rdE D W d):=λ{b} h=>by
   obtain⟨hp,h⟩:=zj h
   obtain⟨f,h1,h⟩:=bnd h
   obtain⟨g,h2,h⟩:=bnd h
   cases h
   exact z1D hp C.hK (H.e C h1) (H.e C h2)
  cases b with
  |Slice lo hi st p2=>
   cases st with
   |some _=>cases h
   |none=>
    obtain⟨f,h1,h⟩:=bnd h
    obtain⟨l,h2,h⟩:=bnd h
    obtain⟨u,h3,h⟩:=bnd h
    cases h
    exact Vp (H.e C h1) (Jm H C h2) (Jm H C h3)
  |_=>exact gen h
 |_=>cases h
noncomputable def z1B:ER:=λr Γ e=>match e with
 |.List es _=>gd (decide (es.length<=room)) ((cEs r Γ es).bind λfs=>some (js fs))
 |.Tuple es _ _=>gd (decide (es.length<=room)) ((cEs r Γ es).bind λfs=>some (wq fs))
 |_=>none
theorem Kz{D:DP}:EOk D z1B:=by
 intro r H X W Γ k e d C h
 cases e with
 |List es p=>
  obtain⟨hl,h⟩:=zj h
  obtain⟨fs,h1,h⟩:=bnd h
  cases h
  exact Yq (of_decide_eq_true hl) (wd H C h1)
 |Tuple es kk p=>
  obtain⟨hl,h⟩:=zj h
  obtain⟨fs,h1,h⟩:=bnd h
  cases h
  exact Yu (of_decide_eq_true hl) (wd H C h1)
 |_=>cases h
noncomputable def YG:ER:=λr Γ e=>match e with
 |.Call (.Name x _) es [] _=>gd ((idx Γ.N x).isNone&&Γ.calm) ((cEs r Γ es).bind λfs=>(match Γ.look x with
  |.fn g=>some (z9 g fs)
  |.mk c true g=>some (eMk c g fs)
  |_=>none))
 |_=>none
theorem Xt{D:DP}:EOk D YG:=by
 intro r H X W Γ k e d C h
 unfold YG at h
 split at h
 ·rename_i x p0 es pos
  obtain⟨hb,h⟩:=zj h
  simp only[Bool.and_eq_true] at hb
  obtain⟨fs,h1,h⟩:=bnd h
  cases hl:Γ.look x with
  |fn g=>
   simp only[hl] at h
   cases h
   obtain⟨hx,hg⟩:=z_ hl (by intro z;cases z)
   exact KS C hx hg hb.2 (wd H C h1)
  |mk c z g=>
   cases z with
   |true=>
    simp only[hl] at h
    cases h
    obtain⟨hx,hg⟩:=z_ hl (by intro z;cases z)
    exact KL C hx hg hb.2 (wd H C h1)
   |false=>simp[hl] at h
  |_=>simp[hl] at h
 ·cases h
noncomputable def rB1 (nm:Str)(op:T->Mem->RE T)(cl:Bool):ER:=λr Γ e=>match e with
 |.Call (.Name x _) [a] [] _=>gd (x == nm&&(idx Γ.N x).isNone&&noStar a&&(!cl || Γ.calm)) ((r.e Γ a).bind λf=>(match Γ.look x with
  |.none=>some (eB1 op f)
  |_=>none))
 |_=>none
theorem kU{D:DP}{nm:Str}{op:T->Mem->RE T}{cl:Bool}(H1:∀{X:Cx} {W:XW} {Γ:Cn} {k:Nat} {a:Expr} {f:De} {p0 pos:Pos},Ck D W Γ X k->nm∈Γ.G->Γ.gl nm=.none->(cl=true->Γ.calm=true)->noStar a=true->PE X a (rdE D W f)->PE X (.Call (.Name nm p0) [a] [] pos) (rdE D W (eB1 op f))):EOk D (rB1 nm op cl):=by
 intro r H X W Γ k e d C h
 unfold rB1 at h
 split at h
 ·rename_i x p0 a pos
  have hh:=zj h
  clear h
  obtain⟨hb,h⟩:=hh
  simp only[Bool.and_eq_true,beq_iff_eq,Bool.or_eq_true,Bool.not_eq_true'] at hb
  obtain⟨⟨⟨rfl,h2⟩,h3⟩,h4⟩:=hb
  obtain⟨f,h1,h⟩:=bnd h
  cases hl:Γ.look x with
  |none=>
   simp only[hl] at h
   cases h
   obtain⟨hx,hg⟩:=z_ hl (by intro z;cases z)
   exact H1 C hx hg (λz=>h4.resolve_left (by rw[z];simp)) h3 (H.e C h1)
  |_=>simp[hl] at h
 ·cases h
noncomputable def z0A:ER:=rB1 "len" yE false
theorem K5{D:DP}:EOk D z0A:=kU λC hx hg _ hs ha=>Jq C hx hg boot_len (by decide) hs z0K ha
noncomputable def z1p:ER:=rB1 "int" W3 false
theorem X7{D:DP}:EOk D z1p:=kU λC hx hg _ hs ha=>Xy C hx hg (by decide +kernel) (by decide) hs z1m ha
noncomputable def z19:ER:=rB1 "all" KC true
theorem Ky{D:DP}:EOk D z19:=kU λC hx hg hc hs ha=>Jq C hx hg boot_all (by decide) hs (z0J (C.clm (hc rfl))) ha
noncomputable def YC:ER:=λr Γ e=>match e with
 |.Call (.Name x _) [a,c] [] _=>gd (x == ("isinstance":Str)&&(idx Γ.N x).isNone&&noStar a) ((r.e Γ a).bind λf=>(xb Γ c).bind λcs=>(match Γ.look x with
  |.none=>some (W7 cs f)
  |_=>none))
 |_=>none
theorem Xj{D:DP}:EOk D YC:=by
 intro r H X W Γ k e d C h
 unfold YC at h
 split at h
 ·rename_i x p0 a c pos
  have hh:=zj h
  clear h
  obtain⟨hb,h⟩:=hh
  simp only[Bool.and_eq_true,beq_iff_eq] at hb
  obtain⟨⟨rfl,h2⟩,h3⟩:=hb
  obtain⟨f,h1,h⟩:=bnd h
  obtain⟨cs,h4,h⟩:=bnd h
  cases hl:Γ.look "isinstance" with
  |none=>
   simp only[hl] at h
   cases h
   obtain⟨hx,hg⟩:=z_ hl (by intro z;cases z)
   exact UM C hx hg h3 h4 (H.e C h1)
  |_=>simp[hl] at h
 ·cases h
noncomputable def rM1 (nm:Str)(cb:De->De->De):ER:=λr Γ e=>match e with
 |.Call (.Attribute o m pa) [a] [] pc=>gd (m == nm&&zR o&&noStar a&&pa.endLine == pc.line) ((r.e Γ o).bind λf=>(r.e Γ a).bind λg=>some (cb f g))
 |_=>none
theorem yq{D:DP}{nm:Str}{cb:De->De->De}(H1:∀{X:Cx} {W:XW} {Γ:Cn} {k:Nat} {o a:Expr} {f g:De} {pa pc:Pos},Ck D W Γ X k->zR o=true->noStar a=true->(pa.endLine == pc.line)=true->PE X o (rdE D W f)->PE X a (rdE D W g)->PE X (.Call (.Attribute o nm pa) [a] [] pc) (rdE D W (cb f g))):EOk D (rM1 nm cb):=by
 intro r H X W Γ k e d C h
 unfold rM1 at h
 split at h
 ·have hh:=zj h
  clear h
  obtain⟨hb,h⟩:=hh
  simp only[Bool.and_eq_true] at hb
  obtain⟨⟨⟨h0,h2⟩,h3⟩,h4⟩:=hb
  have h0:=beq_iff_eq.mp h0
  subst h0
  obtain⟨f,h1,h⟩:=bnd h
  obtain⟨g,h5,h⟩:=bnd h
  cases h
  exact H1 C h2 h3 h4 (H.e C h1) (H.e C h5)
 ·cases h
noncomputable def z1h:ER:=rM1 "append" QS
theorem Kv{D:DP}:EOk D z1h:=yq λC hp hs hl ho ha=>YS hp hs hl ho ha
noncomputable def U9 (r:Rec)(Γ:Cn)(elt tg iter:Expr)(ifs:List Expr)(sc:Scope)(mk:Nat->List Nat->Tg->Di->List Dt->De->De):Option De:=
 gd (Γ.calm&&Zq Γ.N Γ.cel tg sc&&qC iter&&Jp tg iter) ((jx Γ.N (frees sc)).bind λfs=>(qt (z4 tg++frees sc) tg).bind λtgt=>(r.i Γ iter).bind λfi=>(zp (r.t (inComp Γ tg sc)) ifs).bind λcs=>(r.e (inComp Γ tg sc) elt).bind λfe=>some (mk (z4 tg).length fs tgt fi cs fe))
theorem ZX{r:Rec}{Γ:Cn}{elt tg iter:Expr}{ifs:List Expr}{sc:Scope}{mk:Nat->List Nat->Tg->Di->List Dt->De->De}{d:De}(h:U9 r Γ elt tg iter ifs sc mk=some d) :
  ∃fs tgt fi cs fe,Γ.calm=true/\CompOk Γ.N Γ.cel tg sc/\(qC iter=true/\Jp tg iter=true)/\jx Γ.N (frees sc)=some fs/\qt (z4 tg++frees sc) tg=some tgt/\r.i Γ iter=some fi/\zp (r.t (inComp Γ tg sc)) ifs=some cs/\r.e (inComp Γ tg sc) elt=some fe/\d=mk (z4 tg).length fs tgt fi cs fe:=by
 obtain⟨hb,h⟩:=zj h
 simp only[Bool.and_eq_true] at hb
 obtain⟨fs,h1,h⟩:=bnd h
 obtain⟨tgt,h2,h⟩:=bnd h
 obtain⟨fi,h3,h⟩:=bnd h
 obtain⟨cs,h4,h⟩:=bnd h
 obtain⟨fe,h5,h⟩:=bnd h
 cases h
 exact⟨fs,tgt,fi,cs,fe,hb.1.1.1,QH hb.1.1.2,⟨hb.1.2,hb.2⟩,h1,h2,h3,h4,h5,rfl⟩
noncomputable def V6:ER:=λr Γ e=>match e with
 |.ListComp elt [⟨tg,iter,ifs,z⟩] sc _=>gd (z == 0) (U9 r Γ elt tg iter ifs sc qw)
 |_=>none
theorem V8{D:DP}:EOk D V6:=by
 intro r H X W Γ k e d C h
 unfold V6 at h
 split at h
 ·have hh:=zj h
  clear h
  obtain⟨hz,h⟩:=hh
  have hz:=beq_iff_eq.mp hz
  subst hz
  obtain⟨fs,tgt,fi,cs,fe,h1,h2,h3,h4,h5,h6,h7,h8,rfl⟩:=ZX h
  exact Z_ C h1 h2 h4 h5 (H.i C h3.2 h6) (λX' W' C'=>H.e C' h8) (λX' W' C'=>vE H C' h7) (uk h3.1)
 ·cases h
noncomputable def XY:TR:=λr Γ e=>match e with
 |.Name _ _=>(r.e Γ e).bind λf=>some (tE f)
 |.Call _ _ _ _=>(r.e Γ e).bind λf=>some (tE f)
 |.Subscript _ _ _=>(r.e Γ e).bind λf=>some (tE f)
 |.Attribute _ _ _=>(r.e Γ e).bind λf=>some (tE f)
 |.Compare a ops es _=>(UO r Γ a ops es).bind λf=>some (tE f)
 |.UnaryOp op a _=>(match op with
  |.Not=>(r.t Γ a).bind λf=>some (wY f)
  |_=>none)
 |.BoolOp _ _ _=>r.w Γ e
 |_=>none
theorem VV{D:DP}:TOk D XY:=by
 intro r H X W Γ k e d C h
 cases e with
 |Name x p=>
  obtain⟨f,h1,h⟩:=bnd h
  cases h
  exact ZS (H.e C h1) λ_=>rfl
 |Call f args kws p=>
  obtain⟨f,h1,h⟩:=bnd h
  cases h
  exact ZS (H.e C h1) λ_=>rfl
 |Subscript a b p=>
  obtain⟨f,h1,h⟩:=bnd h
  cases h
  exact ZS (H.e C h1) λ_=>rfl
 |Attribute a b p=>
  obtain⟨f,h1,h⟩:=bnd h
  cases h
  exact ZS (H.e C h1) λ_=>rfl
 |Compare a ops es p=>
  obtain⟨f,h1,h⟩:=bnd h
  cases h
  exact (Qm H C h1).2
 |UnaryOp op a p=>
  cases op with
  |Not=>
   obtain⟨f,h1,h⟩:=bnd h
   cases h
   exact U_ (H.t C h1)
  |_=>cases h
 |BoolOp op es p=>exact (H.w C h).pt
 |_=>cases h
noncomputable def VB:TR:=λr Γ e=>match e with
 |.BoolOp op es p=>(match es with
  |[a]=>r.t Γ a
  |a::b::l=>(r.t Γ a).bind λf=>(r.w Γ (.BoolOp op (b::l) p)).bind λg=>some (match op with|.And=>vo f g|.Or=>tOr f g)
  |[]=>none)
 |_=>none
theorem QQ{D:DP}:WOk D VB:=by
 intro r H X W Γ k e d C h
 cases e with
 |BoolOp op es p=>
  match es with
  |[]=>cases h
  |[a]=>
   cases op with
   |And=>exact X1 (H.t C h)
   |Or=>exact Yw (H.t C h)
  |a::b::l=>
   obtain⟨f,h1,h⟩:=bnd h
   obtain⟨g,h2,h⟩:=bnd h
   cases h
   cases op with
   |And=>exact Yx (H.t C h1) (H.w C h2)
   |Or=>exact z0F (H.t C h1) (H.w C h2)
 |_=>cases h
noncomputable def Jv:IR:=λr Γ e=>match e with
 |.Call (.Name x _) as [] _=>gd (x == ("range":Str)&&(idx Γ.N x).isNone&&as.all noStar) (match Γ.look x with
  |.none=>(match as with
   |[a]=>(r.e Γ a).bind λf=>some (WR f)
   |[a,b]=>(r.e Γ a).bind λf=>(r.e Γ b).bind λg=>some (kW f g)
   |[a,b,c]=>(r.e Γ a).bind λf=>(r.e Γ b).bind λg=>(r.e Γ c).bind λh=>some (XT f g h)
   |_=>none)
  |_=>none)
 |_=>none
theorem VC{D:DP}:IOk D Jv:=by
 intro r H X W Γ k tg e d C ht h
 unfold Jv at h
 split at h
 ·rename_i x p0 as pos
  have hh:=zj h
  clear h
  obtain⟨hb,h⟩:=hh
  simp only[Bool.and_eq_true] at hb
  obtain⟨⟨h0,h2⟩,h3⟩:=hb
  have h0:=beq_iff_eq.mp h0
  subst h0
  cases hl:Γ.look "range" with
  |none=>
   obtain⟨hx,hg⟩:=z_ hl (by intro z;cases z)
   simp only[hl] at h
   match as with
   |[]=>cases h
   |[a]=>
    simp only[List.all_cons,Bool.and_eq_true] at h3
    obtain⟨f,h1,h⟩:=bnd h
    cases h
    exact Ws C hx hg h3.1 (H.e C h1)
   |[a,b]=>
    simp only[List.all_cons,Bool.and_eq_true] at h3
    obtain⟨f,h1,h⟩:=bnd h
    obtain⟨g,h4,h⟩:=bnd h
    cases h
    exact QC C hx hg h3.1 h3.2.1 (H.e C h1) (H.e C h4)
   |[a,b,c]=>
    simp only[List.all_cons,Bool.and_eq_true] at h3
    obtain⟨f,h1,h⟩:=bnd h
    obtain⟨g,h4,h⟩:=bnd h
    obtain⟨g2,h5,h⟩:=bnd h
    cases h
    exact QL C hx hg h3.1 h3.2.1 h3.2.2.1 (H.e C h1) (H.e C h4) (H.e C h5)
   |_::_::_::_::_=>cases h
  |_=>simp[hl] at h
 ·cases h
noncomputable def riE:IR:=λr Γ e=>(r.e Γ e).bind λf=>some (iE f)
theorem Um{D:DP}:IOk D riE:=by
 intro r H X W Γ k tg e d C ht h
 obtain⟨f,h1,h⟩:=bnd h
 cases h
 exact Xu (H.e C h1)
noncomputable def Y1:ER:=λr Γ e=>match e with
 |.List es _=>gd (decide (es.length<=room)) ((cEs r Γ es).bind λfs=>some (JW fs))
 |_=>none
theorem VQ{D:DP}:EOk D Y1:=by
 intro r H X W Γ k e d C h
 cases e with
 |List es p=>
  obtain⟨hl,h⟩:=zj h
  obtain⟨fs,h1,h⟩:=bnd h
  cases h
  exact Yf (of_decide_eq_true hl) (wd H C h1)
 |_=>cases h
noncomputable def W8 (r:Rec)(Γ:Cn)(x:Str)(e:Expr):Option De:=match Γ.own.contains x with
 |true=>r.o Γ e
 |false=>r.e Γ e
theorem yh{D:DP}{r:Rec}{X:Cx}{W:XW}{Γ:Cn}{k:Nat}(H:RecOk D r)(C:Ck D W Γ X k){x:Str}{e:Expr}{d:De}(h:W8 r Γ x e=some d):PE X e (rdE D W d):=by
 unfold W8 at h
 cases q:Γ.own.contains x with
 |true=>rw[q] at h;exact H.o C h
 |false=>rw[q] at h;exact H.e C h
noncomputable def XC:SR:=λr Γ s=>match s with
 |.Return o _=>(match o with
  |some e=>(W8 r Γ "return" e).bind λf=>some (zz f)
  |none=>some XE)
 |_=>none
theorem Jw{D:DP}:SOk D XC:=by
 intro r H X W Γ k e d C h
 cases e with
 |Return o p=>
  cases o with
  |none=>cases h;exact Ko
  |some e=>
   obtain⟨f,h1,h⟩:=bnd h
   cases h
   exact Us (yh H C.toCk h1)
 |_=>cases h
noncomputable def isCall:Expr->Bool
 |.Call _ _ _ _=>true
 |.Constant _ _ _=>true
 |_=>false
noncomputable def XH:SR:=λr Γ s=>match s with
 |.Expr e _=>gd (isCall e) ((r.e Γ e).bind λf=>some (qd f))
 |_=>none
theorem Vz{D:DP}:SOk D XH:=by
 intro r H X W Γ k e d C h
 cases e with
 |Expr e p=>
  obtain⟨hb,h⟩:=zj h
  obtain⟨f,h1,h⟩:=bnd h
  cases h
  exact X9 (by cases e<;>first|(simp[isCall] at hb;done)|rfl) (H.e C.toCk h1)
 |_=>cases h
noncomputable def z1l:SR:=λr Γ s=>match s with
 |.If c a b _=>(r.t Γ c).bind λt=>(zp (r.s Γ) a).bind λus=>(zp (r.s Γ) b).bind λvs=>some (sIf t us vs)
 |_=>none
theorem JU{D:DP}:SOk D z1l:=by
 intro r H X W Γ k e d C h
 cases e with
 |If c a b p=>
  obtain⟨t,h1,h⟩:=bnd h
  obtain⟨us,h2,h⟩:=bnd h
  obtain⟨vs,h3,h⟩:=bnd h
  cases h
  exact z0_ (H.t C.toCk h1) (zY H C h2) (zY H C h3)
 |_=>cases h
noncomputable def yH:Expr->Bool
 |.ListComp _ _ _ _=>true
 |.SetComp _ _ _ _=>true
 |.DictComp _ _ _ _ _=>true
 |_=>false
noncomputable def z1E (r:Rec)(Γ:Cn)(t e:Expr):Option Ds:=gd (nFz Γ t) (match t with
 |.Name x _=>(idx Γ.N x).bind λi=>(match e with
  |.ListComp elt gs sc _=>(match gs with
   |[g]=>gd (g.is_async == 0) ((U9 r Γ elt g.target g.iter g.ifs sc (match Γ.own.contains x with|true=>v_|false=>qw)).bind λf=>some (zo i f))
   |_=>none)
  |e=>gd (!yH e) ((W8 r Γ x e).bind λf=>some (zo i f)))
 |.Tuple es _ _=>gd (Γ.calm&&vz e) ((idxs Γ.N es).bind λis=>(r.e Γ e).bind λf=>some (UX is f))
 |.Attribute o x _=>(Γ.fld.lookup x).bind λn=>(W8 r Γ x e).bind λf=>(r.e Γ o).bind λgo=>some (wZ go n f)
 |.Subscript o b _=>gd (zS b) ((r.e Γ e).bind λf=>(r.e Γ o).bind λgo=>(r.e Γ b).bind λgb=>some (z15 go gb f))
 |_=>none)
noncomputable def Xz:SR:=λr Γ s=>match s with
 |.Assign ts e _=>(match ts with
  |[t]=>z1E r Γ t e
  |_=>none)
 |_=>none
theorem Kw{D:DP}{r:Rec}(H:RecOk D r){X:Cx}{W:XW}{Γ:Cn}{k:Nat}{t e:Expr}{pos:Pos}{d:Ds}(C:Sk D W Γ X k)(h:z1E r Γ t e=some d):PS X (.Assign [t] e pos) (rdS D W d):=by
 have hh0:=zj h
 clear h
 obtain⟨hfz,h⟩:=hh0
 cases t with
 |Name x p=>
  obtain⟨i,hi,h⟩:=bnd h
  have gen:yH e=false->gd (!yH e) ((W8 r Γ x e).bind λf=>some (zo i f))=some d->PS X (.Assign [.Name x p] e pos) (rdS D W d):=λhc h=>by
   obtain⟨_,h⟩:=zj h
   obtain⟨f,h1,h⟩:=bnd h
   cases h
   exact Jh C hi hfz (by cases e<;>first|(simp[yH] at hc;done)|rfl) (yh H C.toCk h1)
  cases e with
  |ListComp elt gs sc pc=>
   match gs with
   |[]=>cases h
   |_::_::_=>cases h
   |[⟨tg,iter,ifs,z⟩]=>
    have hh:=zj h
    clear h gen
    obtain⟨hz,h⟩:=hh
    have hz:z=0:=beq_iff_eq.mp hz
    subst hz
    obtain⟨f,h1,h⟩:=bnd h
    cases h
    obtain⟨fs,tgt,fi,cs,fe,q1,q2,q3,q4,q5,q6,q7,q8,rfl⟩:=ZX h1
    have he:(match Γ.own.contains x with|true=>v_|false=>qw) (z4 tg).length fs tgt fi cs fe=(match Γ.own.contains x with|true=>v_ (z4 tg).length fs tgt fi cs fe|false=>qw (z4 tg).length fs tgt fi cs fe):=by cases Γ.own.contains x<;>rfl
    have key:∀bb,swapsWith (.ListComp elt [⟨tg,iter,ifs,0⟩] sc pc) (some (.Name x p)) pos.line X.env=pure bb->PS X (.Assign [.Name x p] (.ListComp elt [⟨tg,iter,ifs,0⟩] sc pc) pos) (rdS D W (zo i (match Γ.own.contains x with|true=>v_ (z4 tg).length fs tgt fi cs fe|false=>qw (z4 tg).length fs tgt fi cs fe))):=λbb hsw=>by
     cases bb with
     |true=>exact Kx C q1 hi hfz q2 q4 q5 (H.i C.toCk q3.2 q6) (λX' W' C'=>H.e C' q8) (λX' W' C'=>vE H C' q7) (uk q3.1) _ hsw
     |false=>
      refine Jh C hi hfz hsw ?_
      cases Γ.own.contains x with
      |true=>exact Jb C.toCk q1 q2 q4 q5 (H.i C.toCk q3.2 q6) (λX' W' C'=>H.e C' q8) (λX' W' C'=>vE H C' q7) (uk q3.1)
      |false=>exact Z_ C.toCk q1 q2 q4 q5 (H.i C.toCk q3.2 q6) (λX' W' C'=>H.e C' q8) (λX' W' C'=>vE H C' q7) (uk q3.1)
    rw[he]
    exact key _ rfl
  |SetComp _ _ _ _=>cases h
  |DictComp _ _ _ _ _=>cases h
  |_=>exact gen rfl h
 |Tuple es kk p=>
  obtain⟨hb,h⟩:=zj h
  simp only[Bool.and_eq_true] at hb
  obtain⟨is,h1,h⟩:=bnd h
  obtain⟨f,h2,h⟩:=bnd h
  cases h
  exact Yc C hb.1 hb.2 h1 hfz (H.e C.toCk h2)
 |Attribute o x p=>
  obtain⟨n,h1,h⟩:=bnd h
  obtain⟨f,h2,h⟩:=bnd h
  obtain⟨go,h3,h⟩:=bnd h
  cases h
  exact YV C (lookup_mem h1) (yh H C.toCk h2) (H.e C.toCk h3)
 |Subscript o b p=>
  obtain⟨hb,h⟩:=zj h
  obtain⟨f,h1,h⟩:=bnd h
  obtain⟨go,h2,h⟩:=bnd h
  obtain⟨gb,h3,h⟩:=bnd h
  cases h
  exact U5 C hb (H.e C.toCk h1) (H.e C.toCk h2) (H.e C.toCk h3)
 |_=>cases h
theorem VP{D:DP}:SOk D Xz:=by
 intro r H X W Γ k e d C h
 cases e with
 |Assign ts e p=>
  match ts with
  |[]=>cases h
  |[t]=>exact Kw H C h
  |_::_::_=>cases h
 |_=>cases h
noncomputable def XD:SR:=λr Γ s=>match s with
 |.For tg it b els _=>gd (Γ.calm&&qC it&&els.isEmpty&&Jp tg it&&nFz Γ tg) ((qt Γ.N tg).bind λtgt=>(r.i Γ it).bind λfi=>(zp (r.s Γ) b).bind λvs=>some (yl tgt fi vs))
 |_=>none
theorem Wt{D:DP}:SOk D XD:=by
 intro r H X W Γ k e d C h
 cases e with
 |For tg it b els p=>
  obtain⟨hb,h⟩:=zj h
  simp only[Bool.and_eq_true] at hb
  obtain⟨tgt,h1,h⟩:=bnd h
  obtain⟨fi,h2,h⟩:=bnd h
  obtain⟨vs,h3,h⟩:=bnd h
  cases h
  cases els with
  |nil=>exact US C hb.1.1.1.1 h1 hb.2 (H.i C.toCk hb.1.2 h2) (zY H C h3) (uk hb.1.1.1.2)
  |cons _ _=>simp at hb
 |_=>cases h
noncomputable def XB:SR:=λr Γ s=>match s with
 |.While c b els _=>gd els.isEmpty ((r.t Γ c).bind λt=>(zp (r.s Γ) b).bind λvs=>some (ko t vs))
 |_=>none
theorem WJ{D:DP}:SOk D XB:=by
 intro r H X W Γ k e d C h
 cases e with
 |While c b els p=>
  obtain⟨hb,h⟩:=zj h
  obtain⟨t,h1,h⟩:=bnd h
  obtain⟨vs,h3,h⟩:=bnd h
  cases h
  cases els with
  |nil=>exact JE C (H.t C.toCk h1) (zY H C h3)
  |cons _ _=>simp at hb
 |_=>cases h
noncomputable def YO:Stmt->Option Expr
 |.Raise (some e) none _=>some e
 |_=>none
theorem Xd{s:Stmt}{e:Expr}(h:YO s=some e):∃p,s=.Raise (some e) none p:=by
 unfold YO at h
 split at h
 ·cases h;exact⟨_,rfl⟩
 ·cases h
noncomputable def Jo:Expr->Option (Str×List Expr)
 |.Call (.Name x _) as [] _=>some (x,as)
 |_=>none
theorem Vf{e:Expr}{q:Str×List Expr}(h:Jo e=some q):∃p0 p1,e=.Call (.Name q.1 p0) q.2 [] p1:=by
 unfold Jo at h
 split at h
 ·cases h;exact⟨_,_,rfl⟩
 ·cases h
noncomputable def VX:SR:=λr Γ s=>(YO s).bind λe=>(Jo e).bind λq=>gd (Γ.calm&&(idx Γ.N q.1).isNone&&!q.2.isEmpty) ((cEs r Γ q.2).bind λfs=>(match Γ.look q.1 with
  |.xcl c=>some (qp c fs)
  |_=>none))
theorem Jc{D:DP}:SOk D VX:=by
 intro r H X W Γ k e d C h
 unfold VX at h
 obtain⟨e',h0,h⟩:=bnd h
 obtain⟨⟨x,as⟩,h2,h⟩:=bnd h
 obtain⟨p2,rfl⟩:=Xd h0
 obtain⟨p0,p1,rfl⟩:=Vf h2
 obtain⟨hb,h⟩:=zj h
 simp only[Bool.and_eq_true] at hb
 cases as with
 |nil=>exact absurd hb.2 (by simp)
 |cons a as=>
  obtain⟨fs,h1,h⟩:=bnd h
  cases hl:Γ.look x with
  |xcl c=>
   simp only[hl] at h
   cases h
   obtain⟨hx,hg⟩:=z_ hl (by intro z;cases z)
   exact V3 C hb.1.1 hx hg (wd H C.toCk h1)
  |_=>simp[hl] at h
noncomputable def hdl (r:Rec)(Γ:Cn):ExceptHandler->Option (List Nat×Option Nat×List Ds)
 |.ExceptHandler t nm suite _=>(match t with
  |some (.Name x _)=>gd ((idx Γ.N x).isNone&&Γ.G.contains x&&!suite.isEmpty&&(match Γ.gl x with|.xcl c=>Γ.cls.lookup x == some c&&Nat.blt c 40|.xcf c _=>Γ.cls.lookup x == some c&&Nat.blt c 40|_=>false)) ((Γ.cls.lookup x).bind λc=>(zp (r.s {Γ with calm:=false}) suite).bind λvs=>(match nm with
   |none=>some ([c],none,vs)
   |some e=>gd (!Γ.cel.contains e) ((idx Γ.N e).bind λj=>some ([c],some j,vs))))
  |_=>none)
theorem Js{D:DP}{r:Rec}(H:RecOk D r){Γ:Cn}{k:Nat}:∀{hs:List ExceptHandler} {gs:List (List Nat×Option Nat×List Ds)},zp (hdl r Γ) hs=some gs->jy D Γ k hs gs
 |[],gs,h=>by cases h;trivial
 |.ExceptHandler t nm suite p::hs,gs,h=>by
  obtain⟨g,h1,h⟩:=bnd h
  obtain⟨gs',h2,h⟩:=bnd h
  cases h
  have ih:=Js (k:=k) H h2
  cases t with
  |none=>cases h1
  |some t=>
   cases t with
   |Name x p0=>
    have q0:=zj h1
    clear h1
    obtain⟨hb,q1⟩:=q0
    simp only[Bool.and_eq_true] at hb
    have q2:=bnd q1
    clear q1
    obtain⟨c,hc,q3⟩:=q2
    have q4:=bnd q3
    clear q3
    obtain⟨vs,hv,h1⟩:=q4
    have hcok:HcOk Γ x c:=by
     refine⟨by simpa using hb.1.1.2,lookup_mem hc,?_⟩
     have h4:=hb.2
     rw[hc] at h4
     cases hg:Γ.gl x with
     |xcl c'=>
      simp only[hg,Bool.and_eq_true] at h4
      have:c=c':=Option.some.inj (beq_iff_eq.mp h4.1)
      rw[this];exact⟨.inr rfl,Nat.blt_eq.mp h4.2⟩
     |xcf c' f=>
      simp only[hg,Bool.and_eq_true] at h4
      have:c=c':=Option.some.inj (beq_iff_eq.mp h4.1)
      rw[this];exact⟨.inl ⟨f,rfl⟩,Nat.blt_eq.mp h4.2⟩
     |_=>rw[hg] at h4;cases h4
    have hne:=hb.1.2
    clear hb
    have h1':=h1
    clear h1
    have h1:=h1'
    clear h1'
    cases suite with
    |nil=>simp at hne
    |cons b0 suite=>
     cases nm with
     |none=>
      cases h1
      exact⟨⟨_,_,_,_,_,_,_,_,_,rfl,rfl,hcok,trivial,λX' C'=>zY H C' hv⟩,ih⟩
     |some e=>
      obtain⟨he,h1⟩:=zj h1
      obtain⟨j,hj,h1⟩:=bnd h1
      cases h1
      exact⟨⟨_,_,_,_,_,_,_,_,_,rfl,rfl,hcok,⟨hj,by simpa using he⟩,λX' C'=>zY H C' hv⟩,ih⟩
   |_=>cases h1
noncomputable def XX:SR:=λr Γ s=>match s with
 |.Try b hs els fin _=>gd (Γ.calm&&!hs.isEmpty&&els.isEmpty&&fin.isEmpty) ((zp (r.s Γ) b).bind λus=>(zp (hdl r Γ) hs).bind λgs=>some (z0k us gs))
 |_=>none
theorem Vr{D:DP}:SOk D XX:=by
 intro r H X W Γ k e d C h
 cases e with
 |Try b hs els fin p=>
  obtain⟨hb,h⟩:=zj h
  simp only[Bool.and_eq_true] at hb
  obtain⟨us,h1,h⟩:=bnd h
  obtain⟨gs,h2,h⟩:=bnd h
  cases h
  cases els with
  |cons _ _=>simp at hb
  |nil=>
   cases fin with
   |cons _ _=>simp at hb
   |nil=>
    cases hs with
    |nil=>simp at hb
    |cons h0 hs=>exact UI C hb.1.1.1 (λX' W' C'=>zY H C' h1) (Js H h2)
 |_=>cases h
structure MdOk(D:DP)(P:Program)(w:World)(K:PySem.W.Frag)(mg:Str->Option Value)(base:Heap)(Γ:Cn)(k:Nat):Prop where
 hK:K=D.K
 glo:∀x∈Γ.U,GlOkM D P w K mg base k x (Γ.gl x)/\(x == ("__debug__":Str))=false
 isi:∀t x c,(x,c)∈Γ.cls->∀u v,yY D t u->jZ mg x v->PySem.W.kitOne K u v=some (wj t c)
 fld:∀c C x f,D.cad c=some C->(x,f)∈Γ.fld->D.fn f=some x/\Cls K C/\NoAttr K C x
 xcx:∀c C,D.adr c=some C->XCls K C
 ocx:∀c C,D.cad c=some C->OCls K C
 clv:∀x c,(x,c)∈Γ.cls->∃u v,jZ mg x u/\ClsV v u
 xmt:∀t x c,(x,c)∈Γ.cls->c<40->∀Ct Cc,D.adr t=some Ct->mg x=some (.ref Cc)->PySem.W.exmOne K (.ref Ct) (.ref Cc)=some (wj t c)
noncomputable def j4(Γ:Cn)(ps:List Str)(sc:Scope):Bool:=
 (sc.kind == .function)&&!sc.isCoroutine&&!sc.isGenerator&&decide (Γ.N.Nodup)&&(Γ.N.take ps.length == ps)&&sc.names.all (λy=>y.2 != .free)&&
 Γ.N.all (λx=>x != ("__debug__":Str)&&x != ("__classdict__":Str)&&(if Γ.cel.contains x then sc.names.lookup x == some .cell else sc.names.lookup x == some .local))&&
 Γ.G.all (λx=>Γ.U.contains x&&sc.names.lookup x == some .globalImplicit)&&Γ.cel.all (λx=>Γ.N.contains x)&&Γ.calm
theorem xJ{X:Cx}{W:XW}{e:Value}{s:Shared}(p:XP X W e s):X.A.frames=some X.stack:=by
 obtain⟨_,_,_,_,_,_,_,_,I,_⟩:=p
 exact I.ok.frames
theorem Qi:∀(ts:List T) (n:Nat),X4 ts n=ts.map some++List.replicate n none
 |[],n=>by
  have:∀n,pad n=List.replicate n none:=λn=>by
   induction n with
   |zero=>rfl
   |succ n ih=>show none::pad n=_;rw[ih];rfl
  exact this n
 |t::r,n=>by show some t::X4 r n=_;rw[Qi r n];rfl
section
variable {D:DP}{P:Program}{w:World}{K:PySem.W.Frag}{mg:Str->Option Value}{base:Heap}{Γ:Cn}{k n:Nat}
theorem Zu{φ α:List Addr}{H:Hp}{N:List Str}{ts:List T}{vs:List V}(d:DenL D φ α H ts vs):SRel D φ α H (X4 ts (N.length-ts.length)) (L2.start N vs):=by
 have hl:=d.length
 rw[Qi]
 refine⟨by simp[L2.start,hl],λi t e=>?_⟩
 by_cases hi:i<ts.length
 ·rw[List.getElem?_append_left (by simpa using hi),List.getElem?_map] at e
  cases q:ts[i]? with
  |none=>rw[q] at e;cases e
  |some t'=>
   rw[q] at e
   have e:some (some t')=some (some t):=e
   cases e
   obtain⟨v,hv,dv⟩:=d.get q
   refine⟨v,?_,dv⟩
   unfold L2.start
   rw[List.getElem?_append_left (by rw[List.length_map,←hl];exact hi),List.getElem?_map,hv]
   rfl
 ·rw[List.getElem?_append_right (by simpa using hi),List.getElem?_replicate] at e
  split at e<;>cases e
noncomputable def kno (X:Cx)(f:Str->Bool):Cx:={X with fn:=f}
theorem Ub{X:Cx}{f g:Str->Bool}(hf:∀x,f x=true->g x=true)(ok:(kno X g).Ok):(kno X f).Ok:=⟨ok.mod,ok.kind,ok.glob,ok.blt,ok.above,ok.inj,ok.has,λx c e=>ok.cab x c (hf x e),ok.hd,ok.frames,ok.stk,ok.exf,ok.bs,ok.bsz,ok.noex,ok.exfs,ok.funs,ok.frf⟩
theorem jH{X:Cx}{f g:Str->Bool}{pins:List (Addr×Obj)}{σ:St}{H:Hp}{s:Shared}(hf:∀x,f x=true->g x=true)(I:Inv (kno X g) pins σ H s):Inv (kno X f) pins σ H s:=
 ⟨Ub hf I.ok,I.os,I.bare,I.base,I.loc,I.cell,I.free,λx c e=>(I.freeC x c e).imp id λz=>⟨Bool.eq_false_iff.mpr λq=>Bool.noConfusion ((hf x q).symm.trans (show g x=false from z.1)),z.2⟩,I.pin,I.hok,I.len⟩
theorem z0a{X:Cx}{f g:Str->Bool}{W:XW}{e:Value}{s:Shared}(hf:∀x,f x=true->g x=true)(p:XP (kno X g) W e s):XP (kno X f) W e s:=by
 obtain⟨x,cls,d,σ,H,T,fl,a,I,b,c,r,r2,r3⟩:=p
 exact⟨x,cls,d,σ,H,T,fl,a,jH hf I,⟨b.free,b.loc,b.nfs,b.new,b.cel,b.pin⟩,λt ht=>let b:=c t ht;⟨b.free,b.loc,b.nfs,b.new,b.cel,b.pin⟩,r,r2,r3⟩
theorem ZN{X:Cx}{f g:Str->Bool}{pins:List (Addr×Obj)}{E:Ends}{fl:Flow}{s:Shared}(hf:∀x,f x=true->g x=true)(h:SP (kno X g) pins E fl s):SP (kno X f) pins E fl s:=by
 cases fl with
 |ret v=>obtain⟨v,σ',H',I',r⟩:=h;exact⟨v,σ',H',jH hf I',r⟩
 |_=>obtain⟨σ',H',I',r⟩:=h;exact⟨σ',H',jH hf I',r⟩
theorem ZW{D:DP}{W:XW}{X:Cx}{f:Str->Bool}{b2:List Stmt}{ds2:List Ds}(h2:jM (kno X f) D W b2 ds2):∀{b1:List Stmt} {ds1:List Ds},jM (kno X λ_=>true) D W b1 ds1->
  ∀(pins:List (Addr×Obj)) (s:Shared) (σ:St) (H:Hp) (E:Ends),Inv (kno X λ_=>true) pins σ H s->rdS D W (zT (ds1++ds2)) E σ H->wpAny (model X.prog X.w) X.A (execs (b1++b2) X.env) (SP (kno X f) pins E) X.xe s
 |[],[],_,pins,s,σ,H,E,I,q=>qg h2 pins s σ H E (jH (λ_ _=>rfl) I) q
 |st::r,u::us,h,pins,s,σ,H,E,I,q=>by
  obtain⟨φ,α,τ,μ,sr,mr,Q,q,h3,h4,h5,h6,h7⟩:=q
  refine wpAny_execs_cons (thn (h.1 pins s σ H {E with nx:=λσ' H'=>rdS D W (zT (us++ds2)) E σ' H'} I ⟨φ,α,τ,μ,sr,mr,_,q,λτ1 μ1 e α' H' σ' st m sr'=>?_,h4,h5,h6,h7⟩) λfl s1 z=>?_)
  ·exact⟨φ,α',τ1,μ1,sr',m,PostS.step ⟨Q,e,h3,h4,h5,h6,h7⟩ st⟩
  ·cases fl with
   |next=>
    obtain⟨σ',H',I',q'⟩:=z
    exact ZW h2 h.2 pins s1 σ' H' E I' q'
   |ret v=>exact ZN (fl:=.ret v) (E:=E) (λ_ _=>rfl) z
   |brk=>exact ZN (fl:=.brk) (E:=E) (λ_ _=>rfl) z
   |cont=>exact ZN (fl:=.cont) (E:=E) (λ_ _=>rfl) z
 |[],_::_,h,_,_,_,_,_,_,_=>h.elim
 |_::_,[],h,_,_,_,_,_,_,_=>h.elim
theorem Ji{R:Rules}(HR:RulesOk D R){f:Addr}{name qual:Str}{params:Arguments}{body b1 b2:List Stmt}{scope:Scope}{dV kV doc pm cdv ct oc:Value}{an od:Option Addr}{osl:Array (Option Value)}{ps:List Str}{m:Nat}{ds1 ds2:List Ds}
    (M:MdOk D P w K mg base Γ k) (lk:K.lookup f=some ⟨oc,od,.func (PySem.W.fnOf name qual params body scope dV kV doc pm an cdv ct),osl⟩) (hcd:PySem.W.codeIn K cdv qual=true) (hs:j4 Γ ps scope=true) (hm:Γ.N.length=ps.length+m) (hbo:body=b1++b2) (hd1:zp ((comp R n).s {Γ with fz:=[]}) b1=some ds1) (hds:zp ((comp R n).s Γ) b2=some ds2) (hlam:LamOk D mg base cdv (qual++".<locals>.") k Γ.lam:=by exact LamOk.no rfl) :
    FnOk P w K mg base (CX1 P w) (k+1) f (PySem.W.fnOf name qual params body scope dV kV doc pm an cdv ct) ps (spN D ps.length (fnW ps.length m (ds1++ds2))):=by
  subst hbo
  simp only[j4,Bool.and_eq_true,List.all_eq_true,beq_iff_eq,Bool.not_eq_true',decide_eq_true_eq,bne_iff_ne,ne_eq] at hs
  obtain⟨⟨⟨⟨⟨⟨⟨⟨⟨h1,h2⟩,h3⟩,h4⟩,h5⟩,h6⟩,h7⟩,h8⟩,h9⟩,h10⟩:=hs
  have kin:∀x∈Γ.N,(Γ.cel.contains x=true/\scope.names.lookup x=some .cell)\/(Γ.cel.contains x=false/\scope.names.lookup x=some .local):=λx hx=>by
    have q:=(h7 x hx).2
    cases hc:Γ.cel.contains x with
    |true=>rw[hc,if_pos rfl] at q;exact .inl ⟨rfl,beq_iff_eq.mp q⟩
    |false=>rw[hc] at q;exact .inr ⟨rfl,beq_iff_eq.mp q⟩
  have loc:∀x∈Γ.N,scope.names.lookup x=some .local\/scope.names.lookup x=some .cell:=λx hx=>(kin x hx).elim (λz=>.inr z.2) λz=>.inl z.2
  have S:FnScope Γ.N ps scope:=⟨h1,h2,h3,h4,h5,λx hx=>loc x (by rw[←h5] at hx;exact List.mem_of_mem_take hx),h6⟩
  refine z1q (fnb:=λx=>!Γ.fz.contains x) lk hcd S (λvs H Q E q=>q.1) λA outer s H vs Q E hr hsp hfree=>?_
  obtain⟨hl,φ,α,ts,μ,d,mr,K0,Z0,⟨hle,q⟩,hk0,hz0⟩:=hsp
  generalize hX:Zv (CX1 P w) P w K mg base Γ.N qual scope f cdv A outer s H E (λx=>!Γ.fz.contains x)=X
  have F:Frm X (envOfC qual scope s.heap.objs.size f cdv) outer s.heap.objs.size:=by rw[←hX];exact⟨rfl,rfl,rfl⟩
  have hfn:X.fn=λx=>!Γ.fz.contains x:=by rw[←hX];rfl
  have CK:∀(l:List Str),(∀x∈l,x∈Γ.fz)->Sk D (wOf E) {Γ with fz:=l} (kno (X.wish (XP X (wOf E))) λx=>!l.contains x || !Γ.fz.contains x) k:=λl hl'=>by
    have xe:∀e s,XP (kno (X.wish (XP X (wOf E))) λx=>!l.contains x || !Γ.fz.contains x) (wOf E) e s->XP X (wOf E) e s:=λe s p=>by
      have p2:XP (kno (X.wish (XP X (wOf E))) λx=>!Γ.fz.contains x) (wOf E) e s:=z0a (λx hx=>by rw[hx,Bool.or_true]) p
      exact j5 (show XP (X.wish (XP X (wOf E))) (wOf E) e s by rw[←hfn] at p2;exact p2)
    have pso:PassesOwn (model X.prog X.w) X.A X.env (XP X (wOf E)):=λe s p=>xO F (xJ p) e s p
    subst hX
    exact { hK := M.hK,hN := rfl,nd := h4,vis := fun x hx => (loc x hx).elim .inl fun z => .inr (.inl z),dbg := fun x hx => ⟨beq_eq_false_iff_ne.mpr (h7 x hx).1.1,beq_eq_false_iff_ne.mpr (h7 x hx).1.2⟩,
            dbG:=λx hx=>(M.glo x (by simpa using (h8 x hx).1)).2,glb:=λx hx=>(h8 x hx).2,glo:=λx hx=>(M.glo x (by simpa using (h8 x hx).1)).1,glU:=M.glo,
            cel:=λx hx=>.inl ((kin x (by simpa using h9 x hx)).elim (λz=>z.2) λz=>by have:=z.1;rw[List.contains_iff_mem.mpr hx] at this;cases this),
            isi:=M.isi,fld:=M.fld,xcx:=M.xcx,ocx:=M.ocx,clv:=M.clv,clm:=λ_=>rfl,rom:=λ_=>hr,rmh:=⟨hr.dp,hr.un⟩,xe:=xe,frm:=⟨_,_,_,F.stk,F.f0,F.fe⟩,lam:=hlam,kfz:=λ_ x hx=>⟨by show (!l.contains x || !Γ.fz.contains x)=false;rw[List.contains_iff_mem.mpr hx,List.contains_iff_mem.mpr (hl' x hx)];rfl,λc e=>(hfree x c e).1⟩,
            sto:=λx hx=>by
              obtain⟨z1,z2⟩:=List.mem_filter.mp hx
              exact⟨loc x z1,.inl (by show (!l.contains x || _)=true;rw[show (!l.contains x)=true from z2];rfl)⟩,lcl:=λx hx hc=>(kin x hx).elim (λz=>by rw[z.1] at hc;cases hc) λz=>z.2,pso:=pso,xmt:=M.xmt}
  have B:PSs X (b1++b2) (λE1 σ1 H1=>(∀y c,X.env.cells.lookup y=some c->X.s₀.heap.objs.size<=c/\H1 c=none)/\rdS D (wOf E) (zT (ds1++ds2)) E1 σ1 H1):=λpins s1 σ1 H1 E1 I1 ⟨hf,q⟩=>by
    have I2:Inv (kno (X.wish (XP X (wOf E))) λ_=>true) pins σ1 H1 s1:=by
      have J:=I1.wish (XP X (wOf E))
      subst hX
      exact⟨⟨J.ok.mod,J.ok.kind,J.ok.glob,J.ok.blt,J.ok.above,J.ok.inj,J.ok.has,λx c _ e=>(hf x c e).1,J.ok.hd,J.ok.frames,J.ok.stk,J.ok.exf,J.ok.bs,J.ok.bsz,J.ok.noex,J.ok.exfs,J.ok.funs,J.ok.frf⟩,J.os,J.bare,J.base,J.loc,J.cell,J.free,λx c e=>.inl (hf x c e).2,J.pin,J.hok,J.len⟩
    have C1:=zY (qy HR n) (CK [] (by simp)) hd1
    have C2:=zY (qy HR n) (CK Γ.fz λ_ h=>h) hds
    have e1:(λx=>!([]:List Str).contains x || !Γ.fz.contains x)=λ_=>true:=by funext x;rfl
    have e2:(λx=>!Γ.fz.contains x || !Γ.fz.contains x)=X.fn:=by rw[hfn];funext x;exact Bool.or_self _
    rw[e1] at C1
    rw[e2] at C2
    refine wpAny_mono (ZW (X:=X.wish (XP X (wOf E))) C2 C1 pins s1 σ1 H1 E1 I2 q) (λf s' q=>SP.unwish q) λe s' p=>?_
    have p:XP X (wOf E) e s':=p
    have:=Jy (M:=model X.prog X.w) (F2:=λe' s''=>CX1 X.prog X.w X.outer X.H₀ X.s₀ E e' s'') F (xJ p) (by rw[←hX];rfl) p
    subst hX
    exact this
  have hmm:Γ.N.length-ts.length=m:=by omega
  refine⟨_,B,by rw[←hX];exact hfree,φ,α,_,μ,Zu d,mr,{nx:=λ_ μ1=>K0 .non μ1,rt:=K0,bk:=λ_ _=>False,ct:=λ_ _=>False,ex:=λc fs _ μ1=>Z0 c fs μ1},by rw[hmm];exact q,λ_ μ1 z α' H' σ' st m _=>hk0 _ _ z α' H' st m .non rfl,λ_ _ z=>z.elim,λ_ _ z=>z.elim,λt μ1 z α' H' v st m dv=>hk0 _ _ z α' H' st m v dv,λc fs _ μ1 z α' H' σ' C1 dd st m _ ad xd=>hz0 c fs μ1 z α' H' C1 dd st m ad xd⟩
theorem yg{R:Rules}(HR:RulesOk D R){f:Addr}{name qual:Str}{params:Arguments}{body:List Stmt}{scope:Scope}{dV kV doc pm cdv ct oc:Value}{an od:Option Addr}{osl:Array (Option Value)}{ps:List Str}{m:Nat}{ds:List Ds}
  (M:MdOk D P w K mg base Γ k) (lk:K.lookup f=some ⟨oc,od,.func (PySem.W.fnOf name qual params body scope dV kV doc pm an cdv ct),osl⟩) (hcd:PySem.W.codeIn K cdv qual=true) (hs:j4 Γ ps scope=true) (hm:Γ.N.length=ps.length+m) (hds:zp ((comp R n).s Γ) body=some ds) (hlam:LamOk D mg base cdv (qual++".<locals>.") k Γ.lam:=by exact LamOk.no rfl) :
  FnOk P w K mg base (CX1 P w) (k+1) f (PySem.W.fnOf name qual params body scope dV kV doc pm an cdv ct) ps (spN D ps.length (fnW ps.length m ds)):=Ji (b1:=[]) (ds1:=[]) HR M lk hcd hs hm rfl rfl hds hlam
theorem jF{n m:Nat}{ds:List Ds}:∀ts μ K Z,fnW n m ds ts μ K Z->ts.length=n:=λ_ _ _ _ h=>h.1
end
noncomputable def Zz:PySem.W.Frag->Bool
 |[]=>true
 |p::r=>(match p.2.cls with|.type t=>t != "list" | _=>true)&&Zz r
theorem Qy:∀{K:PySem.W.Frag} {a:Addr} {o:Obj},Zz K=true->K.lookup a=some o->o.cls≠.type "list"
 |[],_,_,_,h=>by cases h
 |(b,p)::r,a,o,hn,h=>by
  simp only[Zz,Bool.and_eq_true] at hn
  rw[List.lookup_cons] at h
  cases q:a == b with
  |true=>
   rw[q] at h
   cases h
   intro e
   have h1:=hn.1
   rw[e] at h1
   exact absurd h1 (by decide)
  |false=>rw[q] at h;exact Qy hn.2 h
theorem xP{D:DP}{φ α:List Addr}{H:Hp}:∀(ns:List Int),DenL D φ α H (ns.map T.int) (ns.map V.int)
 |[]=>rfl
 |n::r=>⟨.int n,r.map V.int,rfl,rfl,xP r⟩
noncomputable def FLD:List Str:=["moments","houses","counts","start","turns","holder","lease","until","is_cut","shape","grants","house","begin","end","ahead","stride","keeper","mark","newest","batches","has_fallen","clock","kept","common","given","now","seats","world","line","by"]
theorem UY:FLD.Nodup:=by decide +kernel
structure Ads where
 xs:List (Nat×Addr)
 cs:List (Nat×Addr)
noncomputable def mkD (K:PySem.W.Frag)(A:Ads)(clo:Nat->Addr->Option HO->List V->Prop)(tabs:Nat->Option (Addr×List Pos×Str):=λ_=>none):DP:=⟨K,λc=>A.xs.lookup c,λc=>A.cs.lookup c,λi=>FLD[i]?,λi j x h1 h2=>vp UY h1 h2,clo,tabs⟩
noncomputable def cn (cls fld:List (Str×Nat))(gs:List (Str×GM))(N G cel own:List Str)(lam:Option (Nat×List Pos):=none):Cn where
 N:=N
 G:=G
 calm:=true
 gl:=λx=>(gs.lookup x).getD .bad
 cls:=cls
 fld:=fld
 U:=gs.map (·.1)
 cel:=cel
 own:=own
 lam:=lam
noncomputable def tys(A:Ads):List (Nat×Value):=[(0,.type "NoneType"),(1,.type "bool"),(2,.type "int"),(3,.type "str"),(4,.type "tuple"),(5,.type "list"),(6,.type "dict")]++(A.xs.map λp=>(p.1,Value.ref p.2))++A.cs.map λp=>(p.1,Value.ref p.2)
noncomputable def V4(K:PySem.W.Frag)(c:Str):Option Value:=match PySem.W.nsIn K mainGlobals c with
 |some (some v)=>some v
 |some none=>if c == ("__name__":Str) then none else bootBuiltins c
 |none=>none
noncomputable def z1y:Value->Bool
 |.ref _=>true
 |.type _=>true
 |_=>false
noncomputable def isC(o:Option (Option Value))(s:String):Bool:=match o with
 |some (some (.builtin x))=>x == s
 |_=>false
theorem jJ{o:Option (Option Value)}{s:String}(h:isC o s=true):o=some (some (.builtin s)):=by
 unfold isC at h
 split at h
 ·rw[beq_iff_eq.mp h]
 ·cases h
noncomputable def JF(o:Option (Option Value)):Bool:=match o with
 |some none=>true
 |_=>false
theorem yA{o:Option (Option Value)}(h:JF o=true):o=some none:=by
 unfold JF at h
 split at h
 ·rfl
 ·cases h
noncomputable def isB(o:Option Bool)(b:Bool):Bool:=match o with|some c=>c == b|none=>false
theorem kF{o:Option Bool}{b:Bool}(h:isB o b=true):o=some b:=by
 cases o with
 |none=>cases h
 |some c=>have:(c == b)=true:=h;rw[beq_iff_eq.mp this]
noncomputable def Xs (K:PySem.W.Frag)(C:Addr):Bool:=isC (PySem.W.findIn K (.ref C) "__class__") "object.__class__"&&isC (PySem.W.specialIn K (.builtin "object.__class__") "__get__") "getset_descriptor.__get__"&&isB (PySem.W.takesIn K (.builtin "object.__class__")) true&&isB (PySem.W.mroIn K C (.type "object")) true
noncomputable def XM(K:PySem.W.Frag)(C:Addr):Bool:=Xs K C&&isC (PySem.W.findIn K (.ref C) "__getattribute__") "BaseException.__getattribute__"&&JF (PySem.W.findIn K (.ref C) "__getattr__")&&isB (PySem.W.mroIn K C (.type "BaseException")) true&&(PySem.W.clsIn K C).isSome
noncomputable def WO(K:PySem.W.Frag)(C:Addr):Bool:=Xs K C&&PySem.W.plainGet K C Str.empty&&PySem.W.hasDictIn K C&&PySem.W.plainOver K C&&isC (PySem.W.findIn K (.ref C) "__setattr__") "object.__setattr__"
noncomputable def chk (K:PySem.W.Frag)(A:Ads)(cls fld:List (Str×Nat)):Bool:=
 cls.all (λp=>match V4 K p.1 with
  |some v=>z1y v&&(tys A).all (λq=>isB (PySem.W.kitOne K q.2 v) (wj q.1 p.2))&&(Nat.ble 40 p.2 || (match v with|.ref C=>A.xs.all (λq=>isB (PySem.W.exmOne K (.ref q.2) (.ref C)) (wj q.1 p.2))|_=>true))
  |none=>false)&&
 A.xs.all (λq=>XM K q.2)&&A.cs.all (λq=>WO K q.2&&fld.all (λp=>JF (PySem.W.findIn K (.ref q.2) p.1)))&&fld.all (λp=>match FLD[p.2]? with|some x=>x == p.1|none=>false)
theorem kJ{K:PySem.W.Frag}{h:Heap}{mg:Str->Option Value}{c:Str}{v:Value}(X:K.In h)(G:h.Ns mainGlobals mg)(e:V4 K c=some v):jZ mg c v/\∀u,jZ mg c u->u=v:=by
 unfold V4 at e
 split at e
 ·rename_i v' q
  cases e
  have m:=PySem.W.mg_of X G q
  refine⟨.inl m,λu z=>?_⟩
  rcases z with z|⟨z,_⟩
  ·rw[m] at z;cases z;rfl
  ·rw[m] at z;cases z
 ·rename_i q
  have m:=PySem.W.mg_none_of X G q
  split at e
  ·cases e
  ·rename_i hn
   refine⟨.inr ⟨m,e,λz=>hn (by rw[z];rfl)⟩,λu z=>?_⟩
   rcases z with z|⟨_,z,_⟩
   ·rw[m] at z;cases z
   ·rw[e] at z;cases z;rfl
 ·cases e
theorem zE{α β:Type}[BEq α][LawfulBEq α]{x:α}{v:β}:∀{l:List (α×β)},l.lookup x=some v->(x,v)∈l
 |[],h=>by cases h
 |(y,w)::r,h=>by
  rw[List.lookup_cons] at h
  cases q:x == y with
  |true=>rw[q] at h;cases h;rw[beq_iff_eq.mp q];exact List.mem_cons_self
  |false=>rw[q] at h;exact List.mem_cons_of_mem _ (zE h)
theorem lookup_some{α:Type}{x:Str}:∀{l:List (Str×α)},x∈l.map (·.1)->∃v,l.lookup x=some v
 |[],h=>by simp at h
 |(y,w)::r,h=>by
  rw[List.lookup_cons]
  cases q:x == y with
  |true=>exact⟨w,rfl⟩
  |false=>
   rcases List.mem_cons.mp h with z|z
   ·have z:x=y:=z
    rw[z] at q;simp at q
   ·exact lookup_some z
section
variable {P:Program}{w:World}{K:PySem.W.Frag}{mg:Str->Option Value}{base:Heap}{A:Ads}{clo:Nat->Addr->Option HO->List V->Prop}{cls fld:List (Str×Nat)}{gs:List (Str×GM)}{N G cel own:List Str}{k:Nat}{lam:Option (Nat×List Pos)}{tabs:Nat->Option (Addr×List Pos×Str)}
theorem Yk{t:Nat}{u:Value}(h:yY (mkD K A clo tabs) t u):(t,u)∈tys A:=by
 unfold tys
 rcases h with⟨rfl,rfl⟩|⟨rfl,rfl⟩|⟨rfl,rfl⟩|⟨rfl,rfl⟩|⟨rfl,rfl⟩|⟨rfl,rfl⟩|⟨C,h,rfl⟩|⟨rfl,rfl⟩|⟨C,h,rfl⟩
 ·simp
 ·simp
 ·simp
 ·simp
 ·simp
 ·simp
 ·exact List.mem_append_left _ (List.mem_append_right _ (List.mem_map.mpr ⟨(t,C),zE h,rfl⟩))
 ·simp
 ·exact List.mem_append_right _ (List.mem_map.mpr ⟨(t,C),zE h,rfl⟩)
noncomputable def GsOk (P:Program)(w:World)(K:PySem.W.Frag)(mg:Str->Option Value)(base:Heap)(A:Ads)(clo:Nat->Addr->Option HO->List V->Prop)(k:Nat)(gs:List (Str×GM))(tabs:Nat->Option (Addr×List Pos×Str):=λ_=>none):Prop:=∀p∈gs,GlOkM (mkD K A clo tabs) P w K mg base k p.1 p.2/\(p.1 == ("__debug__":Str))=false
theorem GlOkM.mono{D:DP}{j k:Nat}{x:Str}{g:GM}(h:j<=k)(q:GlOkM D P w K mg base j x g):GlOkM D P w K mg base k x g:=by
 cases g with
 |fn f=>obtain⟨fa,a,fd,ps,kk,b,c,d,r⟩:=q;exact⟨fa,a,fd,ps,kk,b,c,Nat.le_trans d h,r⟩
 |fnh nm f=>obtain⟨fa,a,fd,ps,kk,b,c,d,r⟩:=q;exact⟨fa,a,fd,ps,kk,b,c,Nat.le_trans d h,r⟩
 |met c nm f=>obtain⟨C,fI,fd,ps,kk,a,b,c,d,e,f1,r⟩:=q;exact⟨C,fI,fd,ps,kk,a,b,c,d,e,Nat.le_trans f1 h,r⟩
 |mk c z f=>obtain⟨C,fI,fd,ps,kk,a,b,c,d,e,r⟩:=q;exact⟨C,fI,fd,ps,kk,a,b,c,d,Nat.le_trans e h,r⟩
 |xin c f nm fl=>obtain⟨C,HE,fI,fd,ps,kk,a1,a2,a3,a4,a5,a6,r⟩:=q;exact⟨C,HE,fI,fd,ps,kk,a1,a2,a3,a4,a5,Nat.le_trans a6 h,r⟩
 |mkd c nm n f=>obtain⟨C,fI,fd,ps,kk,a,b,c,d,e,r⟩:=q;exact⟨C,fI,fd,ps,kk,a,b,c,d,Nat.le_trans e h,r⟩
 |metd c nm n d f=>obtain⟨C,fI,fd,ps,kk,du,dv,a1,a2,a3,a4,a5,a6,a7,a8,r⟩:=q;exact⟨C,fI,fd,ps,kk,du,dv,a1,a2,a3,a4,a5,a6,a7,Nat.le_trans a8 h,r⟩
 |kap ls=>exact⟨λj l ts φ α H v e d=>let ⟨a,kk,h1,h3,h4⟩:=q.1 j l ts φ α H v e d;⟨a,kk,h1,Nat.le_trans h3 h,h4⟩,q.2⟩
 |kpr=>exact⟨λt φ α H v hj d=>let ⟨a,kk,h1,h2,h3⟩:=q.1 t φ α H v hj d;⟨a,kk,h1,Nat.le_trans h2 h,h3⟩,q.2⟩
 |_=>exact q
theorem GsOk.mono{j k:Nat}(h:j<=k)(q:GsOk P w K mg base A clo j gs tabs):GsOk P w K mg base A clo k gs tabs:=λp hp=>⟨(q p hp).1.mono h,(q p hp).2⟩
theorem GsOk.add {x:Str} {g:GM} (q:GsOk P w K mg base A clo k gs tabs) (h:GlOkM (mkD K A clo tabs) P w K mg base k x g) (hx:(x == ("__debug__":Str))=false):GsOk P w K mg base A clo k ((x,g)::gs) tabs:=λp hp=>by
 rcases List.mem_cons.mp hp with rfl|z
 ·exact⟨h,hx⟩
 ·exact q p z
noncomputable def Qp(bs:List Str)(xs:List (Str×Nat))(ys:List (Str×Nat×Nat)):List (Str×GM):=bs.map (λx=>(x,GM.none))++xs.map (λx=>(x.1,GM.xcl x.2))++ys.map (λx=>(x.1,GM.xcf x.2.1 x.2.2))
noncomputable def atA(K:PySem.W.Frag)(A:Ads)(x:Str)(c:Nat):Bool:=match A.xs.lookup c,PySem.W.nsIn K mainGlobals x with
 |some C,some (some (.ref C'))=>C == C'
 |_,_=>false
noncomputable def Vo(K:PySem.W.Frag)(A:Ads)(bs:List Str)(xs:List (Str×Nat))(ys:List (Str×Nat×Nat)):Bool:=
 bs.all (λx=>x != ("__debug__":Str)&&JF (PySem.W.nsIn K mainGlobals x))&&
 xs.all (λx=>x.1 != ("__debug__":Str)&&atA K A x.1 x.2)&&ys.all (λx=>x.1 != ("__debug__":Str)&&atA K A x.1 x.2.1)
theorem VA{x:Str}{c:Nat}(X:K.In base)(Gm:base.Ns mainGlobals mg)(h:atA K A x c=true):∃C,A.xs.lookup c=some C/\mg x=some (.ref C):=by
 unfold atA at h
 split at h
 ·rename_i C C' q1 q2
  have h:C=C':=beq_iff_eq.mp h
  subst h
  exact⟨C,q1,PySem.W.mg_of X Gm q2⟩
 ·cases h
noncomputable def XOkL (K:PySem.W.Frag)(A:Ads):List (Str×Nat)->Prop
 |[]=>True
 |p::r=>(∃C,A.xs.lookup p.2=some C/\PySem.W.excIn K C qm "ValueError.__new__"=true)/\XOkL K A r
theorem XOkL.at:∀{xs:List (Str×Nat)} {p:Str×Nat},XOkL K A xs->p∈xs->∀C,A.xs.lookup p.2=some C->PySem.W.excIn K C qm "ValueError.__new__"=true
 |q::r,p,h,hp,C,e=>by
  rcases List.mem_cons.mp hp with rfl|z
  ·obtain⟨C',e',x⟩:=h.1
   rw[e'] at e;cases e;exact x
  ·exact XOkL.at h.2 z C e
theorem Z8{bs:List Str}{xs:List (Str×Nat)}{ys:List (Str×Nat×Nat)}(X:K.In base)(Gm:base.Ns mainGlobals mg)(h:Vo K A bs xs ys=true)(hX:XOkL K A xs):GsOk P w K mg base A clo k (Qp bs xs ys) tabs:=by
 simp only[Vo,Bool.and_eq_true,List.all_eq_true,bne_iff_ne,ne_eq] at h
 intro p hp
 rcases List.mem_append.mp hp with z|z
 ·rcases List.mem_append.mp z with z|z
  ·obtain⟨x,hx,rfl⟩:=List.mem_map.mp z
   obtain⟨h1,h2⟩:=h.1.1 x hx
   exact⟨PySem.W.mg_none_of X Gm (yA h2),beq_eq_false_iff_ne.mpr h1⟩
  ·obtain⟨x,hx,rfl⟩:=List.mem_map.mp z
   obtain⟨h1,h2⟩:=h.1.2 x hx
   obtain⟨C,q1,q2⟩:=VA X Gm h2
   exact⟨⟨C,q1,q2,XOkL.at hX hx C q1⟩,beq_eq_false_iff_ne.mpr h1⟩
 ·obtain⟨x,hx,rfl⟩:=List.mem_map.mp z
  obtain⟨h1,h2⟩:=h.2 x hx
  obtain⟨C,q1,q2⟩:=VA X Gm h2
  exact⟨⟨C,q1,q2⟩,beq_eq_false_iff_ne.mpr h1⟩
theorem VE(X:K.In base)(Gm:base.Ns mainGlobals mg)(hc:chk K A cls fld=true)(q:GsOk P w K mg base A clo k gs tabs):MdOk (mkD K A clo tabs) P w K mg base (cn cls fld gs N G cel own lam) k:=by
 simp only[chk,Bool.and_eq_true,List.all_eq_true] at hc
 obtain⟨⟨⟨c1,c2⟩,c3⟩,c4⟩:=hc
 have cb:∀{C},Xs K C=true->PySem.W.findIn K (.ref C) "__class__"=some (some (.builtin "object.__class__"))/\PySem.W.specialIn K (.builtin "object.__class__") "__get__"=some (some (.builtin "getset_descriptor.__get__"))/\PySem.W.takesIn K (.builtin "object.__class__")=some true/\PySem.W.mroIn K C (.type "object")=some true:=λ{C} h=>by
  simp only[Xs,Bool.and_eq_true] at h
  exact⟨jJ h.1.1.1,jJ h.1.1.2,kF h.1.2,kF h.2⟩
 have oc:∀c C,A.cs.lookup c=some C->OCls K C:=λc C h=>by
  have h':=(c3 _ (zE h)).1
  simp only[WO,Bool.and_eq_true] at h'
  obtain⟨⟨⟨⟨h1,h2⟩,h3⟩,h4⟩,h5⟩:=h'
  obtain⟨k1,k2,k3,k4⟩:=cb h1
  exact⟨⟨h2,h3,h4,jJ h5⟩,k1,k2,k3,k4⟩
 refine⟨rfl,λx hx=>?_,λt x c hxc u v hu hv=>?_,λc C x f hC hf=>?_,λc C hC=>?_,oc,λx c hxc=>?_,λt x c hxc hlt Ct Cc hCt hCc=>?_⟩
 ·obtain⟨g,hg⟩:=lookup_some (l:=gs) hx
  have:=q _ (zE hg)
  refine⟨?_,this.2⟩
  show GlOkM _ P w K mg base k x ((gs.lookup x).getD .bad)
  rw[hg]
  exact this.1
 ·have h':=c1 _ hxc
  dsimp only at h'
  split at h'
  ·rename_i v' q'
   simp only[Bool.and_eq_true,List.all_eq_true] at h'
   have e:=(kJ X Gm q').2 v hv
   subst e
   exact kF (h'.1.2 _ (Yk hu))
  ·cases h'
 ·have h':=c4 _ hf
  dsimp only at h'
  refine⟨?_,(oc c C hC).cl,yA ((c3 _ (zE hC)).2 _ hf)⟩
  split at h'
  ·rename_i y hy
   show FLD[f]?=some x
   rw[hy,beq_iff_eq.mp h']
  ·cases h'
 ·have h':=c2 _ (zE hC)
  simp only[XM,Bool.and_eq_true] at h'
  obtain⟨⟨⟨⟨h1,h2⟩,h3⟩,h4⟩,h5⟩:=h'
  obtain⟨k1,k2,k3,k4⟩:=cb h1
  exact⟨jJ h2,yA h3,k1,k2,k3,k4,kF h4,h5⟩
 ·have h':=c1 _ hxc
  dsimp only at h'
  split at h'
  ·rename_i v q'
   simp only[Bool.and_eq_true] at h'
   have hcv:=h'.1.1
   refine⟨v,(match v with|.ref C=>V.ref C|.type n=>V.ty n|_=>V.non),(kJ X Gm q').1,?_⟩
   cases v with
   |ref C=>exact .inl ⟨C,rfl,rfl⟩
   |type n=>exact .inr ⟨n,rfl,rfl⟩
   |_=>cases hcv
  ·cases h'
 ·have h':=c1 _ hxc
  dsimp only at h'
  split at h'
  ·rename_i v q'
   simp only[Bool.and_eq_true,Bool.or_eq_true] at h'
   have e:=(kJ X Gm q').2 (.ref Cc) (.inl hCc)
   subst e
   have h3:=h'.2.resolve_left (λz=>by have:=Nat.le_of_ble_eq_true z;omega)
   simp only[List.all_eq_true] at h3
   exact kF (h3 _ (zE hCt))
  ·cases h'
end
section
variable {X:Cx}{D:DP}{W:XW}{Γ:Cn}{k:Nat}{pins:List (Addr×Obj)}{s:Shared}{σ:St}{H:Hp}{φ α:List Addr}{τ:Sl}{μ:Mem}{pos:Pos}
theorem MRel.layO{p:Addr}{u:HO}{mo:MO}(m:MRel D φ α H μ)(hp:H p=none)(d:DenO D φ (α++[p]) (upd H p u) mo p):MRel D φ (α++[p]) (upd H p u) (μ++[mo]):=by
 have st:Stp α H (α++[p]) (upd H p u):=qA hp
 have hl:=m.len
 refine⟨by simp[hl],?_,λb hb=>?_,λb hb=>?_,λi a o e1 e2=>?_⟩
 ·rw[List.nodup_append]
  refine⟨m.nd,by simp,λa ha b hb=>?_⟩
  rw[List.mem_singleton.mp hb]
  intro z
  exact zh m hp (z▸ha)
 ·rcases List.mem_append.mp hb with h|h
  ·exact m.dis b h
  ·rw[List.mem_singleton.mp h];exact zi m hp
 ·obtain⟨u,e,n⟩:=m.phi b hb
  exact⟨u,zd hp b u e,n⟩
 ·by_cases hi:i<α.length
  ·rw[List.getElem?_append_left hi] at e1
   rw[List.getElem?_append_left (by omega)] at e2
   have d:=m.ob i a o e1 e2
   obtain⟨u,q,_⟩:=d.some
   exact d.step st ((zd hp _ _ q).trans q.symm)
  ·rw[List.getElem?_append_right (by omega)] at e1 e2
   have hi':i-α.length=0:=by
    by_cases z:i-α.length=0
    ·exact z
    ·rw[List.getElem?_eq_none (by simp;omega)] at e1;cases e1
   have hi2:i-μ.length=0:=by omega
   rw[hi'] at e1
   rw[hi2] at e2
   have e1:some p=some a:=e1
   have e2:some mo=some o:=e2
   cases e1;cases e2
   exact d
end
noncomputable abbrev eB2(op:T->T->Mem->RE T)(f g:De):De:=λτ μ=>(f τ μ).bind λx μ1=>(g τ μ1).bind λy μ2=>op x y μ2
noncomputable abbrev Qd(x y:T)(μ:Mem):RE T:=match x,y with
 |.int a,.int b=>.ok (.int (if b<a then b else a)) μ
 |_,_=>.st
noncomputable abbrev xf(x y:T)(μ:Mem):RE T:=match x,y with
 |.int a,.int b=>.ok (.int (if a<b then b else a)) μ
 |_,_=>.st
section
variable {X:Cx}{D:DP}{W:XW}{Γ:Cn}{k:Nat}{pins:List (Addr×Obj)}{s:Shared}{σ:St}{H:Hp}{φ α:List Addr}{τ:Sl}{μ:Mem}{f g h:De}{a b c:Expr}{pos:Pos}{es:List Expr}
noncomputable def B2 (X:Cx)(D:DP)(W:XW)(fv:Value)(op:T->T->Mem->RE T):Prop:=
 ∀(pins:List (Addr×Obj)) (s:Shared) (σ:St) (H:Hp) (φ α:List Addr) (μ:Mem) (t t':T) (v v':V) (u u':Value) (Q:VK),Inv X pins σ H s->MRel D φ α H μ->Den D φ α H t v->Den D φ α H t' v'->RelV v u->RelV v' u'->Post D W φ α H σ (RV D φ Q) (op t t' μ)->
  wpAny (model X.prog X.w) X.A (call fv [u,u']) (EP X pins σ Q) X.xe s
theorem XZ (C:Ck D W Γ X k) {x:Str} {id:String} {op:T->T->Mem->RE T} {p0:Pos} (hx:x∈Γ.G) (hg:Γ.gl x=.none) (hv:bootBuiltins x=some (.builtin id)) (hn:x≠"__name__") (ha':noStar a=true) (hb':noStar b=true) (hB:B2 X D W (.builtin id) op) (ha:PE X a (rdE D W f)) (hb:PE X b (rdE D W g)) :
  PE X (.Call (.Name x p0) [a,b] [] pos) (rdE D W (eB2 op f g)):=by
 have hm:=C.glo _ hx
 rw[hg] at hm
 rintro pins s σ H Q I ⟨φ,α,τ,μ,sr,mr,p⟩
 refine wpAny_Call_Name_kw (we I (C.glb _ hx) hm hv ?_ hn (C.dbG _ hx))
 refine PyProof.Rows.callWith_builtin1 (thn (zt ha (zt hb qb (z5 hb')) (z5 ha') pos pins s σ H (λvs H2=>∃v1 v2 t1 t2 μ2 α2,vs=[v1,v2]/\MRel D φ α2 H2 μ2/\Den D φ α2 H2 t1 v1/\Den D φ α2 H2 t2 v2/\Post D W φ α2 H2 σ (RV D φ Q) (op t1 t2 μ2)) I
  ⟨φ,α,τ,μ,sr,mr,p.bind.mono λt1 μ1 α1 H1 st1 m1 q1 v1 d1=>⟨φ,α1,τ,μ1,sr.step st1,m1,q1.bind.mono λt2 μ2 α2 H2 st2 m2 q2 v2 d2=>⟨v1,v2,t1,t2,μ2,α2,rfl,m2,d1.step st2,d2,q2⟩⟩⟩) ?_) (z5 ha') (zJ (by simp[hb']))
 rintro us s1 ⟨vs,H1,I1,rv,v1,v2,t1,t2,μ2,α2,rfl,m,d1,d2,q⟩
 obtain⟨u1,u2,rfl,r1,r2⟩:=vals2 rv
 exact hB pins s1 σ H1 φ α2 μ2 t1 t2 v1 v2 u1 u2 Q I1 m d1 d2 r1 r2 q
theorem UU(hc:X.calm=true):B2 X D W (.builtin "min") Qd:=by
 intro pins s σ H φ α μ t t' v v' u u' Q I mr d d' r r' p
 unfold Qd at p
 split at p
 ·cases d;cases d'
  obtain⟨t1,rfl⟩:=r
  obtain⟨t2,rfl⟩:=r'
  refine min_two_ints (I.ok.hd hc) λh' tk kp=>?_
  have I1:Inv X pins σ H {s with heap:=h',toks:=tk}:=I.kept kp
  rename_i i j
  by_cases z:j<i
  ·rw[if_pos z] at p ⊢
   exact⟨.int j,H,I1,⟨_,rfl⟩,p.here mr rfl⟩
  ·rw[if_neg z] at p ⊢
   exact⟨.int i,H,I1,⟨_,rfl⟩,p.here mr rfl⟩
 ·exact p.elim
theorem Ym(hc:X.calm=true):B2 X D W (.builtin "max") xf:=by
 intro pins s σ H φ α μ t t' v v' u u' Q I mr d d' r r' p
 unfold xf at p
 split at p
 ·cases d;cases d'
  obtain⟨t1,rfl⟩:=r
  obtain⟨t2,rfl⟩:=r'
  refine max_two_ints (I.ok.hd hc) λh' tk kp=>?_
  have I1:Inv X pins σ H {s with heap:=h',toks:=tk}:=I.kept kp
  rename_i i j
  by_cases z:i<j
  ·rw[if_pos z] at p
   rw[if_pos (show j > i from z)]
   exact⟨.int j,H,I1,⟨_,rfl⟩,p.here mr rfl⟩
  ·rw[if_neg z] at p
   rw[if_neg (show ¬j > i from z)]
   exact⟨.int i,H,I1,⟨_,rfl⟩,p.here mr rfl⟩
 ·exact p.elim
end
noncomputable def rB2 (nm:Str)(op:T->T->Mem->RE T):ER:=λr Γ e=>match e with
 |.Call (.Name x _) [a,b] [] _=>gd (x == nm&&(idx Γ.N x).isNone&&noStar a&&noStar b&&Γ.calm) ((r.e Γ a).bind λf=>(r.e Γ b).bind λg=>(match Γ.look x with
  |.none=>some (eB2 op f g)
  |_=>none))
 |_=>none
theorem WE{D:DP}{nm:Str}{op:T->T->Mem->RE T}(H1:∀{X:Cx} {W:XW} {Γ:Cn} {k:Nat} {a b:Expr} {f g:De} {p0 pos:Pos},Ck D W Γ X k->nm∈Γ.G->Γ.gl nm=.none->Γ.calm=true->noStar a=true->noStar b=true->PE X a (rdE D W f)->PE X b (rdE D W g)->PE X (.Call (.Name nm p0) [a,b] [] pos) (rdE D W (eB2 op f g))):EOk D (rB2 nm op):=by
 intro r H X W Γ k e d C h
 unfold rB2 at h
 split at h
 ·rename_i x p0 a b pos
  have hh:=zj h
  clear h
  obtain⟨hb,h⟩:=hh
  simp only[Bool.and_eq_true,beq_iff_eq] at hb
  obtain⟨⟨⟨⟨rfl,h2⟩,h3⟩,h4⟩,h5⟩:=hb
  obtain⟨f,h1,h⟩:=bnd h
  obtain⟨g,h6,h⟩:=bnd h
  cases hl:Γ.look x with
  |none=>
   simp only[hl] at h
   cases h
   obtain⟨hx,hg⟩:=z_ hl (by intro z;cases z)
   exact H1 C hx hg h5 h3 h4 (H.e C h1) (H.e C h6)
  |_=>simp[hl] at h
 ·cases h
noncomputable def Xx:ER:=rB2 "min" Qd
theorem JC{D:DP}:EOk D Xx:=WE λC hx hg hc h1 h2 ha hb=>XZ C hx hg (by decide +kernel) (by decide) h1 h2 (UU (C.clm hc)) ha hb
noncomputable def XF:ER:=rB2 "max" xf
theorem V0{D:DP}:EOk D XF:=WE λC hx hg hc h1 h2 ha hb=>XZ C hx hg (by decide +kernel) (by decide) h1 h2 (Ym (C.clm hc)) ha hb
noncomputable abbrev Qn(c:Nat)(g:Fn)(ts:List T)(μ:Mem):RE T:=λK Z=>g (.mut μ.length::ts) (μ++[.obj c []]) (λr μ1=>r=.non/\K (.mut μ.length) μ1) Z
noncomputable abbrev Xl(c:Nat)(g:Fn)(fs:List De):De:=λτ μ=>(evs fs τ μ).bind (Qn c g)
noncomputable abbrev vL(c:Nat)(g:Fn)(o:De)(as:List De):De:=λτ μ=>(o τ μ).bind λt μ1=>match t with
 |.obj c' fs=>.grd (c'=c) ((evs as τ μ1).bind λts μ2=>g (.obj c' fs::ts) μ2)
 |.mut i=>λK Z=>∃fs,μ1[i]?=some (.obj c fs)/\(evs as τ μ1).bind (λts μ2=>g (.mut i::ts) μ2) K Z
 |_=>.st
section
variable {X:Cx}{D:DP}{W:XW}{Γ:Cn}{k:Nat}{pins:List (Addr×Obj)}{s:Shared}{σ:St}{H:Hp}{φ α:List Addr}{τ:Sl}{μ:Mem}{fs:List De}{a b c:Expr}{pos:Pos}{es:List Expr}
theorem Qj{c:Nat}{g:Fn}{C0 fI:Addr}{fd:FuncData}{ps:List Str}{kk:Nat}{us:List Value}{vs:List V}{ts:List T}{Q:VK}(C:Ck D W Γ X k)(ad:D.cad c=some C0)(M:Mk X.K C0 fI)(F:FnOk X.prog X.w X.K X.mg X.base (CX1 X.prog X.w) kk fI fd ps (spN D ps.length g))
  (hr:Room (kk+1) X.A) (hb:Binds X.K fd ps []) (har:∀ts μ K Z,g ts μ K Z->ts.length=ps.length) (I:Inv X pins σ H s) (r:Vals vs us) (mr:MRel D φ α H μ) (d:DenL D φ α H ts vs) (p:Post D W φ α H σ (RV D φ Q) (Qn c g ts μ)) :
  wpAny (model X.prog X.w) X.A (call (.ref C0) us) (EP X pins σ Q) X.xe s:=by
 obtain⟨K,Z,hg,hk,hz⟩:=p
 have hl:(T.mut μ.length::ts).length=ps.length:=har _ _ _ _ hg
 have hq:∀x dx,H x=none->H dx=none->dx≠x->spN D ps.length g (.ref x::(vs++[])) (upd (upd H dx (.own x)) x (.ins C0 dx [])) (λv H2=>v=.non/\Q (.ref x) H2) (λc d H'=>W c d σ H'):=by
  intro x dx hx hdx hne
  have sm1:jY H (upd H dx (.own x)):=zd hdx
  have hx1:upd H dx (.own x) x=none:=by rw[z8 (Ne.symm hne)];exact hx
  have mr1:MRel D φ α (upd H dx (.own x)) μ:=mr.new sm1
  have st0:Stp α H (α++[x]) (upd (upd H dx (.own x)) x (.ins C0 dx [])):=(Stp.new sm1).trans (qA hx1)
  have mr2:MRel D φ (α++[x]) (upd (upd H dx (.own x)) x (.ins C0 dx [])) (μ++[.obj c []]):=mr1.layO hx1 ⟨C0,dx,[],ad,z6,rfl⟩
  have hget:(α++[x])[μ.length]?=some x:=by rw[←mr.len,List.getElem?_append_right (Nat.le_refl _)];simp
  refine⟨by simp only[List.length_cons,List.append_nil] at hl ⊢;rw[←d.length];exact hl,φ,α++[x],.mut μ.length::ts,μ++[.obj c []],⟨.ref x,vs++[],rfl,⟨x,hget,rfl⟩,by rw[List.append_nil];exact d.step st0⟩,mr2,_,_,hg,?_,?_⟩
  ·rintro t μ2 ⟨rfl,q⟩ α2 H3 st m v dv
   refine⟨dv,?_⟩
   obtain⟨β,e,_⟩:=st.ext
   refine hk _ _ q α2 H3 (st0.trans st) m _ ⟨x,?_,rfl⟩
   rw[e,List.getElem?_append_left (List.getElem?_eq_some_iff.mp hget).1];exact hget
  ·rintro e fs μ2 q α2 H3 C1 d1 st m had xd
   exact hz _ _ _ q α2 H3 C1 d1 (st0.trans st) m had xd
 have hq1:=hq (s.heap.objs.size+1) s.heap.objs.size (I.hok.fresh (Nat.le_succ _)) (I.hok.fresh (Nat.le_refl _)) (Nat.ne_of_lt (Nat.lt_succ_self _))
 have I2:=Inv.made (C:=C0) I
 have r2:Vals (V.ref (s.heap.objs.size+1)::(vs++[])) (Value.ref (s.heap.objs.size+1)::us):=.cons rfl (by rw[List.append_nil];exact r)
 have hlu:(Value.ref (s.heap.objs.size+1)::us++[]).length=ps.length:=by
  rw[List.append_nil,List.length_cons,←r.length,←d.length]
  exact hl
 refine wpAny_call (u6 (f:=fI) I.kIn M.makes M.init (beq_iff_eq.mp M.fn) (codeAny_mono (F.run _ X.stack _ _ ⟨Value.ref (s.heap.objs.size+1)::us,[]⟩ (Value.ref (s.heap.objs.size+1)::us) _ _ (λc d H'=>W c d σ H') (hr.make C0 us [])
  (I2.env0.make C0 us []) (by simpa using hb _ (Value.ref (s.heap.objs.size+1)::us) I2.kIn hlu) r2 hq1) λr s' hq'=>?_))
 cases r with
 |error e=>exact C.xe e s' (yU (E:=λc d H'=>W c d σ H') I2 hq' λcls d H' w=>w)
 |ok fl=>
  cases fl with
  |ret u=>
   obtain⟨v,H',I3,rv,ev,q3⟩:=I2.after hq'
   subst ev
   exact⟨rv,⟨V.ref (s.heap.objs.size+1),H',I3,rfl,q3⟩⟩
  |next=>exact False.elim hq'
  |brk=>exact False.elim hq'
  |cont=>exact False.elim hq'
theorem Wy(C:Ck D W Γ X k){x:Str}{c:Nat}{g:Fn}{p0:Pos}(hx:x∈Γ.G)(hg:Γ.gl x=.mk c false g)(hc:Γ.calm=true)(ha:EsOk X D W es fs):PE X (.Call (.Name x p0) es [] pos) (rdE D W (Xl c g fs)):=by
 have q:=C.glo x hx
 rw[hg] at q
 obtain⟨C0,fI,fd,ps,kk,ad,hm,M,hb,hkk,Fn,har⟩:=q
 have hr:=(C.rom hc).mono hkk
 have hs:=ha.stars
 have pa:=qV ha
 rintro pins s σ H Q I ⟨φ,α,τ,μ,sr,mr,p⟩
 refine wpAny_Call_Name_kw (wF I (C.glb x hx) hm ?_ (C.dbG x hx))
 cases es with
 |nil=>
  cases fs with
  |nil=>exact PySem.W.callWith_K0 I.kIn M.kp (Qj (ts:=[]) C ad M Fn hr hb har I .nil mr rfl p)
  |cons f fs=>exact ha.elim
 |cons e es=>
  simp only[List.all_cons,Bool.and_eq_true] at hs
  refine PySem.W.callWith_K (h₀:=X.base) I.ok.mod.kin M.kp (thn (JG pa I sr mr p) ?_) (z5 hs.1) (zJ hs.2)
  rintro us s1 ⟨vs,H1,ts,μ1,α1,I1,r1,st1,sr1,mr1,d1,_,p1⟩
  exact⟨I1.kIn,Qj C ad M Fn hr hb har I1 r1 mr1 d1 p1⟩
theorem jO{nm:Str}(hf:∀i,D.fn i≠some nm):∀{fs:List (Nat×T)} {gs:List (Str×V)},DenF D φ α H fs gs->gs.lookup nm=none
 |[],_,h=>by cases h;rfl
 |p::r,_,h=>by
  obtain⟨x,v,q,e,rfl,_,l⟩:=h
  rw[List.lookup_cons]
  have:(nm == x)=false:=by
   apply beq_false_of_ne
   intro z
   exact hf p.1 (by rw[z];exact e)
  rw[this]
  exact jO hf l
theorem Ut {es : List Expr} {pos : Pos} {env : Env} (hs : es.all noStar = true) (hl : es.length < 30) : ((backTo pos (starEach es env)).all (fun x => !x.1) && (backToKw pos (keywordEach [] env)).all (fun x => x.1.isSome)
      &&decide (es.length+([]:List Keyword).length+(if ([]:List Keyword).isEmpty then 0 else 1)<30))=true:=by
  have h1:=zJ (env:=env) (pos:=pos) hs
  have h2:(backTo pos (starEach es env)).all (λx=>!x.1)=true:=by
    rw[List.all_eq_true]
    intro x hx
    have:=List.any_eq_false.mp h1 x hx
    simpa using this
  rw[h2]
  have h3:(backToKw pos (keywordEach [] env)).all (λx=>x.1.isSome)=true:=rfl
  rw[h3]
  simpa using hl
theorem Xo(C:Ck D W Γ X k){x m:Str}{c:Nat}{g:Fn}{o:Expr}{go:De}{apos:Pos}(hU:x∈Γ.U)(hg:Γ.gl x=.met c m g)(hc:Γ.calm=true)(hp:zR o=true)(hline:(apos.endLine == pos.line)=true)(hl:es.length<30)(ho:PE X o (rdE D W go))(ha:EsOk X D W es fs) :
  PE X (.Call (.Attribute o m apos) es [] pos) (rdE D W (vL c g go fs)):=by
 have q:=(C.glU x hU).1
 rw[hg] at q
 obtain⟨C0,fI,fd,ps,kk,ad,cl,M,hnf,hb,hkk,Fn,har⟩:=q
 have hr:=(C.rom hc).mono hkk
 have hs:=ha.stars
 have pa:=qV ha
 rintro pins s σ H Q I ⟨φ,α,τ,μ,sr,mr,p⟩
 rw[arm_eval_Call,zX hp]
 refine wpAny_bind (thn (sub ho I sr mr p) ?_)
 rintro u s1 ⟨v,H1,t,μ1,α1,I1,r1,st1,sr1,mr1,d1,p1⟩
 refine wpAny_bind (wpAny_standAt ?_)
 have hform:methodCallForm (es.length+([]:List Keyword).length) (backTo pos (starEach es X.env)) (backToKw pos (keywordEach [] X.env))=true:=Ut hs hl
 have hpos:methodCallPos true o X.env apos pos=pure pos:=by unfold methodCallPos;simp[hline]
 have go:∀{ad0 dx:Addr} {gs:List (Str×V)} {t0:T},H1 ad0=some (.ins C0 dx gs)->gs.lookup m=none->u=.ref ad0->(∀α2 H2,Stp α1 H1 α2 H2->Den D φ α2 H2 t0 (.ref ad0))->Post D W φ α1 H1 σ (RV D φ Q) ((evs fs τ μ1).bind λts μ2=>g (t0::ts) μ2)->
   wpAny (model X.prog X.w) X.A (methodCall o m apos pos X.env u (es.length+([]:List Keyword).length) (backTo pos (starEach es X.env)) (backToKw pos (keywordEach [] X.env))) (EP X pins σ Q) X.xe s1:=λ{ad0 dx gs t0} e1 lk hu hd p2=>by
  subst hu
  unfold methodCall
  rw[hform]
  refine wpAny_bind (wpAny_holding (Zn I1 e1 cl M lk ?_))
  refine wpAny_bind (wpAny_of_eq hpos ?_)
  have d0:=hd α1 H1 (Stp.refl _ _)
  cases es with
  |nil=>
   cases fs with
   |nil=>exact PySem.W.callWith_K0 (first:=[.ref ad0]) I1.kIn M.kp (jz (ts:=[t0]) (us:=[.ref ad0]) (vs:=[.ref ad0]) C Fn hr hb har I1 (.cons rfl .nil) mr1 ⟨_,_,rfl,d0,rfl⟩ p2)
   |cons f fs=>exact ha.elim
  |cons e es=>
   simp only[List.all_cons,Bool.and_eq_true] at hs
   refine PySem.W.callWith_K (first:=[.ref ad0]) (h₀:=X.base) I1.ok.mod.kin M.kp (thn (JG pa I1 sr1 mr1 p2) ?_) (z5 hs.1) (zJ hs.2)
   rintro us s2 ⟨vs,H2,ts,μ2,α2,I2,r2,st2,sr2,mr2,d2,_,p3⟩
   exact⟨I2.kIn,jz (ts:=t0::ts) (us:=.ref ad0::us) (vs:=.ref ad0::vs) C Fn hr hb har I2 (.cons rfl r2) mr2 ⟨_,_,rfl,hd α2 H2 st2,d2⟩ p3⟩
 cases t with
 |obj c' gf=>
  obtain⟨hcc,p2⟩:=Post.grd p1
  subst hcc
  obtain⟨ad0,C1,dx,gs,rfl,n1,n2,ad1,e1,l⟩:=id d1
  rw[ad] at ad1;cases ad1
  exact go e1 (jO hnf l) r1 (λα2 H2 st=>d1.step st) p2
 | «mut» i=>
  obtain⟨gf,hi,p2⟩:=Post.ex1 p1
  obtain⟨ad0,hi',rfl⟩:=id d1
  obtain⟨C1,dx,gs,ad1,e1,l⟩:=mr1.ob i ad0 _ hi' hi
  rw[ad] at ad1;cases ad1
  exact go e1 (jO hnf l) r1 (λα2 H2 st=>d1.step st) p2
 |_=>exact Post.elim p1
end
theorem z07{K:PySem.W.Frag}{A:Ads}{cls fld:List (Str×Nat)}{c:Nat}{C:Addr}(hc:chk K A cls fld=true)(h:A.cs.lookup c=some C):Cls K C:=by
 simp only[chk,Bool.and_eq_true,List.all_eq_true] at hc
 obtain⟨⟨⟨c1,c2⟩,c3⟩,c4⟩:=hc
 have h':=(c3 _ (zE h)).1
 simp only[WO,Bool.and_eq_true] at h'
 obtain⟨⟨⟨⟨h1,h2⟩,h3⟩,h4⟩,h5⟩:=h'
 exact⟨h2,h3,h4,jJ h5⟩
noncomputable def z0r:ER:=λr Γ e=>match e with
 |.Call (.Name x _) es [] _=>gd ((idx Γ.N x).isNone&&Γ.calm) ((cEs r Γ es).bind λfs=>(match Γ.look x with
  |.mk c false g=>some (Xl c g fs)
  |_=>none))
 |_=>none
theorem JT{D:DP}:EOk D z0r:=by
 intro r H X W Γ k e d C h
 unfold z0r at h
 split at h
 ·rename_i x p0 es pos
  have hh:=zj h
  clear h
  obtain⟨hb,h⟩:=hh
  simp only[Bool.and_eq_true] at hb
  obtain⟨fs,h1,h⟩:=bnd h
  cases hl:Γ.look x with
  |mk c b g=>
   cases b with
   |false=>
    simp only[hl] at h
    cases h
    obtain⟨hx,hg⟩:=z_ hl (by intro z;cases z)
    exact Wy C hx hg hb.2 (wd H C h1)
   |true=>simp[hl] at h
  |_=>simp[hl] at h
 ·cases h
noncomputable def dot(m:Str):Str:=⟨#[46]++m.cps⟩
noncomputable def UD:ER:=λr Γ e=>match e with
 |.Call (.Attribute o m pa) es [] pc=>gd (zR o&&pa.endLine == pc.line&&Γ.calm&&decide (es.length<30)&&Γ.U.contains (dot m)) ((r.e Γ o).bind λgo=>(cEs r Γ es).bind λfs=>(match Γ.gl (dot m) with
  |.met c nm g=>gd (nm == m) (some (vL c g go fs))
  |_=>none))
 |_=>none
theorem Kp{D:DP}:EOk D UD:=by
 intro r H X W Γ k e d C h
 unfold UD at h
 split at h
 ·rename_i o m pa es pc
  have hh:=zj h
  clear h
  obtain⟨hb,h⟩:=hh
  simp only[Bool.and_eq_true] at hb
  obtain⟨⟨⟨⟨h0,h2⟩,h3⟩,h4⟩,h5⟩:=hb
  obtain⟨go,h1,h⟩:=bnd h
  obtain⟨fs,h6,h⟩:=bnd h
  cases hl:Γ.gl (dot m) with
  |met c nm g=>
   simp only[hl] at h
   obtain⟨h7,h8⟩:=zj h
   have h7:=beq_iff_eq.mp h7
   subst h7
   cases h8
   exact Xo C (by simpa using h5) hl h3 h0 h2 (of_decide_eq_true h4) (H.e C h1) (wd H C h6)
  |_=>simp[hl] at h
 ·cases h
section
variable {X:Cx}{pins:List (Addr×Obj)}{s:Shared}{σ:St}{H:Hp}
theorem VD{b:Addr}(f:yw X pins H b):XOk X H b/\∀p∈pins,p.1≠b:=
 ⟨⟨f.1,f.2.1,f.2.2.1,f.2.2.2.1.imp id λh=>Heap.get?_none_of_le h,f.2.2.2.2.1,λp hp=>f.2.2.2.2.2 p (List.mem_append_left _ hp)⟩,λp hp=>f.2.2.2.2.2 p (List.mem_append_right _ hp)⟩
end
end NH
namespace L2
open PySem PySem.Spec PyProof.Rows
section
variable {κ:Type}[DecidableEq κ]
noncomputable def vW(kvs:List (κ×V))(k:κ):Option V:=(kvs.find? λkv=>decide (kv.1=k)).map (·.2)
noncomputable def putK(kvs:List (κ×V))(k:κ)(v:V):List (κ×V):=
 if (kvs.any λkv=>decide (kv.1=k))=true then kvs.map (λkv=>if kv.1=k then (kv.1,v) else kv) else kvs++[(k,v)]
theorem vI{p:κ×V}{r:List (κ×V)}{k:κ}(e:p.1=k):vW (p::r) k=some p.2:=by simp[vW,List.find?_cons,e]
theorem vD{p:κ×V}{r:List (κ×V)}{k:κ}(e:¬p.1=k):vW (p::r) k=vW r k:=by simp[vW,List.find?_cons,e]
theorem uG(k:κ):∀kvs:List (κ×V),(kvs.any λkv=>decide (kv.1=k))=(vW kvs k).isSome
 |[]=>rfl
 |p::r=>by
  rw[List.any_cons]
  by_cases e:p.1=k
  ·simp only[vI e,decide_eq_true e,Bool.true_or,Option.isSome_some]
  ·rw[vD e,decide_eq_false e,Bool.false_or];exact uG k r
theorem ji(kvs:List (κ×V))(k:κ)(v:V):(putK kvs k v).length<=kvs.length+1:=by
 unfold putK
 split
 ·rw[List.length_map];omega
 ·rw[List.length_append,List.length_cons,List.length_nil];omega
theorem RelO.isSome_eq{o:Option V}{u:Option Value}(r:RelO o u):o.isSome=u.isSome:=by
 cases o with
 |none=>cases u with
  |none=>rfl
  |some _=>exact (show False from r).elim
 |some _=>cases u with
  |none=>exact (show False from r).elim
  |some _=>rfl
theorem KV.val{kvs:List (κ×V)}{vs:List (κ×Value)}(r:KV kvs vs)(k:κ):RelO (vW kvs k) (valueAt vs k):=by
 unfold KV at r
 induction r with
 |nil=>exact True.intro
 | @cons p q ps qs h t ih=>
  obtain⟨h1,h2⟩:=h
  by_cases e:p.1=k
  ·have e':q.1=k:=h1.symm.trans e
   have b:valueAt (q::qs) k=some q.2:=by simp[valueAt,List.find?_cons,e']
   rw[vI e,b];exact h2
  ·have e':¬q.1=k:=λz=>e (h1.trans z)
   have b:valueAt (q::qs) k=valueAt qs k:=by simp[valueAt,List.find?_cons,e']
   rw[vD e,b];exact ih
theorem KV.any{kvs:List (κ×V)}{vs:List (κ×Value)}(r:KV kvs vs)(k:κ):(kvs.any λkv=>decide (kv.1=k))=vs.any λkv=>decide (kv.1=k):=by
 unfold KV at r
 induction r with
 |nil=>rfl
 |cons h t ih=>rw[List.any_cons,List.any_cons,ih,h.1]
theorem KV.repl{kvs:List (κ×V)}{vs:List (κ×Value)}(r:KV kvs vs)(k:κ){y:V}{u:Value}(ry:RelV y u) :
  KV (kvs.map λkv=>if kv.1=k then (kv.1,y) else kv) (vs.map λkv=>if kv.1=k then (kv.1,u) else kv):=by
 unfold KV at r ⊢
 induction r with
 |nil=>exact .nil
 | @cons p q ps qs h t ih=>
  rw[List.map_cons,List.map_cons]
  refine .cons ?_ ih
  obtain⟨h1,h2⟩:=h
  by_cases e:p.1=k
  ·rw[if_pos e,if_pos (h1.symm.trans e)];exact⟨h1,ry⟩
  ·rw[if_neg e,if_neg (λz=>e (h1.trans z))];exact⟨h1,h2⟩
theorem KV.put{kvs:List (κ×V)}{vs:List (κ×Value)}(r:KV kvs vs)(k:κ){y:V}{u:Value}(ry:RelV y u):KV (putK kvs k y) (stored vs k u):=by
 unfold putK stored
 rw[r.any k]
 by_cases e:(vs.any λkv=>decide (kv.1=k))=true
 ·rw[if_pos e,if_pos e];exact r.repl k ry
 ·rw[if_neg e,if_neg e];exact Paired.snoc r ⟨rfl,ry⟩
theorem KV.length{kvs:List (κ×V)}{vs:List (κ×Value)}(r:KV kvs vs):kvs.length=vs.length:=Paired.length r
end
theorem VR{P:Program}{w:World}{k:Key}{u:Value}(r:RelV (kV k) u):(ze P w).is k u=true:=by
 cases k with
 |inl i=>obtain⟨t,e⟩:=(show ∃t,u=Value.int i t from r);subst e;exact ua P w i t
 |inr x=>obtain⟨t,e⟩:=(show ∃t,u=Value.str x t from r);subst e;exact uE P w x t
theorem vY{P:Program}{w:World}:∀{ks:List Key} {us:List Value},Vals (ks.map kV) us->ItemsAre (ze P w) ks us
 |[],_,r=>by rw[List.map_nil] at r;cases r;exact .nil
 |k::ks,_,r=>by
  rw[List.map_cons] at r
  cases r with
  |cons h t=>exact .cons (VR h) (vY t)
abbrev KT(H:Hp):List (List Key×V)->List (List Key×Addr×Value)->Prop:=Paired λp q=>p.1=q.1/\H q.2.1=some (.tup (p.1.map kV))/\RelV p.2 q.2.2
theorem KT.val{H:Hp}{kvs:List (List Key×V)}{xs:List (List Key×Addr×Value)}(r:KT H kvs xs)(k:List Key):RelO (vW kvs k) ((atKey xs k).map (·.2)):=by
 induction r with
 |nil=>exact True.intro
 | @cons p q ps qs h t ih=>
  obtain⟨h1,_,h2⟩:=h
  by_cases e:p.1=k
  ·have e':q.1=k:=h1.symm.trans e
   have b:atKey (q::qs) k=some q.2:=by simp[atKey,List.find?_cons,e']
   rw[vI e,b];exact h2
  ·have e':¬q.1=k:=λz=>e (h1.trans z)
   have b:atKey (q::qs) k=atKey qs k:=by simp[atKey,List.find?_cons,e']
   rw[vD e,b];exact ih
theorem KT.repl{H:Hp}{kvs:List (List Key×V)}{xs:List (List Key×Addr×Value)}(r:KT H kvs xs)(k:List Key){y:V}{u:Value}(ry:RelV y u) :
  KT H (kvs.map λkv=>if kv.1=k then (kv.1,y) else kv) (xs.map (putAt k u)):=by
 induction r with
 |nil=>exact .nil
 | @cons p q ps qs h t ih=>
  rw[List.map_cons,List.map_cons]
  refine .cons ?_ ih
  obtain⟨h1,h2,h3⟩:=h
  unfold putAt
  by_cases e:p.1=k
  ·rw[if_pos e,if_pos (h1.symm.trans e)];exact⟨h1,h2,ry⟩
  ·rw[if_neg e,if_neg (λz=>e (h1.trans z))];exact⟨h1,h2,h3⟩
theorem KT.put{H:Hp}{kvs:List (List Key×V)}{xs:List (List Key×Addr×Value)}(r:KT H kvs xs)(k:List Key){b:Addr}{y:V}{u:Value}(hb:H b=some (.tup (k.map kV)))(ry:RelV y u) :
  KT H (putK kvs k y) (storedH xs k b u):=by
 have e:(kvs.any λkv=>decide (kv.1=k))=(atKey xs k).isSome:=by
  rw[uG,(r.val k).isSome_eq,Option.isSome_map]
 unfold putK storedH
 rw[e]
 by_cases q:(atKey xs k).isSome=true
 ·rw[if_pos q,if_pos q];exact r.repl k ry
 ·rw[if_neg q,if_neg q];exact Paired.snoc r ⟨rfl,hb,ry⟩
theorem KT.keeps{H H':Hp}{kvs:List (List Key×V)}{xs:List (List Key×Addr×Value)}(r:KT H kvs xs)(ht:∀b ys,H b=some (.tup ys)->H' b=some (.tup ys)):KT H' kvs xs:=
 Paired.mapP r λ_ _ z=>⟨z.1,ht _ _ z.2.1,z.2.2⟩
section
variable {P:Program}{w:World}{H:Hp}{h:Heap}{a:Addr}
theorem X_{u:HO}(ok:HOk P w H h)(e:Rd H a u):ObjOk P w H h a u:=e.ok ok
theorem XG{kvs:List (Key×V)}(ok:HOk P w H h)(e:Rd H a (.dK kvs)):kvs.length<=sizeLine/\(a == sysModules)=false/\∃vs,KV kvs vs/\h.DictOf (ze P w) a vs:=
 show ObjOk P w H h a (.dK kvs) from X_ ok e
theorem z0H{kvs:List (Key×V)}(ok:HOk P w H h)(e:H a=some (.dK kvs)):kvs.length<=sizeLine/\(a == sysModules)=false/\∃vs,KV kvs vs/\h.DictOf (ze P w) a vs:=XG ok (.inl e)
theorem Z3{ks:List Key}(ok:HOk P w H h)(e:H a=some (.tup (ks.map kV))):(tupleKind (ze P w)).is h ks a:=by
 obtain⟨_,its,r,o,h1,h2,n,h3⟩:=(show ObjOk P w H h a (.tup (ks.map kV)) from ok a _ e)
 exact⟨o,its.toArray,n,h1,h2,h3,by simpa using vY r⟩
theorem Y0{kvs:List (List Key×V)}(ok:HOk P w H h)(e:Rd H a (.dT kvs)):kvs.length<=sizeLine/\(a == sysModules)=false/\
  ∃xs,KT H kvs xs/\h.DictOfH (tupleKind (ze P w)) a xs:=by
 obtain⟨z,y,xs,r,o,es,ep,h1,h2,h3,h4,h5⟩:=(show ObjOk P w H h a (.dT kvs) from X_ ok e)
 refine⟨z,y,xs,r,o,es,ep,h1,h2,h3,h4,λx hx=>?_,h5⟩
 have all:∀{l:List (List Key×V)} {m:List (List Key×Addr×Value)},KT H l m->∀x∈m,(tupleKind (ze P w)).is h x.1 x.2.1:=by
  intro l m q
  induction q with
  |nil=>intro x hx;exact nomatch hx
  | @cons p q ps qs hq t ih=>
   intro x hx
   rcases List.mem_cons.mp hx with e|hx
   ·subst e
    exact Z3 ok (by rw[←hq.1];exact hq.2.1)
   ·exact ih x hx
 exact all r x hx
theorem z1C{kvs:List (List Key×V)}(ok:HOk P w H h)(e:H a=some (.dT kvs)):kvs.length<=sizeLine/\(a == sysModules)=false/\
  ∃xs,KT H kvs xs/\h.DictOfH (tupleKind (ze P w)) a xs:=Y0 ok (.inl e)
end
noncomputable def DGet (H:Hp)(a:Addr)(y:V)(r:Option V):Prop:=
 (∃kvs k,Rd H a (.dK kvs)/\y=kV k/\r=vW kvs k)\/∃kvs k b,Rd H a (.dT kvs)/\y=.ref b/\H b=some (.tup (k.map kV))/\r=vW kvs k
noncomputable def DPut (H:Hp)(a:Addr)(y v:V)(H':Hp):Prop:=
 (∃kvs k,H a=some (.dK kvs)/\y=kV k/\kvs.length<sizeLine/\H'=upd H a (.dK (putK kvs k v)))\/
 ∃kvs k b,H a=some (.dT kvs)/\y=.ref b/\H b=some (.tup (k.map kV))/\kvs.length<sizeLine/\H'=upd H a (.dT (putK kvs k v))
theorem DGet.k{H:Hp}{a:Addr}{kvs:List (Key×V)}{k:Key}(e:H a=some (.dK kvs)):DGet H a (kV k) (vW kvs k):=.inl ⟨kvs,k,.inl e,rfl,rfl⟩
theorem DPut.k{H:Hp}{a:Addr}{kvs:List (Key×V)}{k:Key}{v:V}(e:H a=some (.dK kvs))(hl:kvs.length<sizeLine):DPut H a (kV k) v (upd H a (.dK (putK kvs k v))):=.inl ⟨kvs,k,e,rfl,hl,rfl⟩
section
variable {X:Cx}{pins:List (Addr×Obj)}{σ:St}{H:Hp}{s:Shared}{a:Addr}{y v:V}{u r:Value}{o:Option V}{A:Around}{E:Value->Shared->Prop}
theorem Inv.big(I:Inv X pins σ H s):sysModules<s.heap.objs.size:=by
 have h:mainGlobals<s.heap.objs.size:=(I.mod.glob.keeps I.bk).lt
 exact Nat.lt_trans (by decide) h
theorem z28{Q:Value->Shared->Prop}(hu:A.units+1<cLine)(I:Inv X pins σ H s)(g:DGet H a y o)(ry:RelV y u)(h:∀s',Inv X pins σ H s'->Q (.bool o.isSome) s') :
  wpAny (model X.prog X.w) A (compareOp .In u (.ref a)) Q E s:=by
 rcases g with⟨kvs,k,e,ey,l⟩|⟨kvs,k,b,e,ey,eb,l⟩
 ·subst ey
  obtain⟨z,hd,vs,rel,dd⟩:=XG I.hok e
  refine wpAny_in_of (VR ry) hd dd.mapOf ?_
  rw[←(rel.val k).isSome_eq,←l]
  exact h _ (I.tok _)
 ·subst ey
  cases (show u=Value.ref b from ry)
  obtain⟨z,hd,xs,rel,dd⟩:=Y0 I.hok e
  refine wpAny_in_heap (tupleKind_room_in1 hu) (Z3 I.hok eb) hd dd ?_
  have q:=(rel.val k).isSome_eq
  rw[Option.isSome_map] at q
  rw[←q,←l]
  exact h _ (I.tok _)
theorem jA{h':Heap}{t':Nat}{ob:HO}(I:Inv X pins σ H s)(mu:Mut (H a))(hs:Heap.SameBut a s.heap h')(he:∃q,h'.get? a=some q)(new:ObjOk X.prog X.w (upd H a ob) h' a ob) :
  Inv X pins σ (upd H a ob) {s with heap:=h',toks:=t'}:=
 I.write (x:=a) (e:=a) mu (.inl rfl) (λb q hb z=>(hs.2 b hb).trans z) he new
theorem YZ{P:Program}{w:World}{H':Hp}{h':Heap}{kvs:List (Key×V)}{vs:List (Key×Value)}(z:kvs.length<=sizeLine)(hd:(a == sysModules)=false)(rel:KV kvs vs)(dd:h'.DictOf (ze P w) a vs) :
  ObjOk P w H' h' a (.dK kvs):=⟨z,hd,vs,rel,dd⟩
theorem QK{H':Hp}{Q:Unit->Shared->Prop}(hu:A.units+1<cLine)(I:Inv X pins σ H s)(g:DPut H a y v H')(ry:RelV y u)(rv:RelV v r)(h:∀s',Inv X pins σ H' s'->Q () s') :
  wpAny (model X.prog X.w) A (setItem (.ref a) u r) Q E s:=by
 rcases g with⟨kvs,k,e,ey,l,eH⟩|⟨kvs,k,b,e,ey,eb,l,eH⟩
 ·subst ey eH
  obtain⟨z,hd,vs,rel,dd⟩:=z0H I.hok e
  have hz:vs.length<=sizeLine:=by rw[←rel.length];exact z
  have hl:(putK kvs k v).length<=sizeLine:=by have:=ji kvs k v;omega
  refine wpAny_setItem_pairs (hsz:=hz) (VR ry) dd λh' dd' hs=>h _ ?_
  have he:∃q,h'.get? a=some q:=let ⟨q,_,_,hq,_⟩:=dd';⟨q,hq⟩
  exact jA I (by rw[e];exact True.intro) hs he (YZ hl hd (rel.put k rv) dd')
 ·subst ey eH
  cases (show u=Value.ref b from ry)
  obtain⟨z,hd,xs,rel,dd⟩:=z1C I.hok e
  have hz:xs.length<=sizeLine:=by rw[←Paired.length rel];exact z
  have hl:(putK kvs k v).length<=sizeLine:=by have:=ji kvs k v;omega
  refine wpAny_setItem_heap (hsz:=hz) (tupleKind_room_in1 hu) (Z3 I.hok eb) dd λh' dd' hs=>h _ ?_
  obtain⟨q,es,ep,hq,h2,h3,h4,_,h5⟩:=dd'
  refine jA I (by rw[e];exact True.intro) hs ⟨q,hq⟩ ⟨hl,hd,_,(rel.put k eb rv).keeps λc ys ec=>?_,q,es,ep,hq,h2,h3,h4,h5⟩
  rw[z8 (z0N ec e (λz=>nomatch z))]
  exact ec
end
theorem VY{P:Program}{w:World}{H:Hp}(h:Heap)(hb:sysModules<h.objs.size):ObjOk P w H (h.push {cls:=.type "dict",data:=.dict #[]}) h.objs.size (.dK []):=
 ⟨Nat.zero_le _,beq_eq_false_iff_ne.mpr (Ne.symm (Nat.ne_of_lt hb)),[],.nil,Heap.DictOf.new h⟩
noncomputable def Yn:TE:=λ_ H Q=>∀p,H p=none->Q (.ref p) (upd H p (.dK []))
section
variable {X:Cx}{pos:Pos}
theorem Jf:PE X (.Dict [] [] pos) Yn:=λpins s σ H Q I h=>
 wpAny_Dict_empty ⟨.ref s.heap.objs.size,_,I.laid (a:=s.heap.objs.size) (o:=.dK []) (t':=s.toks) (λ_ _ q=>Heap.get?_push_of_some _ q) (Nat.le_refl _) (VY s.heap I.big),rfl,h _ (I.hok.fresh (Nat.le_refl _))⟩
end
structure M1(X:Cx)(o:Expr)(m:Str)(apos:Pos)(e:Expr)(cpos:Pos):Prop where
 base:attributeBase o m X.env (eval o X.env)=eval o X.env
 few:((backTo cpos (starEach [e] X.env)).all (λx=>!x.1)&&(backToKw cpos (keywordEach [] X.env)).all (λx=>x.1.isSome)
  &&decide (([e]:List Expr).length+([]:List Keyword).length+(if ([]:List Keyword).isEmpty then 0 else 1)<30))=true
 line:(apos.endLine == cpos.line)=true
 trees:backTo cpos (starEach [e] X.env)=[(false,eval e X.env)]
end L2
namespace NH
open PySem PySem.Spec PyProof.Rows L2
noncomputable def zO(z:Key):List (Key×T)->Option T
 |[]=>none
 |p::r=>if p.1=z then some p.2 else zO z r
noncomputable def jw (z:Key)(t:T)(kvs:List (Key×T)):List (Key×T):=
 if (kvs.any λkv=>decide (kv.1=z))=true then kvs.map (λkv=>if kv.1=z then (kv.1,t) else kv) else kvs++[(z,t)]
noncomputable abbrev WV:De:=λ_ μ=>.ok (.mut μ.length) (μ++[.dic []])
noncomputable abbrev z1k:De:=λ_ μ=>.ok (.dic []) μ
noncomputable abbrev z2e(o f g:De):De:=λτ μ=>(o τ μ).bind λot μ1=>match ot with
 |.mut i=>λK Z=>(∃ts,μ1[i]?=some (.lst ts))/\f τ μ1 (λkt μ2=>g τ μ2 (λt μ3=>match kt with
  |.int k=>∃ts,μ3[i]?=some (.lst ts)/\(0<=k/\k<=ts.length/\ts.length<room)/\K .non (μ3.set i (.lst (ts.take k.toNat++t::ts.drop k.toNat)))
  |_=>False) Z) Z
 |_=>.st
section
variable {X:Cx}{D:DP}{W:XW}{Γ:Cn}{k:Nat}{pins:List (Addr×Obj)}{s:Shared}{σ:St}{H:Hp}{φ α:List Addr}{τ:Sl}{μ:Mem}{f g:De}{a b:Expr}{pos:Pos}
theorem uy{z:Key}:∀{kvs:List (Key×T)} {gs:List (Key×V)},DenK D φ α H kvs gs->(gs.any λkv=>decide (kv.1=z))=(kvs.any λkv=>decide (kv.1=z))
 |[],_,h=>by cases h;rfl
 |p::r,_,h=>by
  obtain⟨v,q,rfl,d,l⟩:=h
  rw[List.any_cons,List.any_cons,uy l]
theorem jL:∀{kvs:List (Key×T)} {gs:List (Key×V)},DenK D φ α H kvs gs->gs.length=kvs.length
 |[],_,h=>by cases h;rfl
 |p::r,_,h=>by
  obtain⟨v,q,rfl,d,l⟩:=h
  rw[List.length_cons,List.length_cons,jL l]
theorem kC{z:Key}{t:T}{w:V}(dt:Den D φ α H t w):∀{kvs:List (Key×T)} {gs:List (Key×V)},DenK D φ α H kvs gs->DenK D φ α H (kvs.map λkv=>if kv.1=z then (kv.1,t) else kv) (gs.map λkv=>if kv.1=z then (kv.1,w) else kv)
 |[],_,h=>by cases h;rfl
 |p::r,_,h=>by
  obtain⟨v,q,rfl,d,l⟩:=h
  rw[List.map_cons,List.map_cons]
  by_cases e:p.1=z
  ·rw[if_pos e,if_pos (show (p.1,v).1=z from e)];exact⟨w,_,rfl,dt,kC dt l⟩
  ·rw[if_neg e,if_neg (show ¬(p.1,v).1=z from e)];exact⟨v,_,rfl,d,kC dt l⟩
theorem xI{z:Key}{t:T}{w:V}(dt:Den D φ α H t w):∀{kvs:List (Key×T)} {gs:List (Key×V)},DenK D φ α H kvs gs->DenK D φ α H (kvs++[(z,t)]) (gs++[(z,w)])
 |[],_,h=>by cases h;exact⟨w,[],rfl,dt,rfl⟩
 |p::r,_,h=>by
  obtain⟨v,q,rfl,d,l⟩:=h
  exact⟨v,_,rfl,d,xI dt l⟩
theorem uF{z:Key}{t:T}{w:V}{kvs:List (Key×T)}{gs:List (Key×V)}(dt:Den D φ α H t w)(h:DenK D φ α H kvs gs):DenK D φ α H (jw z t kvs) (putK gs z w):=by
 unfold jw putK
 rw[uy h]
 split
 ·exact kC dt h
 ·exact xI dt h
theorem Ke:PE X (.Dict [] [] pos) (rdE D W WV):=by
 refine PE.mono Jf ?_
 rintro σ H Q ⟨φ,α,τ,μ,sr,mr,p⟩
 intro x hx
 refine Post.ok p (qA hx) (mr.layO hx ⟨[],z6,rfl⟩) _ ⟨x,?_,rfl⟩
 rw[←mr.len,List.getElem?_append_right (Nat.le_refl _)];simp
end
noncomputable def z2c:ER:=λ_ _ e=>match e with
 |.Dict [] [] _=>some z1k
 |_=>none
noncomputable def ZI:ER:=λ_ _ e=>match e with
 |.Dict [] [] _=>some WV
 |_=>none
theorem Wh{D:DP}:EOk D ZI:=by
 intro r H X W Γ k e d C h
 unfold ZI at h
 split at h
 ·cases h;exact Ke
 ·cases h
end NH
namespace NH.P
open PySem L2 NH
@[reducible] noncomputable def kT:List Ds:=[(zz (VN (W7 [2] (eV 0)) (Xf (W7 [1] (eV 0)))))]
noncomputable def qa:Fn:=fnW 1 0 kT
@[reducible] noncomputable def jh:List Ds:=[(sIf (tOr (wY (tE (W7 [3] (eV 0)))) (wY (tE (eCh (eC (.int 1)) [(.LtE,(eB1 yE (eV 0))),(.LtE,(eC (.int 8)))])))) [(zz (eC (.bl false)))] []),(zz (eB1 KC (qw 1 [] (.one 0) (iE (eV 0)) [] (zB .In (eV 0) (eC (.str "abcdefghijklmnopqrstuvwxyz"))))))]
noncomputable def qF:Fn:=fnW 1 0 jh
@[reducible] noncomputable def jW:List Ds:=[(sIf (vo (tE (zB .Eq (zb .Mod (eV 0) (eC (.int 2))) (eC (.int 0)))) (tE (zB .Gt (zb .RShift (eV 0) (zb .Add (eC (.int 1)) (zb .Mult (eC (.int 31)) (eV 1)))) (eC (.int 0))))) [(zz (zb .Mod (zb .RShift (eV 0) (zb .Add (eC (.int 1)) (zb .Mult (eC (.int 31)) (eV 1)))) (eC (.int 2147483648))))] []),(zo 2 (zb .Mod (zb .Mult (zb .Mod (zb .Add (zb .Add (eV 0) (zb .Mult (eC (.int 7919)) (eV 1))) (eC (.int 1))) (eC (.int 2147483647))) (eC (.int 48271))) (eC (.int 2147483647)))),(zo 2 (zb .Mod (zb .Mult (eV 2) (zb .Add (zb .FloorDiv (eV 2) (eC (.int 1009))) (eC (.int 69621)))) (eC (.int 2147483647)))),(zz (zb .Mod (zb .Mult (eV 2) (zb .Add (zb .FloorDiv (eV 2) (eC (.int 2003))) (eC (.int 40692)))) (eC (.int 2147483399))))]
noncomputable def zm:Fn:=fnW 2 1 jW
@[reducible] noncomputable def ZR:List Ds:=[(zo 3 (eC (.int 0))),(yl (.one 4) (WR (eC (.int 5))) [(zo 3 (zb .Add (zb .Mult (eV 3) (eC (.int 2147483648))) (z9 zm [(eV 0),(zb .Add (eV 1) (eV 4))])))]),(zz (zb .Mod (eV 3) (eV 2)))]
noncomputable def yW:Fn:=fnW 3 2 ZR
@[reducible] noncomputable def y4:List Ds:=[(zz (VN (z9 qa [(eV 0)]) (zB .GtE (eV 0) (eC (.int 1)))))]
noncomputable def q_:Fn:=fnW 1 0 y4
@[reducible] noncomputable def kP:List Ds:=[(zz (VN (z9 qa [(eV 0)]) (eCh (eC (.int 0)) [(.LtE,(eV 0)),(.Lt,(eV 1))])))]
noncomputable def qH:Fn:=fnW 2 0 kP
@[reducible] noncomputable def vF:List Ds:=[(sIf (wY (vo (tE (z9 q_ [(eV 1)])) (vo (tE (z9 q_ [(eV 2)])) (tE (z9 q_ [(eV 3)]))))) [(qp 12 [(eC (.str "a shape has three whole numbers from 1 on"))])] []),(wZ (eV 0) 0 (eV 1)),(wZ (eV 0) 1 (eV 2)),(wZ (eV 0) 2 (eV 3))]
noncomputable def wa:Fn:=fnW 4 0 vF
@[reducible] noncomputable def jd:List Ds:=[(sIf (tE (zB .Lt (eV 1) (eB1 yE (eV 0)))) [(zz (eIx (eV 0) (eV 1)))] []),(zz (eC (.int 0)))]
noncomputable def wC:Fn:=fnW 2 0 jd
end NH.P
namespace NH
open PySem PySem.Spec PyProof.Rows L2
section
variable {X:Cx}{D:DP}{W:XW}{Γ:Cn}{k:Nat}{pins:List (Addr×Obj)}{s:Shared}{σ:St}{H:Hp}{φ α:List Addr}{τ:Sl}{μ:Mem}{fs:List De}{a b c:Expr}{pos:Pos}{es:List Expr}
noncomputable def z17(m:Str):Str:=⟨#[33]++m.cps⟩
end
section
variable {X:Cx}{D:DP}{W:XW}{Γ:Cn}{k:Nat}{pins:List (Addr×Obj)}{s:Shared}{σ:St}{H:Hp}{φ α:List Addr}{τ:Sl}{μ:Mem}
theorem vq{q:Addr}{o:Obj}(I:Inv X pins σ H s)(h1:s.heap.get? q=some o)(h2:H q=none)(h3:q≠X.env.locals)(h4:q∉X.fs)(h5:∀v,o.data≠.cell v):Inv X ((q,o)::pins) σ H s:=
 ⟨I.ok,I.os,I.bare,I.base,I.loc,I.cell,I.free,I.freeC,λp hp=>by
  rcases List.mem_append.mp hp with z|z
  ·exact I.pin p (List.mem_append_left _ z)
  ·rcases List.mem_cons.mp z with rfl|z
   ·exact⟨h1,h2,h3,h4,h5⟩
   ·exact I.pin p (List.mem_append_right _ z),I.hok,I.len⟩
theorem ql{p:Addr×Obj}(I:Inv X (p::pins) σ H s):Inv X pins σ H s:=
 ⟨I.ok,I.os,I.bare,I.base,I.loc,I.cell,I.free,I.freeC,λp hp=>by
  rcases List.mem_append.mp hp with z|z
  ·exact I.pin p (List.mem_append_left _ z)
  ·exact I.pin p (List.mem_append_right _ (List.mem_cons_of_mem _ z)),I.hok,I.len⟩
theorem QB{P:Program}{w:World}{H:Hp}{h:Heap}{c:Addr}{qn:Str}(r:h.CodeRec (.ref c) qn):ObjOk P w H h c (.ext (qY c qn)):=by
 obtain⟨c',oc,vs,tq,e1,e2,e3,e4⟩:=id r
 cases e1
 refine⟨r,⟨oc,e2⟩,λh1 h2 p kk=>?_⟩
 obtain⟨c',oc,vs,tq,e1,e2,e3,e4⟩:=p
 cases e1
 exact⟨c,oc,vs,tq,rfl,kk _ e2,e3,e4⟩
theorem vC{a b c:Value}:∀(l:List Value),TriplesOk l->∀{x y:Int} {t u:Tok},TriplesOk (l++[.int x t,.int y u,c])
 |[],_,_,_,_,_=>trivial
 |[_],h,_,_,_,_=>by simp[TriplesOk] at h
 |[_,_],h,_,_,_,_=>by simp[TriplesOk] at h
 |p::q::r::l,h,x,y,t,u=>by
  cases p with
  |int _ _=>
   cases q with
   |int _ _=>exact vC (a:=a) (b:=b) l h
   |_=>exact h.elim
  |_=>exact h.elim
theorem ZF{pos p:Pos}{c:Value}:∀(l:List Value),TriplesOk l->codeAmong pos l=none->codeAmong p (l++[rawInt pos.line,rawInt pos.col,c])=some c\/codeAmong p (l++[rawInt pos.line,rawInt pos.col,c])=codeAmong p l:=by
 intro l h hn
 fun_induction TriplesOk l with
 |case1=>
  by_cases q:((pos.line:Int) == (p.line:Int)&&(pos.col:Int) == (p.col:Int))=true
  ·left;simp only[List.nil_append,codeAmong,rawInt];rw[if_pos q]
  ·right;simp only[List.nil_append,codeAmong,rawInt];rw[if_neg q]
 |case2 a t b u x rest ih=>
  simp only[List.cons_append,codeAmong] at hn ⊢
  split at hn
  ·cases hn
  ·split
   ·exact .inr rfl
   ·exact ih h hn
 |case3 l h1 h2=>exact h.elim
theorem Jz{params:Arguments}{body:Expr}{scope:Scope}{pos:Pos}{line i j:Nat}{qn:Str}{c P:Addr}{Q:Value->Shared->Prop}(I:Inv X pins σ H s)(mr:MRel D φ α H μ)(hi:μ[i]?=some (.tab j)){poss:List Pos}(hD:D.tabs j=some (P,poss,qn))(hpp:pos∈poss)
  (hcode:X.env.code=.ref c) (hC:PySem.W.CodeHd X.base c P) (hB:X.base.BuiltinsAt X.mg P) {cl:List (Str×Addr)} (hcl:closureFor scope X.env=pure cl)
  (h:∀q c' ctv H' s',Inv X ((q,PySem.W.kla_obj "<lambda>" qn params body scope cl ((X.mg "__name__").getD .none) c' ctv)::pins) σ H' s'->Stp α H α H'->MRel D φ α H' μ->c'∉α->H' c'=some (.ext (qY c' qn))->(c'∉φ/\XOk X H' q/\∀p∈pins,p.1≠q)->Q (.ref q) s') :
  wpAny (model X.prog X.w) X.A (makeFunction "<lambda>" qn params (.expr body) scope X.env [] [] [] pos line) Q X.xe s:=by
 have hia:∃a,α[i]?=some a:=⟨_,List.getElem?_eq_getElem (by rw[mr.len];exact (List.getElem?_eq_some_iff.mp hi).1)⟩
 obtain⟨a,ha⟩:=hia
 obtain⟨pos',qn',ps,hD',hH,htr,hall⟩:=mr.ob i a _ ha hi
 rw[hD] at hD'
 cases hD'
 have hcase:=hall pos hpp
 have hP:s.heap.get? P=some (PySem.W.tabObj ps):=I.hok P _ hH
 have hg:s.heap.Ns mainGlobals X.mg:=I.ok.mod.glob.keeps I.bk
 have hCs:PySem.W.CodeHd s.heap c P:=hC.keeps I.bk
 have hBs:s.heap.BuiltinsAt X.mg P:=by
  obtain⟨bm,o,b1,b2,b3,b4,b5,b6⟩:=hB
  exact⟨bm,o,b1,b2,b3,b4,I.bk _ _ b5,b6⟩
 have hPa:P∈α:=List.mem_of_getElem? ha
 have nL:X.env.locals≠P:=λz=>by have:=I.free;rw[z,hH] at this;cases this
 rcases hcase with hmiss|⟨c',hhit,n1,n2,hc'⟩
 ·have hgP:mainGlobals≠P:=λz=>by
   obtain⟨o,es,ep,e,hd,_⟩:=hg
   rw[z,hP] at e;cases e;cases hd
  refine PySem.W.kla_makeFunction (mg:=X.mg) hcl I.ok.glob hg hcode hCs hP htr hmiss hgP hBs λc' ctv h' tk hx hge hlt hrec htb=>?_
  have hc0:H c'=none:=I.hok.fresh hge
  have hcP:c'≠P:=λz=>by rw[z,hH] at hc0;cases hc0
  have lt_of:∀{b o},s.heap.get? b=some o->b≠c':=λ{b o} e z=>absurd (Nat.lt_of_lt_of_le (Heap.lt_size e) hge) (by rw[z];exact Nat.lt_irrefl _)
  generalize hH':upd (upd H c' (.ext (qY c' qn))) P (.tbl (ps++#[rawInt pos.line,rawInt pos.col,.ref c']))=H'
  have HP:H' P=some (.tbl (ps++#[rawInt pos.line,rawInt pos.col,.ref c'])):=by rw[←hH'];exact z6
  have Hc:H' c'=some (.ext (qY c' qn)):=by rw[←hH',z8 hcP];exact z6
  have Ho:∀b,b≠P->b≠c'->H' b=H b:=λb h1 h2=>by rw[←hH',z8 h1,z8 h2]
  have Hs:∀b o,b≠P->H b=some o->H' b=some o:=λb o h1 e=>by rw[Ho b h1 (zv e hc0)];exact e
  have rec2:(h'.push (PySem.W.kla_obj "<lambda>" qn params body scope cl ((X.mg "__name__").getD .none) c' ctv)).CodeRec (.ref c') qn:=by
   obtain⟨c2,oc,vs,tq,e1,e2,e3⟩:=hrec
   exact⟨c2,oc,vs,tq,e1,Heap.get?_push_of_some _ e2,e3⟩
  have J:Inv X pins σ H' {s with heap:=h'.push (PySem.W.kla_obj "<lambda>" qn params body scope cl ((X.mg "__name__").getD .none) c' ctv),toks:=tk}:=by
   refine I.step (g':=s.gens) (d':=s.drawn) (ch:=[]) (λ_ z=>nomatch z) (λb o _ _ _ e n=>?_) (λb o _ _ _ e n=>⟨o.slots,?_⟩) (λb o _ e n=>?_) (λb o _ e=>?_) (λb xs e=>?_) (λb o u e=>?_) (λb qs e=>?_) (λm hm=>?_) (λb u e=>?_) I.bare
   ·exact Heap.get?_push_of_some _ (hx b o (λz=>by rw[z,hH] at n;cases n) e)
   ·exact Heap.get?_push_of_some _ (hx b o (λz=>by rw[z,hH] at n;cases n) e)
   ·rw[Ho b (λz=>by rw[z,hH] at n;cases n) (lt_of e)];exact n
   ·by_cases z:b=P
    ·rw[z];exact⟨_,Heap.get?_push_of_some _ htb⟩
    ·exact⟨o,Heap.get?_push_of_some _ (hx b o z e)⟩
   ·exact Hs b _ (λz=>by rw[z,hH] at e;cases e) e
   ·exact Hs b _ (λz=>by rw[z,hH] at e;cases e) e
   ·by_cases z:b=P
    ·rw[z,hH] at e;cases e;rw[z];exact⟨_,HP⟩
    ·exact⟨#[],by rw[Hs b _ z e];simp⟩
   ·exact (hm.extBut hx nL).push _
   ·by_cases z:b=P
    ·subst z
     rw[HP] at e;cases e
     exact Heap.get?_push_of_some _ htb
    ·by_cases z2:b=c'
     ·subst z2
      rw[Hc] at e;cases e
      exact QB rec2
     ·rw[Ho b z z2] at e
      refine (I.hok b u e).stay (λc v hc q=>?_) (λc q=>?_) λc xs q=>?_
      ·refine Heap.get?_push_of_some _ (hx c v (λw=>?_) q)
       rcases hc with hc|hc
       ·exact z (hc▸w)
       ·rw[w,hH] at hc;cases hc
      ·exact Hs c _ (λw=>by rw[w,hH] at q;cases q) q
      ·exact Hs c _ (λw=>by rw[w,hH] at q;cases q) q
  have fresh:s.heap.objs.size<=h'.objs.size:=Nat.le_of_lt (Nat.lt_of_le_of_lt hge hlt)
  have hqP:h'.objs.size≠P:=λz=>absurd (Heap.lt_size htb) (by rw[←z];exact Nat.lt_irrefl _)
  have hqc:h'.objs.size≠c':=Nat.ne_of_gt hlt
  have nq:H' h'.objs.size=none:=by rw[Ho _ hqP hqc];exact I.hok.fresh fresh
  have st:Stp α H α H':=⟨⟨[],by simp,by simp⟩,λb o n e=>Hs b o (λz=>n (z▸hPa)) e,λb e=>by
   by_cases z:b=P
   ·rw[z,HP] at e;cases e
   ·by_cases z2:b=c'
    ·rw[z2];exact hc0
    ·rw[Ho b z z2] at e;exact e⟩
  refine h h'.objs.size c' ctv H' _ (vq J (Heap.get?_push_size _ rfl) nq (Nat.ne_of_gt (Nat.lt_of_lt_of_le I.lt fresh)) (I.nofs fresh) (λv z=>by cases z)) st ?_ (zh mr hc0) Hc ⟨zi mr hc0,VD (I.fpOk fresh nq)⟩
  refine⟨mr.len,mr.nd,mr.dis,λb hb=>?_,λi' a' o' e1 e2=>?_⟩
  ·obtain⟨u,hu,n⟩:=mr.phi b hb
   exact⟨u,st.keep b u (λz=>mr.dis b z hb) hu,n⟩
  ·by_cases z:i'=i
   ·subst z
    rw[ha] at e1;cases e1
    rw[hi] at e2;cases e2
    refine⟨poss,qn,_,hD,HP,?_,λp2 hp2=>?_⟩
    ·rw[Array.toList_append]
     exact vC (a:=.none) (b:=.none) _ htr
    ·rw[Array.toList_append]
     rcases ZF (p:=p2) (c:=.ref c') _ htr hmiss with w|w
     ·exact .inr ⟨c',w,zi mr hc0,zh mr hc0,Hc⟩
     ·rw[show (#[rawInt pos.line,rawInt pos.col,.ref c']:Array Value).toList=[rawInt pos.line,rawInt pos.col,.ref c'] from rfl,w]
      refine (hall p2 hp2).imp id λ⟨c2,k1,k2,k3,k4⟩=>⟨c2,k1,k2,k3,?_⟩
      exact Hs c2 _ (λz=>k3 (z▸hPa)) k4
   ·have ne:a'≠P:=λw=>by
     obtain⟨q1,q2⟩:=List.getElem?_eq_some_iff.mp e1
     obtain⟨q3,q4⟩:=List.getElem?_eq_some_iff.mp ha
     exact z ((List.getElem_inj mr.nd).mp (q2.trans (w.trans q4.symm)))
    have d:=mr.ob i' a' o' e1 e2
    obtain⟨u,hu,_⟩:=d.some
    exact DenO.step st ((Hs a' u ne hu).trans hu.symm) d
 ·refine PySem.W.kla_makeFunctionHit (mg:=X.mg) hcl I.ok.glob hg hcode hCs hP htr hhit hBs λctv h' tk hk hsz=>?_
  have J:Inv X pins σ H {s with heap:=h'.push (PySem.W.kla_obj "<lambda>" qn params body scope cl ((X.mg "__name__").getD .none) c' ctv),toks:=tk}:=I.kept λb u e=>Heap.get?_push_of_some _ (hk b u e)
  exact h h'.objs.size c' ctv H _ (vq J (Heap.get?_push_size _ rfl) (I.hok.fresh hsz) (Nat.ne_of_gt (Nat.lt_of_lt_of_le I.lt hsz)) (I.nofs hsz) (λv z=>by cases z)) (Stp.refl _ _) mr n2 hc' ⟨n1,VD (I.fpOk hsz (I.hok.fresh hsz))⟩
end
section
variable {X:Cx}{D:DP}{W:XW}{Γ:Cn}{k n:Nat}
noncomputable abbrev vK(Γ:Cn)(x:Str)(G:List Str):Cn:={Γ with N:=[x],G:=G,U:=G,cel:=[],own:=[],lam:=none,fz:=[]}
noncomputable def Wz:GM->Bool
 |.cst _=>true
 |.none=>true
 |.xcl _=>true
 |_=>false
theorem GlOkM.lvl{D:DP}{P:Program}{w:World}{K:PySem.W.Frag}{mg:Str->Option Value}{base:Heap}{j k:Nat}{x:Str}{g:GM}(h:Wz g=true)(q:GlOkM D P w K mg base j x g):GlOkM D P w K mg base k x g:=by
 cases g<;>first|exact q|cases h
theorem V_{k0:Nat}{q c':Addr}{x:Str}{G:List Str}{params:Arguments}{body:Expr}{scope:Scope}{qn:Str}{pm ctv u:Value}{g:De}{A:Around}{outer:List Env}{s:Shared}{H:Hp}{v:V}{t:T}{φ α:List Addr}{μ:Mem}{Q:VK}
    (C:Ck D W Γ X k) (hc:Γ.calm=true) (hG:G.all (λy=>Γ.U.contains y&&Wz (Γ.gl y))=true) (hs:j4 (vK Γ x G) [x] scope=true) (hE:∀Y W k,Ck D W (vK Γ x G) Y k->PE Y body (rdE D W g)) (hbind:∀(s:Shared) (u:Value),BindsTo s (PySem.W.kla_fn "<lambda>" qn params body scope [] pm (.ref c') ctv) ⟨[u],[]⟩ [(x,u)])
    (hr:Room (k0+1) A) (e0:Env0 X.prog X.w X.K X.mg X.base A outer s H) (ho:s.heap.get? q=some (PySem.W.kla_obj "<lambda>" qn params body scope [] pm c' ctv)) (hrec:s.heap.CodeRec (.ref c') qn) (r:RelV v u) (d:Den D φ α H t v) (mr:MRel D φ α H μ)
    {K0:T->Mem->Prop} (p:g [some t] μ K0 (λ_ _ _=>False)) (hK0:∀t' μ',K0 t' μ'->∀α' H' v',Stp α H α' H'->MRel D φ α' H' μ'->Den D φ α' H' t' v'->Q v' H') :
    codeAny (model X.prog X.w) A (.call (.ref q) ⟨[u],[]⟩) (CR (λ_ _ _ _ _ _=>False) outer X.prog X.w H s Q (λ_ _ _=>False)) s:=by
  simp only[j4,Bool.and_eq_true,List.all_eq_true,beq_iff_eq,Bool.not_eq_true',decide_eq_true_eq,bne_iff_ne,ne_eq] at hs
  obtain⟨⟨⟨⟨⟨⟨⟨⟨⟨h1,h2⟩,h3⟩,h4⟩,h5⟩,h6⟩,h7⟩,h8⟩,h9⟩,h10⟩:=hs
  have loc:∀y∈[x],scope.names.lookup y=some .local:=λy hy=>by
    have:=(h7 y hy).2
    simpa using this
  have S:FnScope [x] [x] scope:=⟨h1,h2,h3,h4,rfl,λy hy=>.inl (loc y hy),h6⟩
  have lim:s.heap.NoLimit:=e0.mod.nolimit.keeps λb o e=>(e0.bs b o e).1
  refine PySem.W.kla_callFunE (fd:=PySem.W.kla_fn "<lambda>" qn params body scope [] pm (.ref c') ctv) hr.depth ho rfl S.co S.gen rfl hrec (hbind s u _ _ _ _ (wpAny_newFunctionEnv_cells S.kind (λy hy=>?_) λenv he s1 y=>?_))
  · obtain ⟨y,w⟩ := y
    have:y=x:=by simpa using congrArg Prod.fst (List.mem_singleton.mp hy)
    subst this
    exact .inl (loc y (by simp))
  subst he
  refine⟨lim.keeps y.toInCall.keep,PySem.W.kla_codeExpr ?_⟩
  have I0:=yc (fnb:=λ_=>true) (CX:=λ_ _ _ _ _ _=>False) (E:=λ_ _ _=>False) (f:=q) (cd:=.ref c') (qual:=qn) (A:=A) (vs:=[v]) (us:=[u]) S hr.hd e0 rfl (.cons r .nil) y
  generalize hX:({Zv (λ_ _ _ _ _ _=>False) X.prog X.w X.K X.mg X.base [x] qn scope q (.ref c') A outer s H (λ_ _ _=>False) with xe:=λ_ _=>False}:Cx)=Y
  have I:Inv Y [] (start [x] [v]) H s1:=by
    subst hX
    exact⟨⟨I0.ok.mod,I0.ok.kind,I0.ok.glob,I0.ok.blt,I0.ok.above,I0.ok.inj,I0.ok.has,I0.ok.cab,I0.ok.hd,I0.ok.frames,I0.ok.stk,I0.ok.exf,I0.ok.bs,I0.ok.bsz,I0.ok.noex,I0.ok.exfs,I0.ok.funs,I0.ok.frf⟩,I0.os,I0.bare,I0.base,I0.loc,I0.cell,I0.free,I0.freeC,I0.pin,I0.hok,I0.len⟩
  have F:Frm Y (envOfC qn scope s.heap.objs.size q (.ref c')) outer s.heap.objs.size:=by rw[←hX];exact⟨rfl,rfl,rfl⟩
  have hr':=hr.deeper (envOfC qn scope s.heap.objs.size q (.ref c'))
  have C2:Ck D noW (vK Γ x G) Y k0:=by
    subst hX
    have gl0:∀y∈G,GlOkM D X.prog X.w X.K X.mg X.base k0 y (Γ.gl y)/\(y == ("__debug__":Str))=false:=λy hy=>by
      have h:=List.all_eq_true.mp hG y hy
      simp only[Bool.and_eq_true] at h
      have q:=C.glU y (by simpa using h.1)
      exact⟨GlOkM.lvl h.2 q.1,q.2⟩
    exact { hK := C.hK,hN := rfl,nd := h4,vis := fun y hy => .inl (loc y hy),dbg := fun y hy => ⟨beq_eq_false_iff_ne.mpr (h7 y hy).1.1,beq_eq_false_iff_ne.mpr (h7 y hy).1.2⟩,
            dbG:=λy hy=>(gl0 y hy).2,glb:=λy hy=>(h8 y hy).2,glo:=λy hy=>(gl0 y hy).1,glU:=gl0,
            cel:=λy hy=>absurd hy (by simp),isi:=C.isi,fld:=C.fld,xcx:=C.xcx,ocx:=C.ocx,clv:=C.clv,clm:=λ_=>rfl,rom:=λ_=>hr',rmh:=⟨hr'.dp,hr'.un⟩,xe:=(λe s p=>by obtain⟨_,_,_,_,_,_,_,_,_,_,_,_,_,z⟩:=p;exact z),frm:=⟨_,_,_,F.stk,F.f0,F.fe⟩,lam:=LamOk.no rfl,kfz:=(λh=>by cases h)}
  have sr:SRel D φ α H [some t] (start [x] [v]):=⟨rfl,λi t' e=>by
    cases i with
    | zero => have : t = t' := by simpa using e
              subst this
              exact⟨v,rfl,d⟩
    |succ i=>simp at e⟩
  have B:=hE Y noW k0 C2 [] s1 _ H Q I ⟨φ,α,[some t],μ,sr,mr,_,_,p,λa μ' e α' H' st m v' dv=>hK0 a μ' e α' H' v' st m dv,λ_ _ _ z=>z.elim⟩
  have XA:Y.A=A.deeper (envOfC qn scope s.heap.objs.size q (.ref c')):=by rw[←hX];rfl
  have Xp:Y.prog=X.prog/\Y.w=X.w/\Y.env=envOfC qn scope s.heap.objs.size q (.ref c')/\(∀e s,Y.xe e s->False)/\Y.fs=frs outer/\Y.H₀=H/\Y.s₀=s/\Y.ex=[]:=by
    subst hX;exact⟨rfl,rfl,rfl,λ_ _ z=>z,rfl,rfl,rfl,rfl⟩
  obtain⟨x1,x2,x3,x4,x5,x6,x7,x8⟩:=Xp
  rw[XA,x1,x2,x3] at B
  refine wpAny_mono B (λw s' hs=>?_) λe s' z=>(x4 e s' z).elim
  obtain⟨v',H',J,rv,q'⟩:=hs
  have b:=J.base
  have o:=J.os
  have hk:=J.hok
  rw[x5,x6,x7,x8] at b
  rw[x7] at o
  rw[x1,x2] at hk
  exact⟨v',H',o,J.bare,b,hk,rv,q'⟩
end
section
variable {prog:Program}{w:World}{A:Around}{E:Value->Shared->Prop}{s:Shared}{a:Addr}{vs:List Value}{kz:List Int}{P:PySem.Fin->Shared->Prop}{J:Shared->Prop}{f:Value}{z0:Nat}
structure Keeps(J:Shared->Prop)(a kS:Addr):Prop where
 set:∀s' b h' tk,J s'->(b=a\/b=kS)->Heap.SameBut b s'.heap h'->J {s' with heap:=h',toks:=tk}
 push:∀s' o,J s'->J {s' with heap:=s'.heap.push o}
theorem Q4 {keys:Array Value} {e e1:Nat} {kS:Addr} {st:SortSt} (KJ:Keeps J a kS) (hJ:J s) (nk:s.heap.get? kS=some (seqObj "list" keys e)) (na:s.heap.get? a=some (seqObj "list" #[] e1)) (hka:kS≠a)
  (hk:IntsAre keys.toList kz) (hlen:kz.length=vs.length) (h64:vs.length<64) (hp:(arrOf st).Perm (keys.zip vs.toArray)) (hs:SortedTo (arrOf st) (arrOf st).size) (hfl:failedOf st=none)
  (h:∀s' out c,J s'->s'.heap.get? a=some (seqObj "list" out c)->KskOut false kz vs out.toList->P (.done (.ret .none)) s') :
  wpAny (model prog w) A (ksk_tail a false e1 (.ref kS) st) P E s:=by
 have hsz:keys.size=vs.length:=by
  have h1:=hk.length
  rw[Array.length_toList] at h1
  omega
 have hsz2:(arrOf st).size=vs.length:=by rw[hp.size_eq,Array.size_zip,hsz,List.size_toArray,Nat.min_self]
 have hout:((arrOf st).map (·.2)).size=vs.length:=by rw[Array.size_map];exact hsz2
 have s1:=Heap.SameBut.update s.heap kS (Obj.mapSeq λ_=>(#[]:Array Value))
 have na1:=(s1.2 a hka.symm).trans na
 have s2:=Heap.SameBut.update (s.heap.update kS (Obj.mapSeq λ_=>(#[]:Array Value))) a (Obj.mapSeq λ_=>(arrOf st).map (·.2))
 obtain⟨c2,hc2⟩:∃c2,((s.heap.update kS (Obj.mapSeq λ_=>(#[]:Array Value))).update a (Obj.mapSeq λ_=>(arrOf st).map (·.2))).get? a=some (seqObj "list" ((arrOf st).map (·.2)) c2):=⟨_,get?_update_seq na1 λ_=>(arrOf st).map (·.2)⟩
 unfold ksk_tail
 dsimp only
 refine wpAny_bind (listUpdate_at nk rfl ?_ (by rw[hsz,sizeLine_eq];omega) (Nat.zero_le _))
 refine wpAny_bind (wpAny_letGo ?_)
 refine wpAny_bind (seqEpoch_at na1 rfl ?_)
 refine wpAny_bind (listUpdate_at na1 rfl ?_ (Nat.zero_le _) (Nat.le_trans (Nat.le_of_eq hout) (by rw[sizeLine_eq];omega)))
 rw[hfl]
 simp only[bne_self_eq_false,Bool.false_eq_true,if_false]
 have J1:=KJ.set s kS _ s.toks hJ (.inr rfl) s1
 have J2:=KJ.set _ a _ s.toks J1 (.inl rfl) s2
 refine wpAny_pure (h _ _ c2 J2 hc2 ?_)
 have:=ksk_out (b:=false) hk hp hs
 simpa using this
theorem Ue {keys:Array Value} {e e1:Nat} {kS:Addr} (KJ:Keeps J a kS) (hJ:J s) (nk:s.heap.get? kS=some (seqObj "list" keys e)) (na:s.heap.get? a=some (seqObj "list" #[] e1)) (hka:kS≠a)
  (hk:IntsAre keys.toList kz) (hlen:kz.length=vs.length) (h64:vs.length<64)
  (h:∀s' out c,J s'->s'.heap.get? a=some (seqObj "list" out c)->KskOut false kz vs out.toList->P (.done (.ret .none)) s') :
  wpAny (model prog w) A (ksk_end a false vs.toArray e1 (.ref kS) keys) P E s:=by
 have hsz:keys.size=vs.length:=by
  have h1:=hk.length
  rw[Array.length_toList] at h1
  omega
 have hzs:(keys.zip vs.toArray).size=vs.length:=by rw[Array.size_zip,hsz,List.size_toArray,Nat.min_self]
 unfold ksk_end
 simp only[Bool.false_eq_true,if_false]
 by_cases h2:vs.toArray.size<2
 ·rw[if_pos h2,if_pos h2]
  refine wpAny_bind (wpAny_pure ?_)
  rw[StateT.run_pure]
  refine wpAny_bind (wpAny_pure ?_)
  refine Q4 (st:=SortSt.mk' general' (keys.zip vs.toArray) #[] 7 none) KJ hJ nk na hka hk hlen h64 (Array.Perm.refl _) ?_ rfl h
  intro i j hij hj
  have hj2:j<(keys.zip vs.toArray).size:=hj
  rw[hzs] at hj2
  rw[List.size_toArray] at h2
  have:i=j:=by omega
  subst this
  exact Int.le_refl _
 ·rw[if_neg h2,if_neg h2]
  rw[List.size_toArray] at h2
  rw[ksk_kind hk (by rw[hsz];omega)]
  refine wpAny_bind (wpAny_pure ?_)
  refine wpAny_bind (wpAny_mono (wpS_sortRuns (a₀:=keys.zip vs.toArray) (st:=SortSt.mk' oneType' (keys.zip vs.toArray) #[] 7 none)
   (Q:=λ_ st'=>(arrOf st').Perm (keys.zip vs.toArray)/\failedOf st'=none/\SortedTo (arrOf st') (keys.zip vs.toArray).size)
   (ksk_intKeys hk) ⟨Array.Perm.refl _,rfl,rfl,rfl⟩ (by rw[hzs];omega) (by rw[hzs];exact h64) λst' a1 a2 a3=>⟨a1,a2,a3⟩) ?_ λ_ _ e=>e)
  rintro⟨⟨⟩,st'⟩ s' ⟨rfl,hp,hf,hs⟩
  exact Q4 KJ hJ nk na hka hk hlen h64 hp (by rw[hp.size_eq];exact hs) hf h
theorem Kg {n:Nat} (KJ:Keeps J a (s.heap.objs.size+1)) (hJ:J s) (ho:s.heap.get? a=some (seqObj "list" vs.toArray n)) (hlen:kz.length=vs.length) (h64:vs.length<64)
  (turn:∀(i:Nat) (v:Value) (k:Int) (s':Shared) (ka:Array Value) (ca ck:Nat),vs[i]?=some v->kz[i]?=some k->J s'->s'.heap.get? a=some (seqObj "list" #[] ca)->s'.heap.get? (s.heap.objs.size+1)=some (seqObj "list" ka ck)->
   wpAny (model prog w) A (call f [v]) (λr s2=>(∃t2,r=.int k t2)/\J s2/\s2.heap.get? a=some (seqObj "list" #[] ca)/\s2.heap.get? (s.heap.objs.size+1)=some (seqObj "list" ka ck)) (λ_ _=>False) s')
  (h:∀s' out c,J s'->s'.heap.get? a=some (seqObj "list" out c)->KskOut false kz vs out.toList->P (.done (.ret .none)) s') :
  wpAny (model prog w) A (ksk_tree a f false) P E s:=by
 have ha:a<s.heap.objs.size:=Heap.lt_size ho
 have s1:=Heap.SameBut.update s.heap a (Obj.mapSeq λ_=>(#[]:Array Value))
 obtain⟨e1,ho1⟩:∃e1,(s.heap.update a (Obj.mapSeq λ_=>(#[]:Array Value))).get? a=some (seqObj "list" #[] e1):=⟨_,get?_update_seq ho λ_=>#[]⟩
 unfold ksk_tree
 refine wpAny_bind (listItems_at ho rfl ?_)
 refine wpAny_bind (listUpdate_at ho rfl ?_ (by rw[List.size_toArray,sizeLine_eq];omega) (Nat.zero_le _))
 refine wpAny_bind (seqEpoch_at ho1 rfl ?_)
 refine wpAny_bind (wpAny_newTuple ?_ (by show vs.length<=_;rw[sizeLine_eq];omega))
 refine wpAny_bind (wpAny_newList ?_ (Nat.zero_le _))
 refine wpAny_holding ?_
 have hu:(s.heap.update a (Obj.mapSeq λ_=>(#[]:Array Value))).objs.size=s.heap.objs.size:=Heap.size_update ..
 have J1:=KJ.set s a _ s.toks hJ (.inl rfl) s1
 have J2:=KJ.push _ (seqObj "tuple" vs.toArray 0) J1
 have hz2:((s.heap.update a (Obj.mapSeq λ_=>(#[]:Array Value))).push (seqObj "tuple" vs.toArray 0)).objs.size=s.heap.objs.size+1:=by rw[Heap.size_push,hu]
 have J3:=KJ.push _ (seqObj "list" #[] 0) J2
 have g3:(((s.heap.update a (Obj.mapSeq λ_=>(#[]:Array Value))).push (seqObj "tuple" vs.toArray 0)).push (seqObj "list" #[] 0)).get? a=some (seqObj "list" #[] e1):=Heap.get?_push_of_some _ (Heap.get?_push_of_some _ ho1)
 have gk:(((s.heap.update a (Obj.mapSeq λ_=>(#[]:Array Value))).push (seqObj "tuple" vs.toArray 0)).push (seqObj "list" #[] 0)).get? ((s.heap.update a (Obj.mapSeq λ_=>(#[]:Array Value))).push (seqObj "tuple" vs.toArray 0)).objs.size=some (seqObj "list" #[] 0):=Heap.get?_push_size _ rfl
 have hka:((s.heap.update a (Obj.mapSeq λ_=>(#[]:Array Value))).push (seqObj "tuple" vs.toArray 0)).objs.size≠a:=by rw[hz2];exact Nat.ne_of_gt (Nat.lt_succ_of_lt ha)
 generalize hkS:((s.heap.update a (Obj.mapSeq λ_=>(#[]:Array Value))).push (seqObj "tuple" vs.toArray 0)).objs.size=kS at gk hka hz2
 rw[←hz2] at KJ turn
 have back:wpAny (model prog w) A (ksk_rest a f false vs.toArray e1 (.ref kS)) P E {s with heap:=((s.heap.update a (Obj.mapSeq λ_=>(#[]:Array Value))).push (seqObj "tuple" vs.toArray 0)).push (seqObj "list" #[] 0)}:=by
  unfold ksk_rest
  refine wpAny_bind (wpAny_rule ?_)
  first
   |rw[List.forIn_toArray]
   |(rw[←Array.forIn_toList];simp only[List.toList_toArray])
   |rw[←Array.forIn_toList]
  refine wpAny_bind (ksk_fold (λi s'=>∃kA e,J s'/\s'.heap.get? a=some (seqObj "list" #[] e1)/\s'.heap.get? kS=some (seqObj "list" kA e)/\IntsAre kA.toList (kz.take i)) vs 0 _ ⟨#[],0,J3,g3,gk,by simpa using IntsAre.nil⟩ ?step ?done)
  case step=>
   rintro j x s' hx ⟨kA,e,hJ',na,nk,hk⟩
   simp only[Nat.zero_add] at hk ⊢
   have hj:j<vs.length:=(List.getElem?_eq_some_iff.mp hx).1
   obtain⟨k,hkj⟩:∃k,kz[j]?=some k:=⟨_,List.getElem?_eq_getElem (by omega)⟩
   have hz:kA.size<=vs.length:=by
    have h1:=hk.length
    rw[Array.length_toList,List.length_take] at h1
    omega
   refine wpAny_bind (wpAny_attempt (wpAny_mono (turn j x k s' kA e1 e hx hkj hJ' na nk) (λv s'' he=>?_) λ_ _ hF=>hF.elim))
   obtain⟨⟨t2,rfl⟩,hJ2,na2,nk2⟩:=he
   have s1:=Heap.SameBut.update s''.heap kS (Obj.mapSeq (·.push (.int k t2)))
   obtain⟨c2,hc2⟩:∃c2,(s''.heap.update kS (Obj.mapSeq (·.push (.int k t2)))).get? kS=some (seqObj "list" (kA.push (.int k t2)) c2):=⟨_,get?_update_seq nk2 (·.push (.int k t2))⟩
   have ek:kz.take (j+1)=kz.take j++[k]:=by rw[List.take_add_one,hkj];simp
   have ea:(kA.push (Value.int k t2)).toList=kA.toList++[Value.int k t2]:=by simp
   refine wpAny_bind (listUpdate_at nk2 rfl ?_ (by rw[sizeLine_eq];omega) (Nat.le_trans (Nat.le_of_eq (Array.size_push ..)) (by rw[sizeLine_eq];omega)))
   exact wpAny_pure ⟨rfl,kA.push (.int k t2),c2,KJ.set s'' kS _ s''.toks hJ2 (.inr rfl) s1,(s1.2 a hka.symm).trans na2,hc2,by rw[ea,ek];exact ksk_snoc hk⟩
  case done=>
   rintro s' ⟨kA,e,hJ',na,nk,hk⟩
   have hk':IntsAre kA.toList kz:=by
    have e3:kz.take (0+vs.length)=kz:=List.take_of_length_le (by omega)
    rw[e3] at hk
    exact hk
   refine wpAny_bind (listItems_at nk rfl ?_)
   exact Ue KJ hJ' nk na hka hk' hlen h64 h
 exact back
end
theorem ud{α β:Type}{f:α->β}{ps m:List β}(h:ps.Perm m):∀{l:List α}, m=l.map f->∃qs:List α, qs.Perm l/\ps=qs.map f:=by
  induction h with
  |nil=>intro l e;cases l with
    |nil=>exact⟨[], .refl _, rfl⟩
    |cons a r=>cases e
  |cons x p ih=>intro l e;cases l with
    |nil=>cases e
    |cons a r=>
      rw[List.map_cons] at e
      injection e with e1 e2
      obtain⟨qs, h1, h2⟩:=ih e2
      exact⟨a::qs, h1.cons a, by rw[e1, h2];rfl⟩
  |swap x y l'=>intro l e;cases l with
    |nil=>cases e
    |cons a r=>cases r with
      |nil=>simp at e
      |cons b r=>
        rw[List.map_cons, List.map_cons] at e
        injection e with e1 e2
        injection e2 with e2 e3
        exact⟨b::a::r, .swap a b r, by rw[e1, e2, e3];rfl⟩
  | trans p1 p2 ih1 ih2 => intro l e
                           obtain⟨qs, h1, h2⟩:=ih2 e
                           obtain⟨rs, h3, h4⟩:=ih1 h2
                           exact⟨rs, h3.trans h1, h4⟩
noncomputable def KeyR (g:De)(μ:Mem):List T->List Int->Prop
 |[],[]=>True
 |t::ts,z::zs=>g [some t] μ (λt' μ'=>t'=.int z/\μ'=μ) (λ_ _ _=>False)/\KeyR g μ ts zs
 |_,_=>False
theorem KeyR.len{g:De}{μ:Mem}:∀{ts:List T} {kz:List Int},KeyR g μ ts kz->kz.length=ts.length
 |[],[],_=>rfl
 |_::_,_::_,h=>by simp[KeyR.len h.2]
 |[],_::_,h=>h.elim
 |_::_,[],h=>h.elim
theorem KeyR.at{g:De}{μ:Mem}:∀{ts:List T} {kz:List Int} {i:Nat} {t:T} {z:Int},KeyR g μ ts kz->ts[i]?=some t->kz[i]?=some z->g [some t] μ (λt' μ'=>t'=.int z/\μ'=μ) (λ_ _ _=>False)
 |a::ts,b::zs,0,t,z,h,e1,e2=>by
  have e1:some a=some t:=by simpa using e1
  have e2:some b=some z:=by simpa using e2
  cases e1;cases e2
  exact h.1
 |a::ts,b::zs,i+1,t,z,h,e1,e2=>KeyR.at (ts:=ts) (kz:=zs) (i:=i) h.2 (by simpa using e1) (by simpa using e2)
 |[],[],i,t,z,h,e1,e2=>by simp at e1
 |[],_::_,_,_,_,h,_,_=>h.elim
 |_::_,[],_,_,_,h,_,_=>h.elim
noncomputable abbrev ZL(j:Nat)(g:De)(xs:List T)(μ:Mem):RE T:=λK _=>xs.length<64/\∃kz,KeyR g μ xs kz/\
 ∀ps:List (Int×T),ps.Perm (kz.zip xs)->ps.Pairwise (λp q=>p.1<=q.1)->K (.lst (ps.map (·.2))) μ
noncomputable abbrev Vb(j:Nat)(g:De)(t:T)(μ:Mem):RE T:=λK Z=>(∃i:Nat,μ[i]?=some (MO.tab j))/\(match t with
 |.lst xs=>ZL j g xs μ
 |.mut i=>λK Z=>∃xs,μ[i]?=some (MO.lst xs)/\ZL j g xs μ K Z
 |_=>.st) K Z
noncomputable abbrev Zm(j:Nat)(g f:De):De:=λτ μ=>(f τ μ).bind (Vb j g)
section
variable {X:Cx}{D:DP}{W:XW}{Γ:Cn}{k n:Nat}{pins:List (Addr×Obj)}{s:Shared}{σ:St}{H:Hp}{φ α:List Addr}{τ:Sl}{μ:Mem}
theorem Ju{a:Addr}{o:HO}(I:Inv X pins σ H s)(h0:H a=none)(h1:X.s₀.heap.objs.size<=a)(h2:a≠X.env.locals)(h3:∀x c,X.env.cells.lookup x=some c->c≠a)(h4:∀p∈X.pn++pins,p.1≠a)
  (new:ObjOk X.prog X.w (upd H a o) s.heap a o):Inv X pins σ (upd H a o) s:=by
 have ne:∀{b u},H b=some u->b≠a:=λ{b u} e z=>by rw[z,h0] at e;cases e
 refine I.step (h':=s.heap) (g':=s.gens) (t':=s.toks) (d':=s.drawn) (ch:=[a]) (λb hb=>?_) (λb o _ _ _ e n=>e) (λb o _ _ _ e n=>⟨o.slots,e⟩) (λb o hb e n=>?_) (λb o _ e=>⟨o,e⟩) (λb xs e=>?_) (λb o u e=>?_) (λb qs e=>?_) (λm hm=>hm) (λb u e=>?_) I.bare
 ·rw[List.mem_singleton.mp hb];exact⟨.inr h1,h2,h3,h4⟩
 ·rw[z8 (λz=>hb (by rw[z];simp))];exact n
 ·rw[z8 (ne e)];exact e
 ·rw[z8 (ne e)];exact e
 ·exact⟨#[],by rw[z8 (ne e),e];simp⟩
 ·by_cases z:b=a
  ·subst z
   rw[z6] at e;cases e
   exact new
  ·rw[z8 z] at e
   refine (I.hok b u e).stay (λc v hc q=>q) (λc q=>?_) λc xs q=>?_
   ·rw[z8 (ne q)];exact q
   ·rw[z8 (ne q)];exact q
theorem uN{q c' ad:Addr}{x:Str}{G:List Str}{params:Arguments}{body:Expr}{scope:Scope}{qn:Str}{pm ctv:Value}{g:De}{xs:List T}{vs:List V}{Q:VK}{j:Nat}
  (C:Ck D W Γ X k) (hk:2<=k) (hc:Γ.calm=true) (hG:G.all (λy=>Γ.U.contains y&&Wz (Γ.gl y))=true) (hs:j4 (vK Γ x G) [x] scope=true) (hE:∀Y W k,Ck D W (vK Γ x G) Y k->PE Y body (rdE D W g)) (hbind:∀(s:Shared) (u:Value),BindsTo s (PySem.W.kla_fn "<lambda>" qn params body scope [] pm (.ref c') ctv) ⟨[u],[]⟩ [(x,u)])
  (I:Inv X ((q,PySem.W.kla_obj "<lambda>" qn params body scope [] pm c' ctv)::pins) σ H s) (mr:MRel D φ α H μ) (hca:c'∉α) (hcc:H c'=some (.ext (qY c' qn))) (hq:Rd H ad (.lst vs)) (l:DenL D φ α H xs vs) (p:Post D W φ α H σ (RV D φ Q) (ZL j g xs μ)) :
  wpAny (model X.prog X.w) X.A (call (.builtin "sorted") [.ref ad] [(Str.ofString "key",.ref q)]) (EP X pins σ Q) X.xe s:=by
 obtain⟨its,rv,pl,hz⟩:=I.list (.inl hq)
 obtain⟨K0,Z0,⟨h64,kz,hkr,hK⟩,k1,k2⟩:=p
 have hlen:its.length<64:=by rw[←rv.length,←l.length];exact h64
 have hkl:kz.length=its.length:=by rw[hkr.len,←rv.length,←l.length]
 refine call_function_entry_kw kind_sorted plain_sorted entry_sorted (ksk_s1 _ _) ?_
 unfold Builtin.«sorted»
 refine wpAny_bind (m:=checkCount "sorted" 1 1 _) (wpAny_pure ?_)
 refine wpAny_bind (collect_list pl.isList ?_ (by rw[sizeLine_eq];omega))
 refine wpAny_bind (wpAny_newList ?_ (by rw[sizeLine_eq];omega))
 have hsz:((s.heap.push (seqObj "list" #[] 0)).update s.heap.objs.size (Obj.mapSeq (·++its.toArray))).objs.size=s.heap.objs.size+1:=by
  rw[Heap.size_update,Heap.size_push]
 have hoL:(((s.heap.push (seqObj "list" #[] 0)).update s.heap.objs.size (Obj.mapSeq (·++its.toArray))).push (seqObj "list" its.toArray 0)).get? (s.heap.objs.size+1)=some (seqObj "list" its.toArray 0):=by
  rw[←hsz];exact Heap.get?_push_size _ rfl
 have keep:∀b o,s.heap.get? b=some o->(((s.heap.push (seqObj "list" #[] 0)).update s.heap.objs.size (Obj.mapSeq (·++its.toArray))).push (seqObj "list" its.toArray 0)).get? b=some o:=λb o q=>by
  have hlt:b<s.heap.objs.size:=Heap.lt_size q
  rw[Heap.get?_push_ne _ _ _ (by rw[hsz];exact Nat.ne_of_lt (Nat.lt_succ_of_lt hlt)),Heap.get?_update_ne _ _ _ _ (Nat.ne_of_lt hlt),Heap.get?_push_ne _ _ _ (Nat.ne_of_lt hlt)]
  exact q
 show wpAny _ _ _ _ _ {s with heap:=((s.heap.push (seqObj "list" #[] 0)).update s.heap.objs.size (Obj.mapSeq (·++its.toArray))).push (seqObj "list" its.toArray 0)}
 rw[hsz]
 have hs1:((((s.heap.push (seqObj "list" #[] 0)).update s.heap.objs.size (Obj.mapSeq (·++its.toArray))).push (seqObj "list" its.toArray 0))).objs.size=s.heap.objs.size+2:=by rw[Heap.size_push,hsz]
 have I1:Inv X ((q,PySem.W.kla_obj "<lambda>" qn params body scope [] pm c' ctv)::pins) σ H {s with heap:=((s.heap.push (seqObj "list" #[] 0)).update s.heap.objs.size (Obj.mapSeq (·++its.toArray))).push (seqObj "list" its.toArray 0)}:=I.kept (t':=s.toks) keep
 generalize ((s.heap.push (seqObj "list" #[] 0)).update s.heap.objs.size (Obj.mapSeq (·++its.toArray))).push (seqObj "list" its.toArray 0)=h1 at I1 hoL hs1 keep
 generalize hca':s.heap.objs.size+1=a at hoL
 have new:∀b,s.heap.objs.size<=b->H b=none/\X.s₀.heap.objs.size<=b/\b≠X.env.locals/\(∀x c,X.env.cells.lookup x=some c->c≠b)/\(∀p∈X.pn++pins,p.1≠b)/\b∉X.fs/\b≠q:=λb hb=>by
  have lt:∀{d o},s.heap.get? d=some o->d≠b:=λ{d o} e z=>absurd (Nat.lt_of_lt_of_le (Heap.lt_size e) hb) (by rw[z];exact Nat.lt_irrefl _)
  refine⟨I.hok.fresh hb,Nat.le_trans I.sz hb,Nat.ne_of_gt (Nat.lt_of_lt_of_le I.lt hb),λx c e=>?_,λp hp=>?_,I.nofs hb,?_⟩
  ·obtain⟨v,o,ho,_⟩:=I.cell x c e
   exact lt ho
  ·exact lt ((ql I).pin p hp).1
  ·exact (lt (I.pin _ (List.mem_append_right _ List.mem_cons_self)).1).symm
 have na:=new a (by omega)
 have nk:=new (h1.objs.size+1) (by omega)
 let J:Shared->Prop:=λs'=>∃H',Inv X ((q,PySem.W.kla_obj "<lambda>" qn params body scope [] pm c' ctv)::pins) σ H' s'/\Stp α H α H'/\MRel D φ α H' μ/\H' c'=some (.ext (qY c' qn))/\H' a=none/\H' (h1.objs.size+1)=none
 have KJ:Keeps J a (h1.objs.size+1):=by
  refine⟨λs' b h' tk hj hb sb=>?_,λs' o hj=>?_⟩
  ·obtain⟨H',J1,J2,J3,J4,J5,J6⟩:=hj
   have hb0:H' b=none:=by rcases hb with rfl|rfl<;>assumption
   have nb:=by
    have:=hb
    exact show X.s₀.heap.objs.size<=b/\b≠X.env.locals/\(∀x c,X.env.cells.lookup x=some c->c≠b)/\(∀p∈X.pn++pins,p.1≠b)/\b∉X.fs/\b≠q from by rcases this with rfl|rfl;exact na.2;exact nk.2
   have ex:∀c o,c≠b->s'.heap.get? c=some o->h'.get? c=some o:=λc o n e=>(sb.2 c n).trans e
   have neb:∀{c u},H' c=some u->c≠b:=λ{c u} e z=>by rw[z,hb0] at e;cases e
   refine⟨H',J1.step (h':=h') (g':=s'.gens) (t':=tk) (d':=s'.drawn) (ch:=[b]) (λc hc=>?_) (λc o _ _ n e _=>ex c o (λz=>n (by rw[z];simp)) e) (λc o _ _ n e _=>⟨o.slots,ex c o (λz=>n (by rw[z];simp)) e⟩) (λc o _ _ n=>n) (λc o n e=>⟨o,ex c o (λz=>n (by rw[z];simp)) e⟩) (λc xs e=>e) (λc o u e=>e) (λc qs e=>⟨#[],by rw[e];simp⟩) (λm hm=>?_) (λc u e=>?_) J1.bare,J2,J3,J4,J5,J6⟩
   ·rw[List.mem_singleton.mp hc]
    refine⟨.inr nb.1,nb.2.1,nb.2.2.1,λp hp=>?_⟩
    rcases List.mem_append.mp hp with z|z
    ·exact nb.2.2.2.1 p (List.mem_append_left _ z)
    ·rcases List.mem_cons.mp z with rfl|z
     ·exact nb.2.2.2.2.2.symm
     ·exact nb.2.2.2.1 p (List.mem_append_right _ z)
   ·exact hm.sameBut sb nb.2.1.symm
   ·refine (J1.hok c u e).stay (λd v hd q=>ex d v (λz=>?_) q) (λd q=>q) λd xs q=>q
    rcases hd with hd|hd
    ·exact neb e (hd▸z)
    ·exact neb hd z
  ·obtain⟨H',J1,J2,J3,J4,J5,J6⟩:=hj
   exact⟨H',J1.kept (t':=s'.toks) λb o e=>Heap.get?_push_of_some _ e,J2,J3,J4,J5,J6⟩
 refine wpAny_bind (wpAny_holding (wpAny_call_entry_kw slot_list_sort ⟨_,hoL,rfl⟩ entry_list_sort ?body (ksk_l1 _ _)))
 case body=>
  show wpAny (model X.prog X.w) X.A.in1.in1 (Builtin.«list.sort» ⟨[.ref a],[(Str.ofString "key",.ref q)]⟩) _ _ _
  rw[ksk_t1]
  refine Kg (J:=J) (kz:=kz) (vs:=its) (s:={s with heap:=h1}) KJ ⟨H,I1,Stp.refl _ _,mr,hcc,na.1,nk.1⟩ hoL hkl hlen (λi v z s' ka ca ck e1 e2 hj ga gk=>?_) λs' out c hj ga hout=>⟨_,rfl,wpAny_pure ⟨_,rfl,?_⟩⟩
  ·obtain⟨H',J1,J2,J3,J4,J5,J6⟩:=hj
   have J1a:=vq (vq J1 ga J5 na.2.2.1 na.2.2.2.2.2.1 (λv z=>by cases z)) gk J6 nk.2.2.1 nk.2.2.2.2.2.1 (λv z=>by cases z)
   have hi:i<its.length:=(List.getElem?_eq_some_iff.mp e1).1
   obtain⟨vv,hvv⟩:∃vv,vs[i]?=some vv:=⟨_,List.getElem?_eq_getElem (by rw[rv.length];exact hi)⟩
   obtain⟨tt,htt⟩:∃tt,xs[i]?=some tt:=⟨_,List.getElem?_eq_getElem (by rw[l.length,rv.length];exact hi)⟩
   have rr:RelV vv v:=by
    obtain⟨u0,e0,r0⟩:=rv.get hvv
    rw[e1] at e0;cases e0;exact r0
   obtain⟨vv',hv',dd⟩:=(l.step J2).get htt
   rw[hvv] at hv';cases hv'
   have hrec:s'.heap.CodeRec (.ref c') qn:=(J1.hok c' _ J4).1
   have ho:s'.heap.get? q=some (PySem.W.kla_obj "<lambda>" qn params body scope [] pm c' ctv):=(J1.pin _ (List.mem_append_right _ List.mem_cons_self)).1
   have rm:=C.rom hc
   have hr:Room (0+1) X.A.in1.in1:=⟨rm.hd,by have:=rm.dp;show X.A.depth+3 * (0+1)+5<_;omega,by have:=rm.un;show X.A.units+1+1+16 * (0+1)+200<_;omega⟩
   refine wpAny_call (codeAny_mono (V_ (k0:=0) C hc hG hs hE hbind hr J1a.env0.in1.in1 ho hrec rr dd J3 (Q:=λv' H2=>v'=.int z/\Stp α H' α H2/\MRel D φ α H2 μ) (hkr.at htt e2) ?_) λr s2 hq=>?_)
   ·rintro t' μ' ⟨rfl,rfl⟩ α' H2 v' st m d
    have ea:α'=α:=by
     obtain⟨⟨more,e,_⟩,_,_⟩:=id st
     have h1:=m.len
     have h2:=J3.len
     rw[e,List.length_append,h2] at h1
     have:more=[]:=List.eq_nil_of_length_eq_zero (by omega)
     rw[e,this,List.append_nil]
    subst ea
    exact⟨d,st,m⟩
   ·cases r with
    |error e=>exact hq.elim
    |ok fl=>
     cases fl with
     |ret u=>
      obtain⟨v',H2,I2,r2,rfl,st2,m2⟩:=J1a.after hq
      obtain⟨t2,rfl⟩:=r2
      have p1:=I2.pin _ (List.mem_append_right _ List.mem_cons_self)
      have p2:=(ql I2).pin _ (List.mem_append_right _ List.mem_cons_self)
      exact⟨⟨t2,rfl⟩,⟨H2,ql (ql I2),J2.trans st2,m2,st2.keep c' _ hca J4,p2.2.1,p1.2.1⟩,p2.1,p1.1⟩
     |next=>exact False.elim hq
     |brk=>exact False.elim hq
     |cont=>exact False.elim hq
  ·obtain⟨H',J1,J2,J3,J4,J5,J6⟩:=hj
   obtain⟨ps,hp,ho,hpw⟩:=hout
   have lz:∀{A B:Type} (a:List A) (b:List B),a.length=b.length->(a.zip b).length=b.length:=λa b h=>by rw[List.length_zip,h,Nat.min_self]
   have hvl:vs.length=its.length:=rv.length
   have hxl:xs.length=its.length:=by rw[l.length,hvl]
   have em:kz.zip its=(kz.zip (its.zip (vs.zip xs))).map (λq=>(q.1,q.2.1)):=by
    refine List.ext_getElem (by simp[hkl,hvl,hxl]) λi h1 h2=>by simp
   obtain⟨qs,hqp,rfl⟩:=ud hp em
   have mem:∀q∈qs,RelV q.2.2.1 q.2.1/\Den D φ α H' q.2.2.2 q.2.2.1:=λq hq=>by
    have:=hqp.mem_iff.mp hq
    obtain⟨i,hi⟩:=List.mem_iff_getElem?.mp this
    obtain⟨hi',rfl⟩:=List.getElem?_eq_some_iff.mp hi
    simp only[List.length_zip,Nat.lt_min] at hi'
    have d:=(l.step J2).get (i:=i) (List.getElem?_eq_getElem hi'.2.2.2)
    obtain⟨v',e',d⟩:=d
    rw[List.getElem?_eq_getElem hi'.2.2.1] at e'
    cases e'
    simp only[List.getElem_zip]
    obtain⟨u0,e0,r0⟩:=rv.get (List.getElem?_eq_getElem hi'.2.2.1)
    rw[List.getElem?_eq_getElem hi'.2.1] at e0;cases e0
    exact⟨r0,d⟩
   have hvs:∀(qs:List (Int×Value×V×T)),(∀q∈qs,RelV q.2.2.1 q.2.1/\Den D φ α H' q.2.2.2 q.2.2.1)->Vals (qs.map (·.2.2.1)) (qs.map (·.2.1))/\DenL D φ α H' (qs.map (·.2.2.2)) (qs.map (·.2.2.1)):=by
    intro qs
    induction qs with
    |nil=>exact λ_=>⟨.nil,rfl⟩
    |cons q r ih=>
     intro h
     obtain⟨a1,a2⟩:=ih λq' hq'=>h q' (List.mem_cons_of_mem _ hq')
     obtain⟨b1,b2⟩:=h q List.mem_cons_self
     exact⟨.cons b1 a1,_,_,rfl,b2,a2⟩
   obtain⟨w1,w2⟩:=hvs qs mem
   have hol:out.toList=qs.map (·.2.1):=by rw[ho,List.map_map];rfl
   have hql:qs.length=its.length:=by rw[hqp.length_eq];simp[hkl,hvl,hxl]
   have J7:Inv X pins σ (upd H' a (.lst (qs.map (·.2.2.1)))) s':=Ju (ql J1) J5 na.2.1 na.2.2.1 na.2.2.2.1 na.2.2.2.2.1 (show ObjOk X.prog X.w _ _ _ (.lst (qs.map (·.2.2.1))) from ⟨by rw[List.length_map,hql,sizeLine_eq];omega,qs.map (·.2.1),c,w1,by rw[←hol,Array.toArray_toList];exact ga⟩)
   refine⟨.ref a,_,J7,rfl,?_⟩
   have sm:=zd (o:=HO.lst (qs.map (·.2.2.1))) J5
   have e2:(qs.map λq=>(q.1,q.2.2.2)).map (·.2)=qs.map (·.2.2.2):=by rw[List.map_map];rfl
   have e3:kz.zip xs=(kz.zip (its.zip (vs.zip xs))).map (λq=>(q.1,q.2.2.2)):=by
    refine List.ext_getElem (by simp[hkl,hvl,hxl]) λi h1 h2=>by simp
   have kk:=hK (qs.map λq=>(q.1,q.2.2.2)) (by rw[e3];exact hqp.map _) (by
    rw[List.pairwise_map] at hpw ⊢
    exact hpw.imp λh=>by simpa using h)
   rw[e2] at kk
   refine k1 _ _ kk α _ (J2.trans (Stp.new sm)) (J3.new sm) _ ⟨_,_,rfl,zi J3 J5,zh J3 J5,.inl z6,w2.step (Stp.new sm)⟩
theorem bind1{fd:FuncData}{y:Str}{pa:Pos}{u:Value}(hp:fd.params=⟨[],[⟨y,none,pa⟩],none,[],[],none,[]⟩)(hd:fd.defaults=.none):bindArgs fd ⟨[u],[]⟩=pure [(y,u)]:=by
 have e:List.lookup y [(y,u)]=some u:=by simp[List.lookup]
 unfold bindArgs
 rw[hp,hd]
 simp[e,seqItems?]
 rfl
theorem V5(C:Ck D W Γ X k)(hc:Γ.calm=true){y:Str}{p0 pa pk pl pos:Pos}{a body:Expr}{sc:Scope}{j:Nat}{G:List Str}{f g:De}
  (hx:("sorted":Str)∈Γ.G) (hg0:Γ.gl "sorted"=.none) (hs0:noStar a=true) (ha:PE X a (rdE D W f)) {poss:List Pos} (hlm:Γ.lam=some (j,poss)) (hpp:pl∈poss) (hG:G.all (λy=>Γ.U.contains y&&Wz (Γ.gl y))=true) (hs:j4 (vK Γ y G) [y] sc=true) (hE:∀Y W k,Ck D W (vK Γ y G) Y k->PE Y body (rdE D W g)) :
  PE X (.Call (.Name "sorted" p0) [a] [⟨some "key",.Lambda ⟨[],[⟨y,none,pa⟩],none,[],[],none,[]⟩ body sc pl,pk⟩] pos) (rdE D W (Zm j g f)):=by
 obtain⟨hk,c,P,hcode,hC,hB,hD⟩:=C.lam j poss hlm
 have hm:=C.glo _ hx
 rw[hg0] at hm
 have hfr:∀x∈sc.names,x.2≠.free:=by
  have hs':=hs
  simp only[j4,Bool.and_eq_true,List.all_eq_true,bne_iff_ne,ne_eq] at hs'
  exact hs'.1.1.1.1.2
 rintro pins s σ H Q I ⟨φ,α,τ,μ,sr,mr,p⟩
 refine wpAny_Call_Name_kw (we I (C.glb _ hx) hm (show bootBuiltins "sorted"=some (.builtin "sorted") by decide +kernel) ?_ (by decide) (C.dbG _ hx))
 refine callWith_kw (thn (zt ha qb (z5 hs0) pos pins s σ H (λvs H1=>∃v t μ1 α1,vs=[v]/\Stp α H α1 H1/\MRel D φ α1 H1 μ1/\Den D φ α1 H1 t v/\Post D W φ α1 H1 σ (RV D φ Q) (Vb j g t μ1)) I ⟨φ,α,τ,μ,sr,mr,p.bind.mono λt μ' α' H' st m q v d=>⟨v,t,μ',α',rfl,st,m,d,q⟩⟩) ?_) (by rw[z5 hs0];rfl) (by rw[z5 hs0];rfl) rfl rfl
 rintro us s1 ⟨vs,H1,I1,rv,v,t,μ1,α1,rfl,st,m,d,K0,Z0,⟨⟨i,hi⟩,q⟩,k1,k2⟩
 obtain⟨u,rfl,r1⟩:=vals1 rv
 refine kws_cons (PySem.W.kla_eval rfl (Jz (line:=pl.line) I1 m hi hD hpp hcode hC hB (closureFor_none hfr) λq0 c' ctv H2 s2 I2 st2 m2 hca hcc _=>kws_nil ?_))
 have k1':∀t μ',K0 t μ'->∀α' H',Stp α1 H2 α' H'->MRel D φ α' H' μ'->RV D φ Q t μ' α' H':=λt μ' z α' H' st3 m3=>k1 t μ' z α' H' (st2.trans st3) m3
 show wpAny _ _ (call (.builtin "sorted") [u] [(Str.ofString "key",.ref q0)]) _ _ _
 split at q
 ·obtain⟨ad,xs,rfl,n1,n2,hq,l⟩:=d.step st2
  cases r1
  exact uN (j:=j) C hk hc hG hs hE (λs u=>.of_eq (bind1 rfl rfl)) I2 m2 hca hcc hq l ⟨K0,Z0,q,k1',λcc fs μ' z α' H' CC dd st3 m3=>k2 cc fs μ' z α' H' CC dd (st2.trans st3) m3⟩
 ·obtain⟨ts,hj,q⟩:=q
  obtain⟨ad,hi2,rfl⟩:=d
  cases r1
  obtain⟨xs,hq,l⟩:=m2.ob _ ad _ hi2 hj
  exact uN (j:=j) C hk hc hG hs hE (λs u=>.of_eq (bind1 rfl rfl)) I2 m2 hca hcc (.inl hq) l ⟨K0,Z0,q,k1',λcc fs μ' z α' H' CC dd st3 m3=>k2 cc fs μ' z α' H' CC dd (st2.trans st3) m3⟩
 ·exact False.elim q
end
noncomputable def z0U (r:Rec)(Γ:Cn)(x ky:Str)(a:Expr)(y:Str)(body:Expr)(sc:Scope)(pl:Pos):Option De:=
  gd (x == ("sorted":Str)&&ky == ("key":Str)&&(idx Γ.N x).isNone&&noStar a&&Γ.calm&&(y2 sc).all (λy=>Γ.U.contains y&&Wz (Γ.gl y))&&j4 (vK Γ y (y2 sc)) [y] sc)
   ((r.e Γ a).bind λf=>(r.e (vK Γ y (y2 sc)) body).bind λg=>(match Γ.look x,Γ.lam with
    |.none,some (j,poss)=>gd (decide (pl∈poss)) (some (Zm j g f))
    |_,_=>none))
noncomputable def z1w:Arg->Option Str
 |⟨y,none,_⟩=>some y
 |_=>none
noncomputable def YY:Arguments->Option Str
 |⟨[],[p],none,[],[],none,[]⟩=>z1w p
 |_=>none
noncomputable def UP:Keyword->Option (Str×Arguments×Expr×Scope×Pos)
 |⟨some ky,.Lambda ar body sc pl,_⟩=>some (ky,ar,body,sc,pl)
 |_=>none
noncomputable def Z2:ER:=λr Γ e=>match e with
 |.Call (.Name x _) [a] [k] _=>(UP k).bind λq=>(YY q.2.1).bind λy=>z0U r Γ x q.1 a y q.2.2.1 q.2.2.2.1 q.2.2.2.2
 |_=>none
theorem KO{k:Keyword}{q:Str×Arguments×Expr×Scope×Pos}(h:UP k=some q):∃p,k=⟨some q.1,.Lambda q.2.1 q.2.2.1 q.2.2.2.1 q.2.2.2.2,p⟩:=by
 unfold UP at h
 split at h
 ·cases h;exact⟨_,rfl⟩
 ·cases h
theorem KA{a:Arguments}{y:Str}(h:YY a=some y):∃p,a=⟨[],[⟨y,none,p⟩],none,[],[],none,[]⟩:=by
 unfold YY at h
 split at h
 ·unfold z1w at h
  split at h
  ·cases h;exact⟨_,rfl⟩
  ·cases h
 ·cases h
theorem W2{D:DP}:EOk D Z2:=by
 intro r H X W Γ k e d C h
 unfold Z2 at h
 split at h
 ·rename_i x p0 a k' pos
  obtain⟨⟨ky,ar,body,sc,pl⟩,hk,h⟩:=bnd h
  obtain⟨y,ha,h⟩:=bnd h
  obtain⟨pk,rfl⟩:=KO hk
  obtain⟨pa,e⟩:=KA ha
  have e:ar=_:=e
  subst e
  unfold z0U at h
  have hh:=zj h
  clear h
  obtain⟨hb,h⟩:=hh
  simp only[Bool.and_eq_true,beq_iff_eq] at hb
  obtain⟨⟨⟨⟨⟨⟨rfl,rfl⟩,h2⟩,h3⟩,h4⟩,h5⟩,h6⟩:=hb
  obtain⟨f,h7,h⟩:=bnd h
  obtain⟨g,h8,h⟩:=bnd h
  cases hl:Γ.look "sorted" with
  |none=>
   cases hm:Γ.lam with
   |none=>simp[hl,hm] at h
   |some jp=>
    obtain⟨j,pl'⟩:=jp
    simp only[hl,hm] at h
    obtain⟨h9,h10⟩:=zj h
    have h9:=of_decide_eq_true h9
    cases h10
    obtain⟨hx,hg⟩:=z_ hl (by intro z;cases z)
    exact V5 C h4 hx hg h3 (H.e C h7) hm h9 h5 h6 λY W k C'=>H.e C' h8
  |_=>simp[hl] at h
 ·cases h
theorem QX{P:Program}{w:World}{K:PySem.W.Frag}{mg mb:Str->Option Value}{CX:CXT}{k:Nat}{fa a c P0:Addr}{fd:FuncData}{x:Str}{sp:Sp}{s₁:Shared}{vs:List Value}{ns:List Int}
  (KX:K.In s₁.heap) (hns:s₁.heap.Ns mainGlobals mg) (hb:s₁.heap.Ns builtinsNs mb) (hbb:∀x:Str,x≠"__name__"->mb x=bootBuiltins x) (hlim:s₁.heap.NoLimit) (hg:s₁.gens=#[])
  (hbm:∃bm ob,mg "__builtins__"=some (.ref bm)/\bm≠builtinsNs/\s₁.heap.get? bm=some ob/\ob.cls=.type "module"/\ob.dict=some builtinsNs/\ob.data=.plain)
  (hnl:Zz K=true) (hPt:s₁.heap.get? P0=some (PySem.W.tabObj #[])) (hKP:K.lookup P0=none) (hPc:P0≠cStatics) (hcd:PySem.W.codeHdIn K c P0=true)
  (ha:s₁.heap.get? a=some {cls:=.type "list",data:=.seq vs.toArray}) (hi:IntsAre vs ns) (hl:ns.length<=sizeLine) (hr:Room k callerA)
  (F:∀base:Heap,K.In base->base.Ns mainGlobals mg->base.BuiltinsAt mg P0->FnOk P w K mg base CX k fa fd [x] sp) (hbind:∀(s:Shared) (u:Value),BindsTo s fd ⟨[u],[]⟩ [(x,u)])
  (hsp:∀H:Hp,Rd H a (.lst (ns.map V.int))->H P0=some (.tbl #[])->a≠P0->sp [.ref a] H (λv _=>v=.bl true) λ_ _ _=>False)
  (hCX:∀H e s',CX [] H s₁ (λ_ _ _=>False) e s'->False) :
  codeAny (model P w) callerA (.call (.ref fa) ⟨[.ref a],[]⟩) (λr s'=>r=.ok (.ret (.bool true))/\OldK s₁.heap s'.heap/\s'.os=s₁.os/\AllBare s'.gens) s₁:=by
 have rv:=L2.vals_ints hi
 have lenV:=hi.length
 have naP:a≠P0:=λz=>by rw[z,hPt] at ha;cases ha
 have hKa:K.lookup a=none:=by
  cases q:K.lookup a with
  |none=>rfl
  |some o=>
   have e:=KX a o q
   rw[ha] at e;cases e
   exact absurd rfl (Qy hnl q)
 obtain⟨H,hH⟩:∃H:Hp,H=upd (upd (λ_=>none) P0 (.tbl #[])) a (.frz {cls:=.type "list",data:=.seq vs.toArray} (.lst (ns.map V.int))):=⟨_,rfl⟩
 have Ha:H a=some (.frz {cls:=.type "list",data:=.seq vs.toArray} (.lst (ns.map V.int))):=by rw[hH];exact z6
 have HP:H P0=some (.tbl #[]):=by rw[hH,z8 naP.symm];exact z6
 have Ho:∀b,b≠a->b≠P0->H b=none:=λb h1 h2=>by rw[hH,z8 h1,z8 h2]
 have hok:HOk P w H s₁.heap:=λb u e=>by
  by_cases h1:b=a
  ·subst h1
   rw[Ha] at e;cases e
   exact⟨ha,by rw[List.length_map];exact hl,vs,_,rv,ha⟩
  ·by_cases h2:b=P0
   ·subst h2
    rw[HP] at e;cases e
    exact hPt
   ·rw[Ho b h1 h2] at e;cases e
 have un:∀{b:Addr} {o:Obj},s₁.heap.get? b=some o->o.cls≠.none->o.cls≠.type "list"->H b=none:=λ{b o} e n1 n2=>Ho b (λz=>by rw[z,ha] at e;cases e;exact n2 rfl) λz=>by rw[z,hPt] at e;cases e;exact n1 rfl
 have noA:∀{b:Addr} {o:Obj} {es:Array DictEntry} {ep:Nat},s₁.heap.get? b=some o->o.data=.dict es ep->H b=none:=λ{b o es ep} e d=>Ho b (λz=>by rw[z,ha] at e;cases e;cases d) λz=>by rw[z,hPt] at e;cases e;cases d
 have zX:∀{b:Addr} {o:Obj},s₁.heap.get? b=some o->H b=none->(xv s₁.heap H).get? b=some o:=λe n=>Ja e n
 have nsK:∀{b:Addr} {m:Str->Option Value},s₁.heap.Ns b m->(xv s₁.heap H).Ns b m:=λ{b m} ⟨o,es,ep,e,d,r⟩=>⟨o,es,ep,zX e (noA e d),d,r⟩
 have hKf:∀b o,K.lookup b=some o->H b=none:=λb o e=>Ho b (λz=>by rw[z,hKa] at e;cases e) λz=>by rw[z,hKP] at e;cases e
 have hKb:K.In (xv s₁.heap H):=λb o e=>zX (KX b o e) (hKf b o e)
 have hM:Mod K mg (xv s₁.heap H):=⟨hKb,nsK hns,⟨mb,nsK hb,hbb⟩,let ⟨mc,h1,h2⟩:=hlim;⟨mc,nsK h1,h2⟩⟩
 have hB:(xv s₁.heap H).BuiltinsAt mg P0:=by
  obtain⟨bm,ob,b1,b2,b3,b4,b5,b6⟩:=hbm
  refine⟨bm,ob,b1,b2,λz=>?_,λz=>?_,zX b3 (un b3 (by rw[b4];exact λz=>by cases z) (by rw[b4];exact λz=>absurd (Value.type.inj z) (by decide))),b4,b5,b6⟩
  ·obtain⟨o,es,ep,e,d,_⟩:=hns
   rw[z,e] at b3;cases b3;rw[d] at b6;cases b6
  ·rw[z,hPt] at b3;cases b3;cases b4
 have e0:Env0 P w K mg (xv s₁.heap H) callerA [] s₁ H:=⟨rfl,hM,λb o e=>JR e,Nat.le_of_eq (Wa _ _),trivial,λb hb=>absurd (show b∈([]:List Addr) from hb) (by simp),hok,.of_eq hg⟩
 refine codeAny_mono ((F _ hKb (nsK hns) hB).run callerA [] s₁ H ⟨[.ref a],[]⟩ [.ref a] [.ref a] _ _ hr e0 (hbind s₁ (.ref a)) (.cons rfl .nil) (hsp H (.inr ⟨_,Ha⟩) HP naP)) λr s' h=>?_
 cases r with
 |error e=>exact (hCX H e s' h).elim
 |ok fl=>
  cases fl with
  |next=>exact False.elim h
  |brk=>exact False.elim h
  |cont=>exact False.elim h
  |ret u=>
   obtain⟨v,H',os,bare,un,hok',r',q⟩:=h
   have q':v=.bl true:=q
   subst q'
   obtain rfl:u=Value.bool true:=r'
   have kp:∀b o,H b=none->s₁.heap.get? b=some o->s'.heap.get? b=some o:=λb o n e=>un.keep b o e n (by intro z;exact absurd (show b∈([]:List Addr) from z) (by simp)) (by simp)
   obtain⟨more,hm⟩:=un.tbls P0 _ HP
   have hP':s'.heap.get? P0=some (PySem.W.tabObj (#[]++more)):=hok' P0 _ hm
   have cd:=PySem.W.codeHd_of_K KX hcd
   have cd':PySem.W.CodeHd s'.heap c P0:=by
    obtain⟨o,vs,file,tf,flags,tg,inF,text,tt,e1,e2,r⟩:=cd
    refine⟨o,vs,file,tf,flags,tg,inF,text,tt,kp c o ?_ e1,e2,r⟩
    exact Ho c (λz=>by rw[z,ha] at e1;cases e1;exact absurd (Value.type.inj e2) (by decide)) λz=>by rw[z,hPt] at e1;cases e1;cases e2
   refine⟨rfl,(OldK.refl s₁.heap).step_table (cd.tab hPt) (cd.tab hPt) (cd'.tab hP') (λb o hb e=>?_) hPc,os,bare⟩
   by_cases h1:b=a
   ·subst h1
    have z2:=un.frzs b _ _ Ha
    obtain⟨e2,_⟩:=hok' b _ z2
    rw[ha] at e;cases e
    exact e2
   ·exact kp b o (Ho b h1 hb) e
noncomputable def Z1(K:PySem.W.Frag)(P0:Addr):Sp:=λvs H Q _=>∃(a:Addr) (ns:List Int),vs=[.ref a]/\Rd H a (.lst (ns.map V.int))/\H P0=some (.tbl #[])/\a≠P0/\ns.length<=63/\∀H',Q (.bl true) H'
noncomputable def Za(f:Fn):Prop:=∀ns:List Int,ns.length<=63->f [.lst (ns.map T.int)] [.tab 0] (λt _=>t=.bl true) (λ_ _ _=>False)
theorem JK{D:DP}{P:Program}{w:World}{K:PySem.W.Frag}{mg:Str->Option Value}{base:Heap}{k:Nat}{fa P0:Addr}{fd:FuncData}{x:Str}{f:Fn}{poss:List Pos}{qn:Str}(ht:Za f)(hD:D.tabs 0=some (P0,poss,qn))
  (F:FnOk P w K mg base (CX1 P w) k fa fd [x] (spN D 1 f)):FnOk P w K mg base (CX1 P w) k fa fd [x] (Z1 K P0):=by
 refine F.imp ?_
 rintro vs H Q E ⟨a,ns,rfl,r,hP,hne,hn,q⟩
 refine⟨rfl,[],[P0],[.lst (ns.map T.int)],[.tab 0],⟨.ref a,[],rfl,⟨a,_,rfl,by simp,by simpa using hne,r,xP ns⟩,rfl⟩,⟨rfl,by simp,by simp,by simp,λi a' o e1 e2=>?_⟩,_,_,ht ns hn,?_,?_⟩
 ·cases i with
  |succ i=>simp at e1
  |zero=>
   have e1:P0=a':=by simpa using e1
   have e2:MO.tab 0=o:=by simpa using e2
   subst e1;subst e2
   exact⟨poss,qn,#[],hD,hP,trivial,λ_ _=>.inl rfl⟩
 ·rintro t μ rfl α' H' st m v d
  have d:v=.bl true:=d
  rw[d]
  exact q H'
 ·exact λ_ _ _ z=>z.elim
noncomputable abbrev inT(x y:T)(μ:Mem):RE T:=match y with
 |.mut i=>(match x with
  |.int z=>λK _=>∃kvs,μ[i]?=some (MO.dic kvs)/\K (.bl (zO (.inl z) kvs).isSome) μ
  |.str z=>λK _=>∃kvs,μ[i]?=some (MO.dic kvs)/\K (.bl (zO (.inr z) kvs).isSome) μ
  |_=>.st)
 |_=>xm .In x y μ
noncomputable abbrev Vl(f g:De):De:=λτ μ=>(f τ μ).bind λx μ1=>(g τ μ1).bind λy μ2=>inT x y μ2
noncomputable abbrev Wv(o b f:De):Ds:=λτ μ=>(f τ μ).out τ λt μ1=>(o τ μ1).out τ λot μ2=>(b τ μ2).out τ λit μ3=>match ot,it with
 |.mut i,.int k=>λE=>(∃ts,μ3[i]?=some (.lst ts)/\(0<=k/\k<ts.length/\k<9223372036854775808)/\E.nx τ (μ3.set i (.lst (ts.set k.toNat t))))\/(∃kvs,μ3[i]?=some (.dic kvs)/\kvs.length<room/\E.nx τ (μ3.set i (.dic (jw (.inl k) t kvs))))
 |.mut i,.str z=>λE=>∃kvs,μ3[i]?=some (.dic kvs)/\kvs.length<room/\E.nx τ (μ3.set i (.dic (jw (.inr z) t kvs)))
 |_,_=>.st
section
variable {X:Cx}{D:DP}{W:XW}{Γ:Cn}{k:Nat}{pins:List (Addr×Obj)}{s:Shared}{σ:St}{H:Hp}{φ α:List Addr}{τ:Sl}{μ:Mem}{f g:De}{a b:Expr}{pos:Pos}
theorem uQ{z:Key}:∀{kvs:List (Key×T)} {gs:List (Key×V)},DenK D φ α H kvs gs->(vW gs z).isSome=(zO z kvs).isSome
 |[],_,h=>by cases h;rfl
 |p::r,_,h=>by
  obtain⟨v,q,rfl,d,l⟩:=h
  unfold zO
  by_cases e:p.1=z
  ·rw[if_pos e,vI (p:=(p.1,v)) e];rfl
  ·rw[if_neg e,vD (p:=(p.1,v)) e];exact uQ l
theorem Y4{x y:T}{v w:V}{u1 u2:Value}{Q:VK}(I:Inv X pins σ H s)(hu:X.A.units+64<cLine)(mr:MRel D φ α H μ)(d1:Den D φ α H x v)(d2:Den D φ α H y w)(r1:RelV v u1)(r2:RelV w u2)
  (p:Post D W φ α H σ (RV D φ Q) (inT x y μ)):wpAny (model X.prog X.w) X.A (compareOp .In u1 u2) (EP X pins σ Q) X.xe s:=by
 have go:∀{i:Nat} {z:Key} {kvs:List (Key×T)},y=.mut i->v=kV z->μ[i]?=some (MO.dic kvs)->Post D W φ α H σ (RV D φ Q) (.ok (.bl (zO z kvs).isSome) μ)->wpAny (model X.prog X.w) X.A (compareOp .In u1 u2) (EP X pins σ Q) X.xe s:=λ{i z kvs} ey ev hi p'=>by
  subst ey;subst ev
  obtain⟨ad,ha,rfl⟩:=d2
  cases r2
  obtain⟨gs,hH,l⟩:=mr.ob i ad _ ha hi
  refine z28 (by omega) I (DGet.k (k:=z) hH) r1 λs' I'=>⟨.bl (vW gs z).isSome,H,I',rfl,?_⟩
  rw[uQ l]
  exact p'.here mr rfl
 unfold inT at p
 split at p
 ·split at p
  ·obtain⟨kvs,hi,p⟩:=p.ex1
   have d1:v=_:=d1
   exact go (z:=.inl _) rfl d1 hi p
  ·obtain⟨kvs,hi,p⟩:=p.ex1
   have d1:v=_:=d1
   exact go (z:=.inr _) rfl d1 hi p
  ·exact p.elim
 ·exact yN I hu mr d1 d2 r1 r2 p
theorem UT(C:Ck D W Γ X k)(ho:qK .In b=true)(ha:PE X a (rdE D W f))(hb:PE X b (rdE D W g)):PE X (.Compare a [.In] [b] pos) (rdE D W (Vl f g)):=by
 rintro pins s σ H Q I ⟨φ,α,τ,μ,sr,mr,p⟩
 refine wpAny_Compare1 (thn (sub ha I sr mr p) ?_) (vf ho)
 rintro u s1 ⟨v,H1,t,μ1,α1,I1,r1,st1,sr1,mr1,d1,p1⟩
 refine thn (sub hb I1 sr1 mr1 p1) ?_
 rintro u' s2 ⟨v',H2,t',μ2,α2,I2,r2,st2,sr2,mr2,d2,p2⟩
 exact Y4 I2 C.unt mr2 (d1.step st2) d2 r1 r2 p2
theorem PostS.or{E:Ends}{r r':En->Prop}(p:PostS D W φ α H E λE=>r E\/r' E):PostS D W φ α H E r\/PostS D W φ α H E r':=by
 obtain⟨E0,q,hE⟩:=p
 rcases q with q|q
 ·exact .inl ⟨E0,q,hE⟩
 ·exact .inr ⟨E0,q,hE⟩
theorem VZ(hu:X.A.units+1<cLine):UQ X (λo i v H Q=>(∃l k xs,o=.ref l/\i=.int k/\H l=some (.lst xs)/\0<=k/\k<xs.length/\k<9223372036854775808/\Q (upd H l (.lst (xs.set k.toNat v))))\/(∃l gs z,o=.ref l/\i=kV z/\H l=some (.dK gs)/\gs.length<sizeLine/\Q (upd H l (.dK (putK gs z v))))):=by
 intro pins s σ H o i v ov iv u Q I ro ri rv h
 rcases h with h|⟨l,gs,z,rfl,rfl,hH,hl,q⟩
 ·exact set_list pins s σ H o i v ov iv u Q I ro ri rv h
 ·cases ro
  exact QK hu I (DPut.k (k:=z) hH hl) ri rv λs4 I4=>⟨_,I4,q⟩
theorem Kj(C:Sk D W Γ X k){o:Expr}{p1:Pos}{fo fb:De}(hb':zS b=true)(ha:PE X a (rdE D W f))(ho:PE X o (rdE D W fo))(hb:PE X b (rdE D W fb)) :
  PS X (.Assign [.Subscript o b p1] a pos) (rdS D W (Wv fo fb f)):=by
 rintro pins s σ H E I ⟨φ,α,τ,μ,sr,mr,p⟩
 have h1:swapsWithSole [.Subscript o b p1] a pos.line X.env=pure false:=by cases a<;>rfl
 have h2:swappedStores [.Subscript o b p1] a X.env=pure none:=by cases a<;>rfl
 refine ZO ha (Wq ho hb (VZ (by have:=C.toCk.unt;omega)) (λv=>by cases b<;>first|(simp[zS] at hb';done)|rfl)) h1 h2 rfl pins s σ H E I ⟨φ,α,τ,μ,sr,mr,(PostS.out sr p).mono λt μ1 α1 H1 st1 m1 q v d=>?_⟩
 have sr1:=sr.step st1
 refine⟨φ,α1,τ,μ1,sr1,m1,(PostS.out sr1 q).mono λot μ2 α2 H2 st2 m2 q2 ov dv=>?_⟩
 have sr2:=sr1.step st2
 refine⟨φ,α2,τ,μ2,sr2,m2,(PostS.out sr2 q2).mono λit μ3 α3 H3 st3 m3 q3 iv di=>?_⟩
 have d3:=(d.step st2).step st3
 have dv:=dv.step st3
 cases ot with
 | «mut» i=>
  obtain⟨x,hx,rfl⟩:=dv
  cases it with
  |int kk=>
   have di:iv=.int kk:=di
   subst di
   rcases PostS.or q3 with q3|q3
   ·obtain⟨ts,hμ,hk,q3⟩:=PostS.ex1 q3
    obtain⟨xs,hH,l⟩:=m3.ob i x _ hx hμ
    have st4:Stp α3 H3 α3 (upd H3 x (.lst (xs.set kk.toNat v))):=Stp.turn (List.mem_of_getElem? hx) ⟨_,hH⟩
    have hi:i<μ3.length:=(List.getElem?_eq_some_iff.mp hμ).1
    exact .inl ⟨x,kk,xs,rfl,rfl,hH,hk.1,by rw[←l.length];exact hk.2.1,hk.2.2,PostS.nx q3 st4 (m3.turn hx hi st4 ⟨_,z6,DenL.set (l.step st4) (d3.step st4)⟩) ((sr2.step st3).step st4)⟩
   ·obtain⟨kvs,hμ,hk,q3⟩:=PostS.ex1 q3
    obtain⟨gs,hH,l⟩:=m3.ob i x _ hx hμ
    have st4:Stp α3 H3 α3 (upd H3 x (.dK (putK gs (.inl kk) v))):=Stp.turn (List.mem_of_getElem? hx) ⟨_,hH⟩
    have hi:i<μ3.length:=(List.getElem?_eq_some_iff.mp hμ).1
    exact .inr ⟨x,gs,(.inl kk),rfl,rfl,hH,by rw[jL l];exact Nat.lt_of_lt_of_le hk (zk (Nat.le_refl _)),PostS.nx q3 st4 (m3.turn hx hi st4 ⟨_,z6,uF (d3.step st4) (l.step st4)⟩) ((sr2.step st3).step st4)⟩
  |str z=>
   have di:iv=.str z:=di
   obtain⟨kvs,hμ,hk,q3⟩:=PostS.ex1 q3
   obtain⟨gs,hH,l⟩:=m3.ob i x _ hx hμ
   have st4:Stp α3 H3 α3 (upd H3 x (.dK (putK gs (.inr z) v))):=Stp.turn (List.mem_of_getElem? hx) ⟨_,hH⟩
   have hi:i<μ3.length:=(List.getElem?_eq_some_iff.mp hμ).1
   exact .inr ⟨x,gs,(.inr z),rfl,di,hH,by rw[jL l];exact Nat.lt_of_lt_of_le hk (zk (Nat.le_refl _)),PostS.nx q3 st4 (m3.turn hx hi st4 ⟨_,z6,uF (d3.step st4) (l.step st4)⟩) ((sr2.step st3).step st4)⟩
  |_=>exact PostS.elim q3
 |_=>exact PostS.elim q3
theorem YI{β:Type}{R:β->Mem->List Addr->Hp->Prop}{kk:T->Mem->RE β}{x y:T}{v w:V}{u1 u2:Value}(I:Inv X pins σ H s)(hu:X.A.units+64<cLine)(mr:MRel D φ α H μ)(d1:Den D φ α H x v)(d2:Den D φ α H y w)(r1:RelV v u1)(r2:RelV w u2)
  (p:Post D W φ α H σ R ((inT x y μ).bind kk)):wpAny (model X.prog X.w) X.A (compareOp .In u1 u2) (EP X pins σ λz H1=>∃t μ1 α1,Stp α H α1 H1/\MRel D φ α1 H1 μ1/\Den D φ α1 H1 t z/\Post D W φ α1 H1 σ R (kk t μ1)) X.xe s:=
 Y4 I hu mr d1 d2 r1 r2 (p.bind.mono λt μ' α' H' st m q v d=>⟨t,μ',α',st,m,d,q⟩)
theorem QT(C:Ck D W Γ X k)(ho:qK .In b=true)(ha:PE X a (rdE D W f))(hb:PE X b (rdE D W g)):PT X (.Compare a [.In] [b] pos) (rdT D W (tE (Vl f g))):=by
 rintro pins s σ H Q I ⟨φ,α,τ,μ,sr,mr,p⟩
 have p:Post D W φ α H σ (λb _ _ H'=>Q b H') ((f τ μ).bind λx μ1=>(g τ μ1).bind λy μ2=>(inT x y μ2).bind kj):=p
 refine wpAny_isTrue_Compare1 (thn (sub ha I sr mr p) ?_) (vf ho)
 rintro u s1 ⟨v,H1,t,μ1,α1,I1,r1,st1,sr1,mr1,d1,p1⟩
 refine thn (sub hb I1 sr1 mr1 p1) ?_
 rintro u' s2 ⟨v',H2,t',μ2,α2,I2,r2,st2,sr2,mr2,d2,p2⟩
 refine thn (YI I2 C.unt mr2 (d1.step st2) d2 r1 r2 p2) ?_
 rintro d s3 ⟨z,H3,I3,r3,t3,μ3,α3,st3,mr3,d3,p3⟩
 unfold kj at p3
 split at p3
 ·cases d3
  cases r3
  exact wpAny_truthy_bool ⟨H3,I3,p3.ok (Stp.refl _ _) mr3⟩
 ·exact p3.elim
end
noncomputable def XI(Γ:Cn)(b:Expr):Bool:=match b with
 |.Name x _=>(idx Γ.N x).isSome
 |_=>false
noncomputable def YQ:ER:=λr Γ e=>match e with
 |.Compare a [.In] [b] _=>gd (XI Γ b&&qK .In b) ((r.e Γ a).bind λf=>(r.e Γ b).bind λg=>some (Vl f g))
 |_=>none
theorem KY{D:DP}:EOk D YQ:=by
 intro r H X W Γ k e d C h
 unfold YQ at h
 split at h
 ·obtain⟨hb,h1⟩:=zj h
  obtain⟨f,e1,h1⟩:=bnd h1
  obtain⟨g,e2,h1⟩:=bnd h1
  cases h1
  simp only[Bool.and_eq_true] at hb
  exact UT C hb.2 (H.e C e1) (H.e C e2)
 ·cases h
noncomputable def Jn:TR:=λr Γ e=>match e with
 |.Compare a [.In] [b] _=>gd (XI Γ b&&qK .In b) ((r.e Γ a).bind λf=>(r.e Γ b).bind λg=>some (tE (Vl f g)))
 |_=>none
theorem Vi{D:DP}:TOk D Jn:=by
 intro r H X W Γ k e d C h
 unfold Jn at h
 split at h
 ·obtain⟨hb,h1⟩:=zj h
  obtain⟨f,e1,h1⟩:=bnd h1
  obtain⟨g,e2,h1⟩:=bnd h1
  cases h1
  simp only[Bool.and_eq_true] at hb
  exact QT C hb.2 (H.e C e1) (H.e C e2)
 ·cases h
noncomputable def ZK:SR:=λr Γ s=>match s with
 |.Assign [.Subscript o b _] e _=>gd (zS b) ((r.e Γ o).bind λfo=>(r.e Γ b).bind λfb=>(r.e Γ e).bind λf=>some (Wv fo fb f))
 |_=>none
theorem QV{D:DP}:SOk D ZK:=by
 intro r H X W Γ k e d C h
 unfold ZK at h
 split at h
 ·obtain⟨hb,h1⟩:=zj h
  obtain⟨fo,e1,h1⟩:=bnd h1
  obtain⟨fb,e2,h1⟩:=bnd h1
  obtain⟨f,e3,h1⟩:=bnd h1
  cases h1
  exact Kj C hb (H.e C.toCk e3) (H.e C.toCk e1) (H.e C.toCk e2)
 ·cases h
end NH
namespace NH.P
open PySem L2 NH
@[reducible] noncomputable def jP:List Ds:=[(sIf (tOr (wY (tE (W7 [4] (eV 1)))) (tE (zB .NotEq (eB1 yE (eV 1)) (eC (.int 3))))) [(zz (eC (.bl false)))] []),(sIf (wY (vo (tE (z9 qH [(eIx (eV 1) (eC (.int 0))),(zC (eV 0) 1)])) (vo (tE (z9 qa [(eIx (eV 1) (eC (.int 1)))])) (tE (z9 qa [(eIx (eV 1) (eC (.int 2)))]))))) [(zz (eC (.bl false)))] []),(zz (eCh (eC (.int 0)) [(.LtE,(eIx (eV 1) (eC (.int 1)))),(.Lt,(eIx (eV 1) (eC (.int 2)))),(.LtE,(zC (eV 0) 0))]))]
noncomputable def vt:Fn:=fnW 2 0 jP
@[reducible] noncomputable def wO:List Ds:=[(sIf (wY (tE (z9 vt [(eV 0),(eV 1)]))) [(qp 18 [(eC (.str "no lease of the shape"))])] [])]
noncomputable def wz:Fn:=fnW 2 0 wO
@[reducible] noncomputable def vA:List Ds:=[(wZ (eV 0) 5 (eV 1)),(wZ (eV 0) 6 (eV 2)),(wZ (eV 0) 7 (eIx (eV 2) (eC (.int 2)))),(wZ (eV 0) 8 (eC (.bl false)))]
noncomputable def wW:Fn:=fnW 3 0 vA
@[reducible] noncomputable def Qk:List Ds:=[(zz (zB .Lt (eB2 xf (eIx (zC (eV 0) 6) (eC (.int 1))) (eV 1)) (eB2 Qd (zC (eV 0) 7) (eV 2))))]
noncomputable def meets:Fn:=fnW 3 0 Qk
@[reducible] noncomputable def wK:List Ds:=[(zo 3 (eV 1)),(yl (.one 4) (iE (Zm 0 (eIx (zC (eV 0) 6) (eC (.int 1))) (eV 0))) [(sIf (tE (z9 meets [(eV 4),(eV 3),(zb .Add (eV 3) (eV 2))])) [(zo 3 (zC (eV 4) 7))] [])]),(zz (eV 3))]
noncomputable def q9:Fn:=fnW 3 2 wK
@[reducible] noncomputable def wI:List Ds:=[(zo 3 WV),(yl (.one 4) (iE (eV 0)) [(sIf (tE (z9 meets [(eV 4),(eV 1),(zb .Add (eV 1) (eV 2))])) [(Wv (eV 3) (eIx (zC (eV 4) 6) (eC (.int 0))) (eC (.bl true)))] [])]),(zo 5 (eC (.int 0))),(ko (tE (Vl (eV 5) (eV 3))) [(zo 5 (zb .Add (eV 5) (eC (.int 1))))]),(zz (eV 5))]
noncomputable def qv:Fn:=fnW 3 3 wI
@[reducible] noncomputable def wM:List Ds:=[(wZ (eV 0) 9 (eV 1)),(wZ (eV 0) 10 (JW []))]
noncomputable def qz:Fn:=fnW 2 0 wM
@[reducible] noncomputable def zL:List Ds:=[(sIf (wY (tE (z9 qF [(eV 1)]))) [(qp 17 [(eC (.str "a holder is a text of one to eight small letters"))])] []),(sIf (vo (tE (zB .IsNot (eV 2) (eC .non))) (wY (tE (z9 qH [(eV 2),(zC (zC (eV 0) 9) 1)])))) [(qp 13 [(eC (.str "no house of the shape"))])] []),(sIf (wY (tE (z9 q_ [(eV 4)]))) [(qp 16 [(eC (.str "a span is a whole number from 1 on"))])] []),(sIf (wY (tE (z9 qa [(eV 3)]))) [(qp 16 [(eC (.str "a moment is a whole number"))])] [])]
noncomputable def zF:Fn:=fnW 5 0 zL
@[reducible] noncomputable def qo:List Ds:=[(zz (qw 1 [1] (.one 0) (iE (zC (eV 0) 10)) [(tE (zB .Eq (eIx (zC (eV 0) 6) (eC (.int 0))) (eV 1)))] (eV 0)))]
noncomputable def zG:Fn:=fnW 2 0 qo
@[reducible] noncomputable def qc:List Ds:=[(sIf (tE (zB .Is (eV 1) (eC .non))) [(zz (wq [(z9 qv [(zC (eV 0) 10),(eV 2),(eV 3)]),(eV 2),(zb .Add (eV 2) (eV 3))]))] []),(zo 4 (z9 q9 [(vL 43 zG (eV 0) [(eV 1)]),(eV 2),(eV 3)])),(zz (wq [(eV 1),(eV 4),(zb .Add (eV 4) (eV 3))]))]
noncomputable def zA:Fn:=fnW 4 1 qc
@[reducible] noncomputable def vh:List Ds:=[(qd (vL 43 zF (eV 0) [(eV 1),(eV 2),(eV 3),(eV 4)])),(zo 5 (vL 43 zA (eV 0) [(eV 2),(eB2 xf (eV 3) (eC (.int 0))),(eV 4)])),(sIf (tOr (tE (zB .GtE (eIx (eV 5) (eC (.int 0))) (zC (zC (eV 0) 9) 1))) (tE (zB .Gt (eIx (eV 5) (eC (.int 2))) (zC (zC (eV 0) 9) 0)))) [(qp 19 [(eC (.str "no such stretch is free"))])] []),(qd (QS (zC (eV 0) 10) (Xl 42 wW [(eV 1),(eV 5)]))),(zz (eV 5))]
noncomputable def qR:Fn:=fnW 5 1 vh
@[reducible] noncomputable def wm:List Ds:=[(qd (z9 wz [(zC (eV 0) 9),(eV 1)])),(yl (.one 2) (iE (zC (eV 0) 10)) [(sIf (vo (tE (zB .Eq (zC (eV 2) 6) (eV 1))) (wY (tE (zC (eV 2) 8)))) [(zz (eV 2))] [])]),(qp 18 [(eC (.str "no lease that was let and isn't cut"))])]
noncomputable def qh:Fn:=fnW 2 1 wm
@[reducible] noncomputable def w6:List Ds:=[(zo 3 (vL 43 qh (eV 0) [(eV 1)])),(sIf (tE (zB .Is (eV 2) (eC .non))) [(zo 4 (eIx (eV 1) (eC (.int 1))))] [(sIf (vo (tE (z9 qa [(eV 2)])) (tE (eCh (eIx (eV 1) (eC (.int 1))) [(.LtE,(eV 2)),(.Lt,(eIx (eV 1) (eC (.int 2))))]))) [(zo 4 (zb .Add (eV 2) (eC (.int 1))))] [(qp 16 [(eC (.str "no moment of the lease"))])])]),(wZ (eV 3) 7 (eV 4)),(wZ (eV 3) 8 (eC (.bl true)))]
noncomputable def w8:Fn:=fnW 3 2 w6
@[reducible] noncomputable def wk:List Ds:=[(zz (qw 1 [] (.one 0) (iE (zC (eV 0) 10)) [] (wq [(zC (eV 0) 5),(eIx (zC (eV 0) 6) (eC (.int 0))),(eIx (zC (eV 0) 6) (eC (.int 1))),(zC (eV 0) 7)])))]
noncomputable def zZ:Fn:=fnW 1 0 wk
@[reducible] noncomputable def Qh:List Ds:=[(zo 5 (eC .non)),(z0k [(zo 5 (vL 43 qR (eV 0) [(eV 1),(eV 2),(eV 3),(eV 4)]))] [([19],none,[(zo 5 (eC .non))])]),(zz (eV 5))]
noncomputable def xE:Fn:=fnW 5 1 Qh
end NH.P
namespace NH
open PySem PySem.Spec PyProof.Rows L2
theorem walkT2{l:PySem.W.OpenLaw}{q:Program}{loose:List Str}{XP:(Str->Option Value)->Heap->Prop}{YP:World->Heap->Prop}{d:DefRec}{K:Params->PySem.W.Frag}{x:Str}{k:Nat}{P0:Addr}(hk:k<=90)(hn:l.most=some 63)(hdf:d.params.defaults=[])
  (hY:∀(w:World) (h:Heap),YP w h->(K w.params).In h) (hT:∀(w:World) (h:Heap),YP w h->h.get? P0=some (PySem.W.tabObj #[]))
  (F:∀(w:World) (mg:Str->Option Value) (fa:Addr) (h:Heap),(K w.params).In h->h.Ns mainGlobals mg->mg d.name=some (.ref fa)->
   (Zz (K w.params)=true/\(K w.params).lookup P0=none/\P0≠cStatics/\∃c,PySem.W.codeHdIn (K w.params) c P0=true)/\∃fd:FuncData,(∀(s:Shared) (u:Value),BindsTo s fd ⟨[u],[]⟩ [(x,u)])/\∀base:Heap,(K w.params).In base->base.Ns mainGlobals mg->base.BuiltinsAt mg P0->FnOk l.prog w (K w.params) mg base (CX1 l.prog w) k fa fd [x] (Z1 (K w.params) P0)) :
  PySem.W.WalkO q loose XP YP l.row.toRowW d [] (λf vs=>PySem.call f vs):=by
 refine Att.attach_call hn hdf λw s₀ s₁ mg mb fa o pm cd doc a vs ns G Y ho hd hcd hmg hobj hints hlen hg=>?_
 have KX:=hY w _ Y
 obtain⟨⟨f1,f2,f3,c,f4⟩,fd,hb,hF⟩:=F w mg fa _ KX G.T.g hmg
 exact QX KX G.T.g G.T.b G.T.builtins G.T.nolimit hg G.T.bmain f1 (hT w _ Y) f2 f3 f4 hobj hints (Nat.le_trans hlen (by decide)) (Room.mono (k:=90) ⟨rfl,by decide,by decide⟩ hk) hF hb (λH hr hP hne=>⟨a,ns,rfl,hr,hP,hne,hlen,λ_=>rfl⟩) λH e s' z=>by
  obtain⟨_,_,_,_,_,_,_,_,_,_,_,_,_,_,_,z⟩:=z
  exact z
noncomputable abbrev z29(n:Nat)(o f:De):De:=λτ μ=>(o τ μ).bind λt μ1=>(ZG t n μ1).bind λw μ2=>.grd (z1c w) ((f τ μ2).bind λ_ μ3=>.ok .non μ3)
noncomputable abbrev z2b(j:Nat):De:=λ_ (μ:Mem) K _=>(∃i:Nat,μ[i]?=some (MO.tab j))/\K (.clo (2 * j) [.clo (100+j) []]) μ
noncomputable def z2d:Str:=⟨#[37]⟩
noncomputable def z2a(i:Nat)(t:T)(μ:Mem)(zs:List T):Prop:=t=.lst zs\/∃j,t=.mut j/\j≠i/\μ[j]?=some (.lst zs)
noncomputable abbrev eC2(op:T->T->Mem->RE T)(f g:De):De:=λτ μ=>(f τ μ).bind λx μ1=>(g τ μ1).bind λy μ2=>op x y μ2
section
variable {X:Cx}{D:DP}{W:XW}{Γ:Cn}{k:Nat}{pins:List (Addr×Obj)}{s:Shared}{σ:St}{H:Hp}{φ α:List Addr}{τ:Sl}{μ:Mem}{f g:De}{a b:Expr}{pos:Pos}
noncomputable def OpC (X:Cx)(D:DP)(W:XW)(op:CmpOp)(r:T->T->Mem->RE T):Prop:=
 ∀(pins:List (Addr×Obj)) (s:Shared) (σ:St) (H:Hp) (φ α:List Addr) (μ:Mem) (x y:T) (v w:V) (u1 u2:Value) (Q:VK),Inv X pins σ H s->MRel D φ α H μ->Den D φ α H x v->Den D φ α H y w->RelV v u1->RelV w u2->Post D W φ α H σ (RV D φ Q) (r x y μ)->
  wpAny (model X.prog X.w) X.A (compareOp op u1 u2) (EP X pins σ Q) X.xe s
theorem z0t{op:CmpOp}{r:T->T->Mem->RE T}(h:OpC X D W op r)(ho:qK op b=true)(ha:PE X a (rdE D W f))(hb:PE X b (rdE D W g)):PE X (.Compare a [op] [b] pos) (rdE D W (eC2 r f g)):=by
 rintro pins s σ H Q I ⟨φ,α,τ,μ,sr,mr,p⟩
 refine wpAny_Compare1 (thn (sub ha I sr mr p) ?_) (vf ho)
 rintro u s1 ⟨v,H1,t,μ1,α1,I1,r1,st1,sr1,mr1,d1,p1⟩
 refine thn (sub hb I1 sr1 mr1 p1) ?_
 rintro u' s2 ⟨v',H2,t',μ2,α2,I2,r2,st2,sr2,mr2,d2,p2⟩
 exact h pins s2 σ H2 φ α2 μ2 t t' v v' u u' Q I2 mr2 (d1.step st2) d2 r1 r2 p2
end
end NH
namespace NH
open PySem PySem.Spec PyProof.Rows L2 PySem.W
noncomputable def qU (K:Frag)(x:Str)(st:Stmt):Prop:=∃f fd,nsIn K mainGlobals x=some (some (.ref f))/\Fun K x x st f fd
noncomputable def yF (K:Frag)(C:Addr)(x q:Str)(st:Stmt):Prop:=∃f fd,findIn K (.ref C) x=some (some (.ref f))/\isFn K (.ref f)=true/\Fun K x q st f fd
noncomputable def Jl (K:Frag)(C:Addr)(x q:Str)(st:Stmt):Prop:=∃f fd,nsIn K mainGlobals x=some (some (.ref C))/\findIn K (.ref C) "__init__"=some (some (.ref f))/\isFn K (.ref f)=true/\Fun K "__init__" q st f fd/\makesIn K C=true/\keepIn K (.ref C)=true
theorem dfp{K:Frag}{x:Str}{st:Stmt}{f:Addr}{oc:Value}{od an:Option Addr}{osl:Array (Option Value)}{kV doc pm cdv ct:Value}(a:nsIn K mainGlobals x=some (some (.ref f)))(l:K.lookup f=some ⟨oc,od,.func (fnOf x x (zQ st) (z7 st) (zr st) .none kV doc pm an cdv ct),osl⟩)(c:codeIn K cdv x=true)(k:keepIn K (.ref f)=true):qU K x st:=⟨f,_,a,xc l c k⟩
theorem mtp{K:Frag}{x q:Str}{st:Stmt}{f C:Addr}{oc:Value}{od an:Option Addr}{osl:Array (Option Value)}{kV doc pm cdv ct:Value}(a:findIn K (.ref C) x=some (some (.ref f)))(j:isFn K (.ref f)=true)(l:K.lookup f=some ⟨oc,od,.func (fnOf x q (zQ st) (z7 st) (zr st) .none kV doc pm an cdv ct),osl⟩)(c:codeIn K cdv q=true)(k:keepIn K (.ref f)=true):yF K C x q st:=⟨f,_,a,j,xc l c k⟩
theorem clp {K:Frag} {x q:Str} {st:Stmt} {f C:Addr} {oc:Value} {od an:Option Addr} {osl:Array (Option Value)} {kV doc pm cdv ct:Value} (a:nsIn K mainGlobals x=some (some (.ref C))) (i:findIn K (.ref C) "__init__"=some (some (.ref f))) (j:isFn K (.ref f)=true) (l:K.lookup f=some ⟨oc,od,.func (fnOf "__init__" q (zQ st) (z7 st) (zr st) .none kV doc pm an cdv ct),osl⟩) (c:codeIn K cdv q=true) (k:keepIn K (.ref f)=true) (m:makesIn K C=true) (kk:keepIn K (.ref C)=true):Jl K C x q st:=⟨f,_,a,i,j,xc l c k,m,kk⟩
noncomputable def PL:Nat->(List Value->Prop)->Prop
 |0,P=>P []
 |n+1,P=>∀a,PL n λl=>P (a::l)
theorem PL.all:∀{n:Nat} {P:List Value->Prop},PL n P->∀us:List Value,us.length=n->P us
 |0,_,h,[],_=>h
 |_+1,_,h,a::l,e=>PL.all (h a) l (Nat.succ.inj e)
abbrev BdP(x q:Str)(st:Stmt)(ps:List Str):Prop:=∀(kV doc pm:Value) (an:Option Addr) (cdv ct:Value),PL ps.length λus=>bindArgs (fnOf x q (zQ st) (z7 st) (zr st) .none kV doc pm an cdv ct) ⟨us,[]⟩=pure (ps.zip us)
abbrev GsB(l:OpenLaw)(w:World)(K:Frag)(mg:Str->Option Value)(base:Heap)(k:Nat)(gs:List (Str×GM)){A:Ads}{clo:Nat->Addr->Option HO->List V->Prop}{tabs:Nat->Option (Addr×List Pos×Str)}:Prop:=GsOk l.prog w K mg base A clo k gs tabs
structure Pk(R:Rules)(K:Frag)(mg:Str->Option Value)(base:Heap)(A:Ads)(cls fld:List (Str×Nat)):Prop where
 r:∀{D},RulesOk D R
 i:K.In base
 n:base.Ns mainGlobals mg
 c:chk K A cls fld=true
section
variable {R:Rules}{P:Program}{w:World}{K:Frag}{mg:Str->Option Value}{base:Heap}{A:Ads}{cls fld:List (Str×Nat)}{clo:Nat->Addr->Option HO->List V->Prop}{gs:List (Str×GM)}{tabs:Nat->Option (Addr×List Pos×Str)}{k:Nat}{x qu:Str}{st:Stmt}{f C:Addr}{fd:FuncData}{ps N G cel own:List Str}{m n:Nat}{ds:List Ds}
theorem Pk.ok(Z:Pk R K mg base A cls fld)(F:Fun K x qu st f fd)(q:GsOk P w K mg base A clo k gs tabs)(hds:zp ((comp R n).s (cn cls fld gs N G cel own none)) (z7 st)=some ds)(hs:j4 (cn cls fld gs N G cel own none) ps (zr st)=true)(hm:N.length=ps.length+m) :
  FnOk P w K mg base (CX1 P w) (k+1) f fd ps (spN (mkD K A clo tabs) ps.length (fnW ps.length m ds)):=by
 obtain⟨oc,od,kV,doc,pm,an,cdv,ct,osl,rfl,lk,hcd⟩:=F.ex
 exact yg Z.r (VE Z.i Z.n Z.c q) lk hcd hs hm hds
theorem Pk.fn (Z:Pk R K mg base A cls fld) (p:qU K x st) (q:GsOk P w K mg base A clo k gs tabs) (hds:zp ((comp R n).s (cn cls fld gs N G cel own none)) (z7 st)=some ds) (hs:j4 (cn cls fld gs N G cel own none) ps (zr st)=true) (hm:N.length=ps.length+m) (hb:BdP x x st ps) (hx:(x == ("__debug__":Str))=false) :
  GsOk P w K mg base A clo (k+1) ((x,GM.fn (fnW ps.length m ds))::gs) tabs:=by
 obtain⟨f,fd,a,F⟩:=p
 exact GsOk.add (q.mono (Nat.le_succ k)) ⟨f,mg_of Z.i Z.n a,fd,ps,k+1,F.kp,F.binds λkV dc pm an cd ct=>(hb kV dc pm an cd ct).all,Nat.le_refl _,Z.ok F q hds hs hm,jF⟩ hx
theorem Pk.met {c:Nat} (Z:Pk R K mg base A cls fld) (p:yF K C x qu st) (q:GsOk P w K mg base A clo k gs tabs) (hds:zp ((comp R n).s (cn cls fld gs N G cel own none)) (z7 st)=some ds) (hc:A.cs.lookup c=some C) (hn:(FLD.contains x)=false) (hs:j4 (cn cls fld gs N G cel own none) ps (zr st)=true) (hm:N.length=ps.length+m) (hb:BdP x qu st ps) (hx:(dot x == ("__debug__":Str))=false) :
  GsOk P w K mg base A clo (k+1) ((dot x,GM.met c x (fnW ps.length m ds))::gs) tabs:=by
 obtain⟨f,fd,i,j,F⟩:=p
 refine GsOk.add (q.mono (Nat.le_succ k)) ⟨C,f,fd,ps,k+1,hc,z07 Z.c hc,⟨i,j,F.kp⟩,λi h=>?_,F.binds λkV dc pm an cd ct=>(hb kV dc pm an cd ct).all,Nat.le_refl _,Z.ok F q hds hs hm,jF⟩ hx
 have:=List.contains_iff_mem.mpr (List.mem_of_getElem? (show FLD[i]?=some x from h))
 rw[hn] at this;cases this
theorem Pk.cl {c:Nat} {b:Bool} (Z:Pk R K mg base A cls fld) (p:Jl K C x qu st) (q:GsOk P w K mg base A clo k gs tabs) (hds:zp ((comp R n).s (cn cls fld gs N G cel own none)) (z7 st)=some ds) (hc:A.cs.lookup c=some C) (hs:j4 (cn cls fld gs N G cel own none) ps (zr st)=true) (hm:N.length=ps.length+m) (hb:BdP "__init__" qu st ps) (hx:(x == ("__debug__":Str))=false) :
  GsOk P w K mg base A clo (k+2) ((x,GM.mk c b (fnW ps.length m ds))::gs) tabs:=by
 obtain⟨f,fd,a,i,j,F,mk,kk⟩:=p
 exact GsOk.add (q.mono (Nat.le_add_right k 2)) ⟨C,f,fd,ps,k+1,hc,mg_of Z.i Z.n a,⟨mk,i,j,kk⟩,F.binds λkV dc pm an cd ct=>(hb kV dc pm an cd ct).all,Nat.le_refl _,Z.ok F q hds hs hm,jF⟩ hx
end
end NH
namespace NH
open PySem PySem.Spec PyProof.Rows L2
section
variable {prog:Program}{w:World}{K:Type}[DecidableEq K]{knd:HeapKind prog w K}{A:Around}{E:Value->Shared->Prop}{s:Shared}
noncomputable def xa(xs:List (K×Addr×Value))(k:K):List (K×Addr×Value):=xs.filter λx=>decide (x.1≠k)
theorem kB:∀{xs:List (K×Addr×Value)} {k:K} {j:Nat} {p:Addr×Value},(xs.map (·.1)).Nodup->xs[j]?=some (k,p)->xs.eraseIdx j=xa xs k
 |[],k,j,p,_,h=>by simp at h
 |x::r,k,j,p,hn,h=>by
  rw[List.map_cons,List.nodup_cons] at hn
  have all:∀k',k'∉r.map (·.1)->r.filter (λx=>decide (x.1≠k'))=r:=λk' hk=>by
   rw[List.filter_eq_self]
   intro y hy
   simp only[ne_eq,decide_not,Bool.not_eq_true',decide_eq_false_iff_not]
   rintro rfl
   exact hk (List.mem_map.mpr ⟨y,hy,rfl⟩)
  cases j with
  |zero=>
   simp only[List.getElem?_cons_zero,Option.some.injEq] at h
   subst h
   show r=xa ((k,p)::r) k
   unfold xa
   rw[List.filter_cons_of_neg (by simp),all k hn.1]
  |succ j=>
   simp only[List.getElem?_cons_succ] at h
   have ne:x.1≠k:=λe=>hn.1 (e▸List.mem_map.mpr ⟨(k,p),List.mem_of_getElem? h,rfl⟩)
   show x::r.eraseIdx j=xa (x::r) k
   unfold xa
   rw[List.filter_cons_of_pos (by simpa using ne),kB hn.2 h]
   rfl
theorem yn{α β:Type}(f:α->β):∀(l:List α) (j:Nat),(l.eraseIdx j).map f=(l.map f).eraseIdx j
 |[],_=>by simp
 |x::r,0=>rfl
 |x::r,j+1=>by
  show f x::(r.eraseIdx j).map f=f x::(r.map f).eraseIdx j
  rw[yn f r j]
theorem Zy{xs:List (K×Addr×Value)}{k:K}(hn:(xs.map (·.1)).Nodup):((xa xs k).map (·.1)).Nodup:=
 hn.sublist (List.Sublist.map _ List.filter_sublist)
theorem QZ{d a:Addr}{xs:List (K×Addr×Value)}{k:K}{p:Addr×Value}{Q:Option DictEntry->Shared->Prop}(hu:knd.room A)(hkey:knd.is s.heap k a)(hm:s.heap.DictOfH knd d xs)(hp:atKey xs k=some p)(hsz:xs.length<=sizeLine)
  (hQ:∀h' e,e.val=p.2->h'.DictOfH knd d (xa xs k)->Heap.SameBut d s.heap h'->Q (some e) {s with heap:=h',toks:=s.toks+knd.draws k}) :
  wpAny (model prog w) A (Builtin.Dict.takeOut d (.ref a)) Q E s:=by
 obtain⟨o,es,ep,ho,hc,hd,he,his,hn⟩:=hm
 have hes:es.size<=sizeLine:=by rw[size_of_entries he];exact hsz
 unfold Builtin.Dict.takeOut
 try with_reducible refine wpAny_holding ?_
 refine wpAny_bind (knd.pyHash hu hkey (wpAny_bind (wpAny_dictFind_heap (s:={s with toks:=s.toks+knd.draws k}) hu hkey ho hd he his hn (λno=>?_) λj q hj=>?_)))
 ·rw[atKey_none_of_get no] at hp;cases hp
 ·rw[atKey_of_get hn hj] at hp
  cases hp
  refine wpAny_bind (wpAny_dictEntries (s:={s with toks:=s.toks+knd.draws k}) ho hd ?_)
  rw[entry_at he j,hj]
  refine wpAny_bind (wpAny_updateDictKeys (hz:=hes) (s:={s with toks:=s.toks+knd.draws k}) ho hd (wpAny_pure (hQ _ (entryOfKey knd (k,p)) rfl ⟨_,_,ep+1,Heap.get?_update_self _ ho (Obj.isFreed_of_dict (Obj.data_mapDictKeys hd _)),hc.mapDictKeys _,Obj.data_mapDictKeys hd _,?_,λx hx=>?_,Zy hn⟩ (Heap.SameBut.update ..))))
  ·have hj':=(List.getElem?_eq_some_iff.mp hj).1
   rw[←kB hn hj]
   obtain⟨l⟩:=es
   have he:l=xs.map (entryOfKey knd):=he
   subst he
   rw[yn]
   simp[Array.eraseIdxIfInBounds,hj']
  ·exact knd.keeps (his x (List.mem_filter.mp hx).1) ho hd (Heap.SameBut.update ..)
theorem VU{d a:Addr}{xs:List (K×Addr×Value)}{k:K}{p:Addr×Value}{Q:Value->Shared->Prop}(hu:knd.room A.in1)(hkey:knd.is s.heap k a)(hm:s.heap.DictOfH knd d xs)(hp:atKey xs k=some p)(hsz:xs.length<=sizeLine)
  (hQ:∀h',h'.DictOfH knd d (xa xs k)->Heap.SameBut d s.heap h'->Q p.2 {s with heap:=h',toks:=s.toks+knd.draws k}) :
  wpAny (model prog w) A (call (.builtin "dict.pop") [.ref d,.ref a]) Q E s:=by
 refine call_meetsIn (S:=λB R s=>knd.room B.in1/\knd.is s.heap k a/\s.heap.DictOfH knd d xs/\∀h',h'.DictOfH knd d (xa xs k)->Heap.SameBut d s.heap h'->R (.ok (.ret p.2)) {s with heap:=h',toks:=s.toks+knd.draws k}) PySem.F.slot_dict_pop hm.typeIs PySem.F.entry_dict_pop (PySem.F.args_dict_pop_2 _ _) (.of_wp λB R s ⟨hu,hkey,hm,hQ⟩=>?_) ⟨hu,hkey,hm,λh' a b=>hQ h' a b⟩
 obtain⟨o,es,ep,ho,hc,hd,he,his,hn⟩:=id hm
 unfold Builtin.«dict.pop»
 refine wpAny_bind ?_
 unfold Builtin.Dict.keyAndDefault
 refine wpAny_bind (wpAny_notOrdered_dict hm.typeIs ?_)
 show wpAny _ _ (pure (d,Value.ref a,none)) _ _ s
 refine wpAny_pure ?_
 have kp:(keyPart (Value.ref a)).isSome=false:=rfl
 simp only[kp,Bool.false_eq_true,if_false]
 refine wpAny_bind (wpAny_dictEntries ho hd (wpAny_bind (wpAny_pure ?_)))
 have hne:es.isEmpty=false:=by
  rw[Bool.eq_false_iff]
  intro z
  have h0:es=#[]:=Array.isEmpty_iff.mp z
  have:xs=[]:=List.length_eq_zero_iff.mp (by rw[←size_of_entries he,h0];rfl)
  rw[this] at hp;cases hp
 rw[hne]
 simp only[Bool.false_eq_true,if_false]
 refine wpAny_bind (QZ hu hkey hm hp hsz λh' e ev hm' hs=>?_)
 simp only[Option.isNone_some,Bool.false_eq_true,if_false]
 exact wpAny_bind (wpAny_letGo (wpAny_pure ⟨e.val,rfl,by rw[ev];exact hQ h' hm' hs⟩))
theorem QM{d a:Addr}{xs:List (K×Addr×Value)}{k:K}{v:Value}{Q:Unit->Shared->Prop}(hu:knd.room A)(hkey:knd.is s.heap k a)(hm:s.heap.DictOfH knd d xs)(hno:atKey xs k=none)(hsz:xs.length<=sizeLine)
  (hQ:∀h',h'.DictOfH knd d (xs++[(k,a,v)])->Heap.SameBut d s.heap h'->Q () {s with heap:=h'}) :
  wpAny (model prog w) A (dictSetHashed d (.ref a) (knd.hash k) v) Q E s:=by
 obtain⟨o,es,ep,ho,hc,hd,he,his,hn⟩:=hm
 have hes:es.size<=sizeLine:=by rw[size_of_entries he];exact hsz
 unfold dictSetHashed
 try with_reducible refine wpAny_holding ?_
 refine wpAny_bind (wpAny_dictFind_heap hu hkey ho hd he his hn (λno=>?_) λj q hj=>?_)
 ·have hnot:k∉xs.map (·.1):=not_mem_keys_of_get no
  refine wpAny_bind (wpAny_rule (wpAny_updateDictKeys (hz:=hes) ho hd (hQ _ ⟨_,_,ep+1,Heap.get?_update_self _ ho (Obj.isFreed_of_dict (Obj.data_mapDictKeys hd _)),hc.mapDictKeys _,Obj.data_mapDictKeys hd _,by simp[he,entryOfKey],λx hx=>?_,?_⟩ (Heap.SameBut.update ..))))
  ·rcases List.mem_append.mp hx with z|z
   ·exact knd.keeps (his x z) ho hd (Heap.SameBut.update ..)
   ·rw[List.mem_singleton.mp z]
    exact knd.keeps hkey ho hd (Heap.SameBut.update ..)
  ·rw[List.map_append,List.nodup_append]
   refine⟨hn,by simp,λx hx y hy e=>?_⟩
   rw[List.map_cons,List.map_nil,List.mem_singleton] at hy
   subst hy;subst e;exact hnot hx
 ·rw[atKey_of_get hn hj] at hno;cases hno
theorem Ww{xs:List (K×Addr×Value)}{k:K}(h:k∉xs.map (·.1)):atKey xs k=none:=atKey_none_of_get λj q hj=>h (List.mem_map.mpr ⟨(k,q),List.mem_of_getElem? hj,rfl⟩)
theorem Yz {d:Addr} {o:Obj} {es ep} {nm:String} {ys:List (K×Addr×Value)} {Q:Array DictEntry->Shared->Prop} (ho:s.heap.get? d=some o) (hd:o.data=.dict es ep) (he:es.toList=ys.map (entryOfKey knd)) (his:∀x∈ys,s.TypeIs (.ref x.2.1) "tuple") (hh:(ys.map λy=>knd.hash y.1).Nodup) (h:Q es s) :
  wpAny (model prog w) A (Builtin.Dict.entriesForEmpty nm d) Q E s:=by
 unfold Builtin.Dict.entriesForEmpty
 refine wpAny_bind (wpAny_dictEntries ho hd ?_)
 refine wpAny_bind ?_
 rw[←Array.forIn_toList]
 have one:∀e∈es.toList,(es.filter (·.hash == e.hash)).size<=1:=λe hin=>by
  have e1:(es.filter (·.hash == e.hash)).size=(es.toList.filter (·.hash == e.hash)).length:=by
   obtain⟨l⟩:=es;simp
  rw[e1,he]
  have hn:((ys.map (entryOfKey knd)).map (·.hash)).Nodup:=by rw[List.map_map];exact hh
  generalize ys.map (entryOfKey knd)=l at hn
  induction l with
  |nil=>simp
  |cons x r ih=>
   rw[List.map_cons,List.nodup_cons] at hn
   by_cases c:(x.hash == e.hash)=true
   ·rw[List.filter_cons_of_pos (p:=λx:DictEntry=>x.hash == e.hash) c]
    have:r.filter (·.hash == e.hash)=[]:=by
     rw[List.filter_eq_nil_iff]
     intro y hy hc
     have h1:=beq_iff_eq.mp c
     have h2:=beq_iff_eq.mp hc
     exact hn.1 (List.mem_map.mpr ⟨y,hy,h2.trans h1.symm⟩)
    rw[this];simp
   ·rw[List.filter_cons_of_neg (p:=λx:DictEntry=>x.hash == e.hash) c];exact ih hn.2
 refine wpAny_forIn_list _ (λrest _ s'=>s'=s/\∀e∈rest,e∈es.toList) _ ?_ ?_ _ _ ⟨rfl,λ_ z=>z⟩
 ·rintro x rest b s' ⟨rfl,hr⟩
  have hx:=hr x List.mem_cons_self
  have hx':x∈ys.map (entryOfKey knd):=he▸hx
  obtain⟨y,hy,rfl⟩:=List.mem_map.mp hx'
  have hq:wpAny (model prog w) A (Builtin.Dict.quietEq (entryOfKey knd y).key) (λb s2=>b=false/\s2=s') E s':=by
   show wpAny _ _ (specialOf (.ref y.2.1) "__eq__" >>= λt=>pure (t == some (.builtin "object.__eq__"))) _ _ _
   refine wpAny_bind (wpAny_specialOf (his y hy) PySem.F.slot_tuple_eq.lookup (wpAny_pure ⟨by decide,rfl⟩))
  refine wpAny_bind (wpAny_mono hq (λb s2 ⟨e1,e2⟩=>?_) λ_ _ z=>z)
  subst e1 e2
  have:=one _ hx
  simp only[Bool.not_false,if_true]
  rw[if_neg (by omega)]
  exact wpAny_pure ⟨rfl,λe he=>hr e (List.mem_cons_of_mem _ he)⟩
 ·rintro b s' ⟨rfl,_⟩
  exact wpAny_pure h
theorem z04{nm:String}{d o:Addr}{xs ys:List (K×Addr×Value)}{Q:Unit->Shared->Prop}(hu:knd.room A)(hdo:d≠o)(hoS:(o == sysModules)=false)(hd:s.heap.DictOfH knd d xs)(ho:s.heap.DictOfH knd o ys)
  (his:∀x∈ys,s.TypeIs (.ref x.2.1) "tuple") (hh:(ys.map λy=>knd.hash y.1).Nodup) (hn:((xs++ys).map (·.1)).Nodup) (hsz:xs.length+ys.length<=sizeLine)
  (hQ:∀h',h'.DictOfH knd d (xs++ys)->Heap.SameBut d s.heap h'->Q () {s with heap:=h'}) :
  wpAny (model prog w) A (Builtin.Dict.mergeDict nm d o) Q E s:=by
 obtain⟨od,esd,epd,hod,hcd,hdd,hed,hkd,hnd⟩:=id hd
 obtain⟨oo,eso,epo,hoo,hco,hdo',heo,hko,hno⟩:=id ho
 have hlen:eso.size=ys.length:=size_of_entries heo
 unfold Builtin.Dict.mergeDict
 rw[if_neg (by simpa using hdo)]
 unfold Builtin.Dict.showsAll
 rw[if_neg (by rw[hoS];exact Bool.false_ne_true)]
 refine wpAny_bind (wpAny_pure ?_)
 refine wpAny_bind (wpAny_dictEntries hoo hdo' ?_)
 have loop:wpAny (model prog w) A (do
   let epoch ←dictEpoch o;let l ←dictEntries o
   forIn [:l.size] PUnit.unit λi (_:PUnit)=>(do
     let l' ←dictEntries o
     match l'[i]? with
      |some e=>do
       holding [e.key,e.val] (dictSetHashed d e.key e.hash e.val)
       let ep' ←dictEpoch o
       if (ep' != epoch)=true then do (unsupported (toString nm++toString ":source-changed-during-callback"):Sem PUnit);pure (ForInStep.yield PUnit.unit)
        else pure (ForInStep.yield PUnit.unit)
      |_=>do (unsupported "internal:dict-merge":Sem PUnit);pure (ForInStep.yield PUnit.unit):Sem (ForInStep PUnit))
   pure ()) Q E s:=by
  refine wpAny_bind (wpAny_dictEpoch hoo hdo' (wpAny_bind (wpAny_dictEntries hoo hdo' (wpAny_bind ?_))))
  rw[Std.Legacy.Range.forIn_eq_forIn_range']
  simp only[Std.Legacy.Range.size,Nat.sub_zero,Nat.add_sub_cancel,Nat.div_one]
  refine wpAny_forIn_list _ (λrest _ s'=>∃h' i,s'={s with heap:=h'}/\rest=List.range' i (eso.size-i)/\i<=eso.size/\h'.DictOfH knd d (xs++ys.take i)/\h'.get? o=some oo/\Heap.SameBut d s.heap h') _ ?_ ?_ _ _ ⟨s.heap,0,rfl,by simp,Nat.zero_le _,by simpa using hd,hoo,Heap.SameBut.refl _ _⟩
  ·rintro x rest b s' ⟨h',i,rfl,hr,hi,hd',hoo',hs'⟩
   have hlt:i<eso.size:=by
    rcases Nat.lt_or_ge i eso.size with z|z
    ·exact z
    ·rw[Nat.sub_eq_zero_of_le z] at hr;simp at hr
   obtain⟨rfl,hrest⟩:x=i/\rest=List.range' (i+1) (eso.size-(i+1)):=by
    rw[show eso.size-i=(eso.size-(i+1))+1 by omega,List.range'_succ] at hr
    injection hr with z1 z2
    exact⟨z1,z2⟩
   refine wpAny_bind (wpAny_dictEntries hoo' hdo' ?_)
   obtain⟨⟨k,b',v⟩,hkv⟩:∃y,ys[x]?=some y:=⟨ys[x]'(by omega),List.getElem?_eq_getElem _⟩
   rw[entry_at heo x,hkv]
   have hmem:=List.mem_of_getElem? hkv
   have tk:(xs++ys.take x)++[(k,b',v)]=xs++ys.take (x+1):=by rw[List.append_assoc,List.take_add_one,hkv];rfl
   have hnot:k∉(xs++ys.take x).map (·.1):=by
    have z:((xs++ys.take x)++[(k,b',v)]).map (·.1) |>.Nodup:=by
     rw[tk];exact hn.sublist ((List.Sublist.append_left (List.take_sublist _ _) _).map _)
    rw[List.map_append,List.nodup_append] at z
    exact λm=>z.2.2 k m k (by simp) rfl
   have ck:knd.is h' k b':=knd.keeps (hko _ hmem) hod hdd hs'
   refine wpAny_bind (wpAny_holding (QM (s:={s with heap:=h'}) hu ck hd' (Ww hnot) (by rw[List.length_append,List.length_take];omega) λh'' hd'' hs''=>?_))
   have hoo'':h''.get? o=some oo:=(hs''.2 o (Ne.symm hdo)).trans hoo'
   refine wpAny_bind (wpAny_dictEpoch hoo'' hdo' ?_)
   rw[if_neg (by simp)]
   exact wpAny_pure ⟨h'',x+1,rfl,hrest,hlt,by rw[←tk];exact hd'',hoo'',hs'.trans hs''⟩
  ·rintro b s' ⟨h',i,rfl,hr,hi,hd',hoo',hs'⟩
   have hin:i=eso.size:=by
    rcases Nat.lt_or_ge i eso.size with z|z
    ·rw[show eso.size-i=(eso.size-(i+1))+1 by omega,List.range'_succ] at hr;exact nomatch hr
    ·exact Nat.le_antisymm hi z
   refine wpAny_pure (hQ h' ?_ hs')
   rw[hin,hlen,List.take_length] at hd';exact hd'
 dsimp only
 split
 ·refine wpAny_bind (wpAny_dictEntries hod hdd ?_)
  split
  ·rename_i hemp
   have hx0:xs=[]:=by
    have h0:esd=#[]:=Array.isEmpty_iff.mp hemp
    exact List.length_eq_zero_iff.mp (by rw[←size_of_entries hed,h0];rfl)
   subst hx0
   refine wpAny_bind (Yz hoo hdo' heo his hh ?_)
   split
   ·refine wpAny_bind (wpAny_updateDictKeysTo hod hdd (wpAny_pure (hQ _ ⟨_,_,epd+1,Heap.get?_update_self _ hod (Obj.isFreed_of_dict (Obj.data_mapDictKeys hdd _)),hcd.mapDictKeys _,Obj.data_mapDictKeys hdd _,heo,λx hx=>knd.keeps (hko x hx) hod hdd (Heap.SameBut.update ..),hno⟩ (Heap.SameBut.update ..))) (by simp at hsz;omega))
   ·rename_i hne
    have h0:eso=#[]:=Array.isEmpty_iff.mp (by simpa using hne)
    have hm0:ys=[]:=List.length_eq_zero_iff.mp (by rw[←hlen,h0];rfl)
    subst hm0
    exact wpAny_pure (hQ _ hd (Heap.SameBut.refl _ _))
  ·exact loop
 ·exact loop
end
theorem yz:typeLookup (.type "list") "keys"=pure none:=by rw[typeLookup_type,builtinLookup_eq_fast];kernel_rfl
theorem Q_{prog:Program}{w:World}{A:Around}{E:Value->Shared->Prop}{s:Shared}{a:Addr}{o:Obj}{xs:Array Value}{k:Nat}{Q:Option Value->Shared->Prop}
  (hx:s.heap.get? a=some o) (hc:o.cls=.type "list") (hdat:o.data=.seq xs k) (hd:o.dict=none) (hA:A.handled=none)
  (h:∀h' tk,(∀b u,s.heap.get? b=some u->h'.get? b=some u)->Q none {s with heap:=h',toks:=tk}) :
  wpAny (model prog w) A (getAttr? (.ref a) "keys") Q E s:=by
 obtain⟨c,dct,dat,sl⟩:=o
 simp only at hc hdat hd
 subst hc hdat hd
 obtain⟨hp,g,d,tk,os⟩:=s
 have hT:∀tk',(⟨hp,g,d,tk',os⟩:Shared).TypeIs (.ref a) "list":=λ_=>⟨_,hx,rfl⟩
 have f1:=sub_AttributeError
 have f3:=PySem.F.slot_list_getattribute.lookup
 have f4:=PySem.F.slot_list_getattribute.bind (.ref a)
 have f5:=am_list_getattr_none
 unfold getAttr? getAttrBy? getAttrBy
 repeat (any_goals (first|assumption|exact hT _|((with_reducible show wpAny _ _ (call (Value.builtin "list.__getattribute__") _ _) _ _ _);refine call_meets PySem.F.slot_list_getattribute (hT _) am_entry_list_getattribute (PySem.F.args_list_getattribute_2 _ _) (meets_getattribute_miss_list a xs k sl "keys" _ yz (by decide) (by decide)) ⟨hx,hA,λh' tk' e hx'=>?_⟩)|wp_step))
 obtain⟨t',u',he⟩:=hx'.there
 show wpAny _ _ (getattributeRaised _ _ _ _ _ _ _) _ _ _
 unfold getattributeRaised
 repeat (any_goals (first|assumption|wp_step))
 exact h _ _ λb u e=>hx'.of.keeps b u e
theorem wu:entryFor table "dict.update.loop"=some Builtin.«dict.update.loop»:=entryFor_of_tree (by kernel_rfl)
theorem zN:plainId "dict.update.loop"=true:=by decide +kernel
noncomputable def VG(h:Heap)(v:Value)(b:Addr)(u:Value):Prop:=∃t o n,v=.ref t/\h.get? t=some o/\o.cls=.type "tuple"/\o.data=.seq #[.ref b,u] n
section
variable {prog:Program}{w:World}{K:Type}[DecidableEq K]{knd:HeapKind prog w K}{A:Around}{E:Value->Shared->Prop}{s:Shared}
theorem We(hu:knd.room A.in1)(hh:A.in1.handled=none){R:Result->Shared->Prop}{d I l:Addr}{items:Array Value}{ys:List (K×Addr×Value)}(hdI:d≠I)(hdl:d≠l)(hlI:l≠I)(hn:(ys.map (·.1)).Nodup)(hsz:ys.length<=sizeLine)(hlen:items.size=ys.length)(h0:Heap)
  (hpr:∀(i:Nat) (y:K×Addr×Value),ys[i]?=some y->∃v,items[i]?=some v/\VG h0 v y.2.1 y.2.2/\v≠.ref d/\v≠.ref I) (hky:∀y∈ys,∀h':Heap,(∀b u,b≠d->b≠I->h0.get? b=some u->h'.get? b=some u)->knd.is h' y.1 y.2.1) :
  ∀(k i:Nat) (s:Shared) (t:Tok),ys.length-i=k->i<=ys.length->s.heap.IsListIter I l i->s.heap.IsList l items->s.heap.DictOfH knd d (ys.take i)->(∀b u,b≠d->b≠I->h0.get? b=some u->s.heap.get? b=some u)->
   (∀h' tk,h'.DictOfH knd d ys->(∀b u,b≠d->b≠I->s.heap.get? b=some u->h'.get? b=some u)->R (.ok (.ret .none)) {s with heap:=h',toks:=tk})->
   codeAny (model prog w) A (.builtin "dict.update.loop" ⟨[.ref d,.ref I,.int i t,.none],[]⟩) R s:=by
 intro k
 induction k with
 |zero=>
  intro i s t hk hi hit hls hd hs0 hR
  have hin:i=ys.length:=by omega
  subst hin
  refine codeAny_builtin wu ?_
  rw[Around.under_plainId zN _]
  show wpAny _ A.in1 (pyNext (.ref I) >>= _) _ _ s
  refine wpAny_bind ((Walks.list hh I l hlI items).toS.done s _ _ ⟨by rw[hlen];exact hit,hls⟩ λs' hm=>?_)
  obtain⟨h',g',d',tk',os'⟩:=s'
  have eg:g'=s.gens:=hm.gens
  have ed:d'=s.drawn:=hm.drawn
  have eo:os'=s.os:=hm.os
  subst eg ed eo
  rw[List.take_length] at hd
  obtain⟨o,es,ep,ho,hc,hdd,he,his,hnn⟩:=hd
  have kp:∀b u,b≠d->b≠I->s.heap.get? b=some u->h'.get? b=some u:=λb u _ h2 e=>hm.heap b u (by simp[h2]) e
  refine wpAny_bind (wpAny_pure ?_)
  refine wpAny_pure (hR h' tk' ⟨o,es,ep,hm.heap d o (by simp[hdI]) ho,hc,hdd,he,λx hx=>hky x hx h' λb u h1 h2 e=>kp b u h1 h2 (hs0 b u h1 h2 e),hnn⟩ kp)
 |succ k ih=>
  intro i s t hk hi hit hls hd hs0 hR
  have hlt:i<ys.length:=by omega
  obtain⟨⟨ky,b,u⟩,hy⟩:∃y,ys[i]?=some y:=⟨ys[i],List.getElem?_eq_getElem hlt⟩
  obtain⟨v0,hv0,hpa,nd,nI⟩:=hpr i _ hy
  refine codeAny_builtin wu ?_
  rw[Around.under_plainId zN _]
  show wpAny _ A.in1 (pyNext (.ref I) >>= _) _ _ s
  refine wpAny_bind ((Walks.list hh I l hlI items).toS.item i s _ _ (by omega) ⟨hit,hls⟩ λv s' hP hst' hm=>?_)
  have hP:items[i]?=some v:=hP
  rw[hv0] at hP
  cases hP
  obtain⟨h',g',d',tk',os'⟩:=s'
  have eg:g'=s.gens:=hm.gens
  have ed:d'=s.drawn:=hm.drawn
  have eo:os'=s.os:=hm.os
  subst eg ed eo
  have kp:∀b u,b≠d->b≠I->s.heap.get? b=some u->h'.get? b=some u:=λb u _ h2 e=>hm.heap b u (by simp[h2]) e
  have kp0:∀b u,b≠d->b≠I->h0.get? b=some u->h'.get? b=some u:=λb u h1 h2 e=>kp b u h1 h2 (hs0 b u h1 h2 e)
  obtain⟨tp,o,n,rfl,ho,hc,hdt⟩:=hpa
  have ho':=kp0 tp o (λz=>nd (by rw[z])) (λz=>nI (by rw[z])) ho
  have hT:Shared.TypeIs ⟨h',s.gens,s.drawn,tk',s.os⟩ (.ref tp) "tuple":=⟨o,ho',hc⟩
  have hD:h'.DictOfH knd d (ys.take i):=by
   obtain⟨od,es,ep,g1,g2,g3,g4,g5,g6⟩:=hd
   exact⟨od,es,ep,hm.heap d od (by simp[hdI]) g1,g2,g3,g4,λx hx=>hky x (List.mem_of_mem_take hx) h' kp0,g6⟩
  have hnot:ky∉(ys.take i).map (·.1):=by
   have z:(ys.take i++[(ky,b,u)]).map (·.1) |>.Nodup:=by
    rw[show ys.take i++[(ky,b,u)]=ys.take (i+1) by rw[List.take_add_one,hy];rfl]
    exact hn.sublist ((List.take_sublist _ _).map _)
   rw[List.map_append,List.nodup_append] at z
   exact λm=>z.2.2 ky m ky (by simp) rfl
  have tk1:storedH (ys.take i) ky b u=ys.take (i+1):=by
   rw[storedH_new (Ww hnot),List.take_add_one,hy];rfl
  show wpAny _ A.in1 (holding [Value.ref tp] _ >>= _) _ _ _
  refine wpAny_bind (wpAny_holding ?_)
  refine wpAny_bind (wpAny_tryCatch ?_)
  unfold Builtin.Dict.pairItems
  refine wpAny_bind (wpAny_typeOf hT ?_)
  rw[if_pos (by decide)]
  refine wpAny_bind (wpAny_seqItems ho' hdt (wpAny_pure ?_))
  show wpAny _ A.in1 (holding [Value.ref b,u] (dictSet d (.ref b) u)) _ _ _
  refine wpAny_holding (wpAny_dictSet_heap (hsz:=by rw[List.length_take];omega) hu (hky _ (List.mem_of_getElem? hy) h' kp0) hD λh2 hD2 sb=>?_)
  rw[tk1] at hD2
  have kp2:∀b u,b≠d->b≠I->h'.get? b=some u->h2.get? b=some u:=λb u h1 _ e=>(sb.2 b h1).trans e
  have hI2:h2.IsListIter I l (i+1):=by
   obtain⟨oi,e1,e2⟩:=hst'.1
   exact⟨oi,(sb.2 I (Ne.symm hdI)).trans e1,e2⟩
  have hL2:h2.IsList l items:=by
   obtain⟨oi,e1,e2⟩:=hst'.2
   exact⟨oi,(sb.2 l (Ne.symm hdl)).trans e1,e2⟩
  refine wpAny_pure ⟨plainId_quiet zN _,?_⟩
  have J:=ih (i+1) ⟨h2,s.gens,s.drawn,tk'+knd.draws ky,s.os⟩ 0 (by omega) hlt hI2 hL2 hD2 (λb u h1 h2' e=>kp2 b u h1 h2' (kp0 b u h1 h2' e)) λh3 tk3 hD3 kp3=>hR h3 tk3 hD3 λb u h1 h2' e=>kp3 b u h1 h2' (kp2 b u h1 h2' (kp b u h1 h2' e))
  exact J
end
section
variable {prog:Program}{w:World}{K:Type}[DecidableEq K]{knd:HeapKind prog w K}{A:Around}{E:Value->Shared->Prop}{s:Shared}
theorem ZM {l:Addr} {items:Array Value} {n:Nat} {ys:List (K×Addr×Value)} {Q:Value->Shared->Prop} (hu:knd.room A.in1.in1) (hh:A.handled=none) (hl:s.heap.get? l=some {cls:=.type "list",data:=.seq items n})
  (hn:(ys.map (·.1)).Nodup) (hsz:ys.length<=sizeLine) (hlen:items.size=ys.length)
  (hpr:∀(i:Nat) (y:K×Addr×Value),ys[i]?=some y->∃v,items[i]?=some v/\VG s.heap v y.2.1 y.2.2)
  (hky:∀y∈ys,∀h':Heap,(∀b u,s.heap.get? b=some u->h'.get? b=some u)->knd.is h' y.1 y.2.1)
  (h:∀h' tk,h'.DictOfH knd s.heap.objs.size ys->(∀b u,s.heap.get? b=some u->h'.get? b=some u)->Q (.ref s.heap.objs.size) {s with heap:=h',toks:=tk}) :
  wpAny (model prog w) A (call (.type "dict") [.ref l]) Q E s:=by
 refine callType_codes (Q₁:=λobj s₁=>obj=.ref s.heap.objs.size/\s₁={s with heap:=s.heap.push {cls:=.type "dict",data:=.dict #[]}}) PySem.F.kt_called_dict (PySem.F.kt_typeCall_dict_1 _) PySem.F.entry_dict_init (kt_code_dict_new _ ⟨rfl,rfl⟩) ?_
 rintro obj s₁ ⟨rfl,rfl⟩
 have ll:=Heap.lt_size hl
 have hnew:(s.heap.push {cls:=.type "dict",data:=.dict #[]}).DictOfH knd s.heap.objs.size []:=Heap.DictOfH.new s.heap
 have hl1:=Heap.get?_push_of_some (h:=s.heap) {cls:=.type "dict",data:=.dict #[]} hl
 have hT1:Shared.TypeIs {s with heap:=s.heap.push {cls:=.type "dict",data:=.dict #[]}} (.ref l) "list":=⟨_,hl1,rfl⟩
 refine⟨hnew.typeIs,PySem.F.args_dict_init_2 _ _,?_⟩
 unfold Builtin.«dict.__init__»
 refine wpAny_bind ?_
 unfold Builtin.Dict.selfAndRest
 refine wpAny_bind (wpAny_notOrdered_dict hnew.typeIs ?_)
 show wpAny _ _ (pure (s.heap.objs.size,[Value.ref l])) _ _ _
 refine wpAny_pure ?_
 show wpAny _ _ (Builtin.Dict.updateFrom "dict.__init__" s.heap.objs.size (.ref l) [] .none) _ _ _
 unfold Builtin.Dict.updateFrom
 refine wpAny_bind (wpAny_typeOf hT1 ?_)
 rw[if_pos (by decide)]
 have hA:A.in1.in1.handled=none:=by simp[hh]
 refine wpAny_bind (Q_ (A:=A.in1.in1) hl1 rfl rfl rfl hA λh2 tk2 k2=>?_)
 have hl2:=k2 _ _ hl1
 have hL2:h2.IsList l items:=⟨_,hl2,rfl,n,rfl⟩
 have lt2:s.heap.objs.size<h2.objs.size:=by
  obtain⟨o,_,_,e,_⟩:=id hnew
  exact Heap.lt_size (k2 _ _ e)
 simp only[Option.isNone_none,if_true]
 refine wpAny_bind (wpAny_rule ?_)
 refine wpAny_bind (wpAny_pyIter_list hL2 ?_)
 refine wpAny_pure ⟨plainId_quiet zN _,?_⟩
 have kall:∀b u,s.heap.get? b=some u->(h2.push {cls:=.type "list_iterator",data:=.fields #[.ref l,.int 0 0]}).get? b=some u:=λb u e=>Heap.get?_push_of_some _ (k2 _ _ (Heap.get?_push_of_some _ e))
 have old:∀b u,s.heap.get? b=some u->b≠s.heap.objs.size/\b≠h2.objs.size:=λb u e=>by
  have:=Heap.lt_size e
  constructor
  ·exact Nat.ne_of_lt this
  ·exact Nat.ne_of_lt (Nat.lt_trans this lt2)
 have hD:(h2.push {cls:=.type "list_iterator",data:=.fields #[.ref l,.int 0 0]}).DictOfH knd s.heap.objs.size (ys.take 0):=by
  obtain⟨o,es,ep,e1,e2,e3,e4,_,e6⟩:=id hnew
  exact⟨o,es,ep,Heap.get?_push_of_some _ (k2 _ _ e1),e2,e3,e4,λx hx=>by simp at hx,e6⟩
 refine We (A:=A.in1) (l:=l) (items:=items) (ys:=ys) hu hA (Nat.ne_of_lt lt2) (Nat.ne_of_gt ll) (Nat.ne_of_lt (Nat.lt_trans ll lt2)) hn hsz hlen s.heap (λi y hy=>?_) (λy hy h' k'=>hky y hy h' λb u e=>k' b u (old b u e).1 (old b u e).2 e) ys.length 0 _ 0 (by omega) (Nat.zero_le _) ⟨_,Heap.get?_push_size _ rfl,rfl,rfl⟩ (hL2.push _) hD (λb u _ _ e=>kall b u e) λh3 tk3 hD3 k3=>⟨rfl,h h3 tk3 hD3 λb u e=>k3 b u (old b u e).1 (old b u e).2 (kall b u e)⟩
 obtain⟨v,h1,h2'⟩:=hpr i y hy
 refine⟨v,h1,h2',λz=>?_,λz=>?_⟩
 ·obtain⟨t,o,m,rfl,e,_⟩:=h2'
  cases z
  exact (old _ _ e).1 rfl
 ·obtain⟨t,o,m,rfl,e,_⟩:=h2'
  cases z
  exact (old _ _ e).2 rfl
theorem Vk{d o:Addr}{xs ys:List (K×Addr×Value)}{Q:Value->Shared->Prop}(hu:knd.room A.in1)(hdo:d≠o)(hoS:(o == sysModules)=false)(hd:s.heap.DictOfH knd d xs)(ho:s.heap.DictOfH knd o ys)
  (his:∀x∈ys,s.TypeIs (.ref x.2.1) "tuple") (hh:(ys.map λy=>knd.hash y.1).Nodup) (hn:((xs++ys).map (·.1)).Nodup) (hsz:xs.length+ys.length<=sizeLine)
  (hQ:∀h',h'.DictOfH knd d (xs++ys)->Heap.SameBut d s.heap h'->Q .none {s with heap:=h'}) :
  wpAny (model prog w) A (call (.builtin "dict.update") [.ref d,.ref o]) Q E s:=by
 refine call_meetsIn (S:=λB R t=>t=s/\knd.room B.in1/\∀h',h'.DictOfH knd d (xs++ys)->Heap.SameBut d s.heap h'->R (.ok (.ret .none)) {s with heap:=h'}) PySem.F.slot_dict_update hd.typeIs PySem.F.entry_dict_update (PySem.F.args_dict_update_2 _ _) (.of_wp λB R t ⟨e,hu,hQ⟩=>?_) ⟨rfl,hu,λh' a b=>hQ h' a b⟩
 subst e
 unfold Builtin.«dict.update»
 refine wpAny_bind ?_
 unfold Builtin.Dict.selfAndRest
 refine wpAny_bind (wpAny_notOrdered_dict hd.typeIs ?_)
 show wpAny _ _ (pure (d,[Value.ref o])) _ _ _
 refine wpAny_pure ?_
 show wpAny _ _ (Builtin.Dict.updateFrom "dict.update" d (.ref o) [] .none) _ _ _
 unfold Builtin.Dict.updateFrom
 refine wpAny_bind (wpAny_typeOf ho.typeIs ?_)
 rw[if_neg (by decide)]
 refine wpAny_bind ?_
 unfold Builtin.Dict.merge
 refine wpAny_bind ?_
 unfold Builtin.Dict.readDirectly
 refine wpAny_bind (wpAny_isInstance ho.typeIs isSubtype_dict_dict ?_)
 simp only[Bool.not_true,Bool.false_eq_true,if_false]
 refine wpAny_bind (wpAny_specialOf ho.typeIs PySem.F.slot_dict_iter.lookup (wpAny_pure ?_))
 simp only[beq_self_eq_true,if_true]
 refine wpAny_bind (wpAny_pure ?_)
 refine z04 hu hdo hoS hd ho his hh hn hsz λh' hd' hs'=>?_
 show wpAny _ _ (Builtin.Dict.addKeywords d [] >>= _) _ _ _
 exact wpAny_bind (wpAny_pure (wpAny_pure ⟨.none,rfl,hQ h' hd' hs'⟩))
end
noncomputable def ju(a:Nat):Nat:=(a * 2147483648) % 18446744073709551616+a / 8589934592
theorem yC(a:Nat):ju a=(a % 8589934592) * 2147483648+a / 8589934592:=by
 have h:(a * 2147483648) % 18446744073709551616=(a % 8589934592) * 2147483648:=by omega
 unfold ju;rw[h]
theorem K6{a:Nat}(h:a<18446744073709551616):ju a<18446744073709551616:=by rw[yC];omega
theorem kZ{a b:Nat}(ha:a<18446744073709551616)(hb:b<18446744073709551616)(e:ju a=ju b):a=b:=by rw[yC,yC] at e;omega
theorem inv1{a:Nat}(h:a<18446744073709551616):(a * 11400714785074694791 % 18446744073709551616) * 614540362697595703 % 18446744073709551616=a:=by
 rw[Nat.mod_mul_mod,Nat.mul_assoc,show 11400714785074694791 * 614540362697595703=1+379806830464837242 * 18446744073709551616 from by decide,Nat.mul_add,Nat.mul_one,←Nat.mul_assoc,Nat.add_mul_mod_self_right]
 exact Nat.mod_eq_of_lt h
theorem inv2{a b:Nat}:((a * 14029467366897019727+b) % 18446744073709551616) * 839798700976720815 % 18446744073709551616=(a+b * 839798700976720815) % 18446744073709551616:=by
 rw[Nat.mod_mul_mod,Nat.add_mul,Nat.mul_assoc,show 14029467366897019727 * 839798700976720815=1+638699622168397319 * 18446744073709551616 from by decide,Nat.mul_add,Nat.mul_one,←Nat.mul_assoc]
 omega
theorem z1M{y X:Nat}(hy:y<18446744073709551616)(hX:X<18446744073709551616)(e:(y+2870177450013471924) % 18446744073709551616=X):y=(X+15576566623696079692) % 18446744073709551616:=by omega
theorem ZZ{a X R:Nat}(ha:a<18446744073709551616)(hX:X<18446744073709551616)(e:(ju a * 11400714785074694791 % 18446744073709551616+2870177450013471924) % 18446744073709551616=X)(hR:(X+15576566623696079692) % 18446744073709551616 * 614540362697595703 % 18446744073709551616=R):ju a=R:=by
 have k:=inv1 (K6 ha)
 rw[z1M (Nat.mod_lt _ (by decide)) hX e,hR] at k
 exact k.symm
noncomputable def ve (c v:Nat):Nat:=(ju ((c+v * 14029467366897019727) % 18446744073709551616) * 11400714785074694791 % 18446744073709551616+2870177450013471924) % 18446744073709551616
theorem kE{c v:Nat}:ve c v<18446744073709551616:=Nat.mod_lt _ (by decide)
theorem cc{c x y:Nat}(e:(c+x) % 18446744073709551616=(c+y) % 18446744073709551616):(x+0) % 18446744073709551616=(y+0) % 18446744073709551616:=by omega
theorem cc2{c x y a b:Nat}(e1:(c+x) % 18446744073709551616=a)(e2:(c+y) % 18446744073709551616=b):(x+b) % 18446744073709551616=(y+a) % 18446744073709551616:=by omega
theorem by2{v w a b:Nat}(e:(v * 14029467366897019727+a) % 18446744073709551616=(w * 14029467366897019727+b) % 18446744073709551616):(v+a * 839798700976720815) % 18446744073709551616=(w+b * 839798700976720815) % 18446744073709551616:=inv2.symm.trans ((congrArg (λx=>x * 839798700976720815 % 18446744073709551616) e).trans inv2)
theorem in3{v w:Nat}(h:(v+0 * 839798700976720815) % 18446744073709551616=(w+0 * 839798700976720815) % 18446744073709551616)(hv:v<18446744073709551616)(hw:w<18446744073709551616):v=w:=by omega
theorem in4{v w:Nat}(hv:v<2305843009213693952)(hw:w<2305843009213693952)(h:(v+15881292906973731817 * 839798700976720815) % 18446744073709551616=(w+9148689060682678900 * 839798700976720815) % 18446744073709551616):False:=by omega
theorem in2{c v w:Nat}(e:(c+v * 14029467366897019727) % 18446744073709551616=(c+w * 14029467366897019727) % 18446744073709551616)(hv:v<18446744073709551616)(hw:w<18446744073709551616):v=w:=in3 (by2 (cc e)) hv hw
theorem K9{c v w:Nat}(hv:v<18446744073709551616)(hw:w<18446744073709551616)(e:ve c v=ve c w):v=w:=by
 have h1:=ZZ (Nat.mod_lt _ (by decide)) kE (show _=ve c v from rfl) rfl
 have h2:=ZZ (Nat.mod_lt _ (by decide)) kE (show _=ve c w from rfl) rfl
 rw[e,←h2] at h1
 exact in2 (kZ (Nat.mod_lt _ (by decide)) (Nat.mod_lt _ (by decide)) h1) hv hw
theorem Wu{c v w:Nat}(hv:v<2305843009213693952)(hw:w<2305843009213693952)(e1:ve c v=18446744073709551615)(e2:ve c w=1546275796):False:=by
 have h1:ju ((c+v * 14029467366897019727) % 18446744073709551616)=5422089010434233885:=ZZ (Nat.mod_lt _ (by decide)) (by decide) e1 (by decide)
 have h2:ju ((c+w * 14029467366897019727) % 18446744073709551616)=14631295741271922656:=ZZ (Nat.mod_lt _ (by decide)) (by decide) e2 (by decide)
 have g1:(c+v * 14029467366897019727) % 18446744073709551616=9148689060682678900:=kZ (Nat.mod_lt _ (by decide)) (by decide) (h1.trans rfl)
 have g2:(c+w * 14029467366897019727) % 18446744073709551616=15881292906973731817:=kZ (Nat.mod_lt _ (by decide)) (by decide) (h2.trans rfl)
 exact in4 hv hw (by2 (cc2 g1 g2))
noncomputable def vH(x:Nat):Int:=if x == 18446744073709551615 then 1546275796 else if x<9223372036854775808 then (x:Int) else (x:Int)-18446744073709551616
theorem ZH{x:Nat}(h:x<18446744073709551616):(x=18446744073709551615/\vH x=1546275796)\/(x<9223372036854775808/\vH x=x)\/(x≠18446744073709551615/\9223372036854775808<=x/\vH x=(x:Int)-18446744073709551616):=by
 unfold vH
 by_cases c:x=18446744073709551615
 ·exact .inl ⟨c,if_pos (beq_iff_eq.mpr c)⟩
 ·rw[if_neg (λz=>c (beq_iff_eq.mp z))]
  by_cases d:x<9223372036854775808
  ·exact .inr (.inl ⟨d,if_pos d⟩)
  ·exact .inr (.inr ⟨c,by omega,if_neg d⟩)
theorem Xq{c v w:Nat}(hv:v<2305843009213693952)(hw:w<2305843009213693952)(e:vH (ve c v)=vH (ve c w)):v=w:=by
 have l1:=kE (c:=c) (v:=v)
 have l2:=kE (c:=c) (v:=w)
 have s1:=Wu (c:=c) hv hw
 have s2:=Wu (c:=c) hw hv
 have k:ve c v=ve c w:=by
  rcases ZH l1 with⟨a1,b1⟩|⟨a1,b1⟩|⟨a0,a1,b1⟩<;>rcases ZH l2 with⟨a2,b2⟩|⟨a2,b2⟩|⟨a3,a2,b2⟩<;>rw[b1,b2] at e
  ·rw[a1,a2]
  ·exact (s1 a1 (by omega)).elim
  ·omega
  ·exact (s2 a2 (by omega)).elim
  ·omega
  ·omega
  ·omega
  ·omega
  ·omega
 exact K9 (by omega) (by omega) k
theorem JL{x:Nat}(h:x<18446744073709551616):-9223372036854775808<=vH x/\vH x<9223372036854775808/\vH x ≠ -1:=by
 rcases ZH h with⟨a,b⟩|⟨a,b⟩|⟨a0,a,b⟩<;>rw[b]<;>refine⟨?_,?_,?_⟩<;>omega
noncomputable def jc(acc:Nat)(h:Int):Nat:=
 let m:Nat:=2 ^ 64
 let acc:=(acc+(h % (m:Int)).toNat * 14029467366897019727) % m
 let acc:=(acc * 2 ^ 31) % m+acc / 2 ^ 33
 (acc * 11400714785074694791) % m
theorem Vn(acc:Nat)(h:Int):jc acc h=ju ((acc+(h % (18446744073709551616:Int)).toNat * 14029467366897019727) % 18446744073709551616) * 11400714785074694791 % 18446744073709551616:=by
 have e:((2 ^ 64:Nat):Int)=18446744073709551616:=rfl
 unfold jc ju
 simp only[Nat.reducePow,e]
noncomputable def Kb(n acc:Nat):Int:=(let m:Nat:=2 ^ 64
 let acc:=(acc+(n ^^^ (2870177450012600261 ^^^ 3527539))) % m
 if acc == m-1 then 1546275796 else if acc<2 ^ 63 then acc else (acc:Int)-m)
theorem K1(acc:Nat):Kb 2 acc=vH ((acc+2870177450013471924) % 18446744073709551616):=by
 have e:((2 ^ 64:Nat):Int)=18446744073709551616:=rfl
 unfold Kb vH
 simp only[Nat.reducePow,e,show 2 ^^^ (2870177450012600261 ^^^ 3527539)=2870177450013471924 from by decide,Nat.reduceSub]
theorem hk0(hs:List Int):Builtin.Tuple.tupleHashOf hs=Kb hs.length (hs.foldl jc 2870177450012600261):=rfl
theorem z0s{g:Nat->Int->Nat}{a:Nat}{h v:Int}:[h,v].foldl g a=g (g a h) v:=rfl
theorem z1f(h:Int){v:Nat}(hv:v<18446744073709551616):Builtin.Tuple.tupleHashOf [h,(v:Int)]=vH (ve (jc 2870177450012600261 h) v):=by
 have e:((v:Int) % (18446744073709551616:Int)).toNat=v:=by omega
 rw[hk0,z0s]
 show Kb 2 _=_
 rw[K1,Vn,e]
 generalize jc 2870177450012600261 h=z
 unfold ve
 rfl
theorem QW{P:Program}{w:World}{h a:Int}{n:Nat}(ha:0<=a)(hn:n<=1000):((List.range n).map λ(i:Nat)=>(tupleKind (ze P w)).hash [.inl h,.inl (a+i)]).Nodup:=by
 have val:∀i:Nat,∃v:Nat,v<2305843009213693951/\(v:Int)=(a+i) % 2305843009213693951/\(tupleKind (ze P w)).hash [.inl h,.inl (a+i)]=vH (ve (jc 2870177450012600261 (hashInt h)) v):=by
  intro i
  have e1:hashInt (a+i)=(a+i) % 2305843009213693951:=by
   have e0:rawHash (a+i)=(a+i) % 2305843009213693951:=by
    unfold rawHash
    have:((a+(i:Int)).natAbs:Int)=a+i:=by omega
    have p:(2 ^ 61-1:Nat)=2305843009213693951:=rfl
    have nn:¬(a+(i:Int)<0):=by omega
    simp only[p,nn,if_false]
    rw[if_neg]
    ·omega
    ·simp only[beq_iff_eq];omega
   unfold hashInt
   rw[e0,if_neg]
   simp only[beq_iff_eq];omega
  refine⟨((a+i) % 2305843009213693951).toNat,by omega,by omega,?_⟩
  show reduceHash (Builtin.Tuple.tupleHashOf [hashInt h,hashInt (a+i)])=_
  have e2:hashInt (a+i)=(((a+i) % 2305843009213693951).toNat:Int):=by rw[e1];omega
  rw[e2,z1f (hashInt h) (by omega)]
  have r:=JL (kE (c:=jc 2870177450012600261 (hashInt h)) (v:=((a+i) % 2305843009213693951).toNat))
  generalize vH (ve (jc 2870177450012600261 (hashInt h)) ((a+i) % 2305843009213693951).toNat)=z at r ⊢
  unfold reduceHash
  rw[if_pos (by simp only[Bool.and_eq_true,decide_eq_true_eq];exact⟨r.1,r.2.1⟩),if_neg (by simpa using r.2.2)]
 rw[List.nodup_iff_pairwise_ne,List.pairwise_map]
 refine List.Pairwise.imp_of_mem ?_ (List.nodup_iff_pairwise_ne.mp List.nodup_range)
 intro i j hi hj ne e
 have hi:=List.mem_range.mp hi
 have hj:=List.mem_range.mp hj
 obtain⟨v,v1,v2,v3⟩:=val i
 obtain⟨u,u1,u2,u3⟩:=val j
 rw[v3,u3] at e
 have:=Xq (by omega) (by omega) e
 apply ne
 subst this
 omega
noncomputable def pairOf:T->Option (Int×Int)
 |.tup ts=>(match ts with
  |[a,b]=>(match a,b with
   |.int x,.int y=>some (x,y)
   |_,_=>none)
  |_=>none)
 |_=>none
theorem xZ{t:T}{p:Int×Int}(h:pairOf t=some p):t=.tup [.int p.1,.int p.2]:=by
 cases t with
 |tup ts=>
  match ts,h with
  |[a,b],h=>
   cases a with
   |int x=>
    cases b with
    |int y=>cases h;rfl
    |_=>cases h
   |_=>cases h
  |[],h=>cases h
  |[_],h=>cases h
  |_::_::_::_,h=>cases h
 |_=>cases h
noncomputable def prs(h a:Int)(n:Nat):List (Int×Int):=(List.range n).map λ(j:Nat)=>(h,a+j)
noncomputable abbrev prT(p:Int×Int):T:=.tup [.tup [.int p.1,.int p.2],.bl true]
noncomputable abbrev z0g:De:=λ_ μ=>.ok (.mut μ.length) (μ++[.dct []])
noncomputable abbrev Uq(x y:T)(μ:Mem):RE T:=.som (pairOf x) λp=>match y with
 |.mut i=>λK _=>∃ks,μ[i]?=some (MO.dct ks)/\K (.bl (decide (p∈ks))) μ
 |_=>.st
noncomputable abbrev Vc(t:T)(μ:Mem):RE T:=λK _=>∃h a n,t=.lst ((prs h a n).map prT)/\0<=a/\n<=1000/\K (.mut μ.length) (μ++[.dct (prs h a n)])
noncomputable abbrev Q0(o f:De):De:=λτ μ=>(o τ μ).bind λot μ1=>match ot with
 |.mut i=>λK Z=>(∃ks,μ1[i]?=some (.dct ks))/\f τ μ1 (λt μ2=>∃p ks,pairOf t=some p/\μ2[i]?=some (.dct ks)/\p∈ks/\K (.bl true) (μ2.set i (.dct (ks.filter λq=>decide (q≠p))))) Z
 |_=>.st
noncomputable abbrev uq(o f:De):De:=λτ μ=>(o τ μ).bind λot μ1=>match ot with
 |.mut i=>λK Z=>(∃ks,μ1[i]?=some (.dct ks))/\f τ μ1 (λt μ2=>∃j ks h a n,t=.mut j/\j≠i/\μ2[i]?=some (.dct ks)/\μ2[j]?=some (.dct (prs h a n))/\0<=a/\n<=1000/\ks.length<=90000/\(∀p∈prs h a n,p∉ks)/\K .non (μ2.set i (.dct (ks++prs h a n)))) Z
 |_=>.st
section
variable {X:Cx}{D:DP}{W:XW}{Γ:Cn}{k:Nat}{pins:List (Addr×Obj)}{s:Shared}{σ:St}{H:Hp}{φ α:List Addr}{τ:Sl}{μ:Mem}{f g:De}{a b:Expr}{pos:Pos}{A:Around}{E:Value->Shared->Prop}
noncomputable abbrev qM(p:Int×Int):List Key:=[.inl p.1,.inl p.2]
theorem jT{p q:Int×Int}(h:qM p=qM q):p=q:=by
 obtain⟨a,b⟩:=p;obtain⟨c,d⟩:=q
 simp only[qM,List.cons.injEq,Sum.inl.injEq,and_true] at h
 rw[h.1,h.2]
noncomputable abbrev wU(x:(Int×Int)×Addr):List Key×Addr×Value:=(qM x.1,x.2,.bool true)
theorem vO(xs:List ((Int×Int)×Addr)):(xs.map wU).map (·.1)=(xs.map (·.1)).map qM:=by rw[List.map_map,List.map_map];rfl
theorem wA{ks:List (Int×Int)}(h:ks.Nodup):(ks.map qM).Nodup:=by
 rw[List.nodup_iff_pairwise_ne,List.pairwise_map]
 exact List.Pairwise.imp (λ{p q} n e=>n (jT e)) (List.nodup_iff_pairwise_ne.mp h)
theorem jG{P:Program}{w:World}{h:Heap}{b:Addr}{p:Int×Int}(ok:ObjOk P w H h b (.tup [.int p.1,.int p.2])):(tupleKind (ze P w)).is h (qM p) b:=by
 obtain⟨_,its,r,o,h1,h2,n,h3⟩:=ok
 exact⟨o,its.toArray,n,h1,h2,h3,by simpa using vY (ks:=qM p) r⟩
theorem QP{P:Program}{w:World}{h h':Heap}{b:Addr}{ks:List Key}(x:(tupleKind (ze P w)).is h ks b)(k:∀c u,h.get? c=some u->h'.get? c=some u):(tupleKind (ze P w)).is h' ks b:=by
 obtain⟨o,its,n,h1,h2⟩:=x
 exact⟨o,its,n,k _ _ h1,h2⟩
theorem yf{i:Addr}{xs:List ((Int×Int)×Addr)}(I:Inv X pins σ H s)(q:H i=some (.ext (qE i xs)))(hk:∀x∈xs,Rd H x.2 (.tup [.int x.1.1,.int x.1.2]))(hn:(xs.map (·.1)).Nodup) :
  s.heap.DictOfH (tupleKind (ze X.prog X.w)) i (xs.map wU):=by
 obtain⟨⟨o,es,ep,h1,h2,h3,h4⟩,_⟩:=(show ObjOk X.prog X.w H s.heap i (.ext (qE i xs)) from I.hok i _ q)
 refine⟨o,es,ep,h1,h2,h3,by rw[h4,List.map_map];rfl,λx hx=>?_,by rw[vO];exact wA hn⟩
 obtain⟨y,hy,rfl⟩:=List.mem_map.mp hx
 exact jG (p:=y.1) ((hk y hy).ok I.hok)
theorem yt{P:Program}{w:World}{h:Heap}{i:Addr}{xs:List ((Int×Int)×Addr)}(d:h.DictOfH (tupleKind (ze P w)) i (xs.map wU)):ObjOk P w H h i (.ext (qE i xs)):=by
 obtain⟨o,es,ep,h1,h2,h3,h4,_,_⟩:=d
 refine⟨⟨o,es,ep,h1,h2,h3,by rw[h4,List.map_map];rfl⟩,⟨o,h1⟩,λg1 g2 ⟨o,es,ep,k1,k2⟩ k=>⟨o,es,ep,k _ k1,k2⟩⟩
theorem xS{xs:List ((Int×Int)×Addr)}{p:Int×Int}:(atKey (xs.map wU) (qM p)).isSome=decide (p∈xs.map (·.1)):=by
 induction xs with
 |nil=>rfl
 |cons x r ih=>
  by_cases e:x.1=p
  ·subst e;simp[atKey]
  ·have ne:¬qM x.1=qM p:=λz=>e (jT z)
   have:atKey ((x::r).map wU) (qM p)=atKey (r.map wU) (qM p):=by simp[atKey,List.find?_cons,ne]
   rw[this,ih]
   have e':¬p=x.1:=λz=>e z.symm
   simp[e']
theorem MRel.add{p:Addr}{u:HO}{mo:MO}(m:MRel D φ α H μ)(hp:H p=none)(l:DenO D φ (α++[p]) (upd H p u) mo p):MRel D φ (α++[p]) (upd H p u) (μ++[mo]):=by
 have st:Stp α H (α++[p]) (upd H p u):=qA hp
 have hl:=m.len
 refine⟨by simp[hl],?_,λb hb=>?_,λb hb=>?_,λi a o e1 e2=>?_⟩
 ·rw[List.nodup_append]
  refine⟨m.nd,by simp,λa ha b hb z=>?_⟩
  rw[List.mem_singleton.mp hb] at z
  exact zh m hp (z▸ha)
 ·rcases List.mem_append.mp hb with h|h
  ·exact m.dis b h
  ·rw[List.mem_singleton.mp h];exact zi m hp
 ·obtain⟨v,e,n⟩:=m.phi b hb
  exact⟨v,zd hp b v e,n⟩
 ·by_cases hi:i<α.length
  ·rw[List.getElem?_append_left hi] at e1
   rw[List.getElem?_append_left (by omega)] at e2
   have d:=m.ob i a o e1 e2
   obtain⟨v,q,_⟩:=d.some
   exact d.step st ((zd hp _ _ q).trans q.symm)
  ·have hlt:=(List.getElem?_eq_some_iff.mp e1).1
   simp only[List.length_append,List.length_cons,List.length_nil] at hlt
   have hi':i=α.length:=by omega
   subst hi'
   rw[List.getElem?_append_right (Nat.le_refl _),Nat.sub_self] at e1
   rw[hl,List.getElem?_append_right (Nat.le_refl _),Nat.sub_self] at e2
   have e1:some p=some a:=e1
   have e2:some mo=some o:=e2
   cases e1;cases e2
   exact l
theorem UJ:PE X (.Dict [] [] pos) (rdE D W z0g):=by
 rintro pins s σ H Q I ⟨φ,α,τ,μ,sr,mr,p⟩
 have hp:H s.heap.objs.size=none:=I.hok.fresh (Nat.le_refl _)
 have hd:(s.heap.push {cls:=.type "dict",data:=.dict #[]}).DictOfH (tupleKind (ze X.prog X.w)) s.heap.objs.size (([]:List ((Int×Int)×Addr)).map wU):=Heap.DictOfH.new s.heap
 refine wpAny_Dict_empty ⟨.ref s.heap.objs.size,_,I.laid (a:=s.heap.objs.size) (o:=.ext (qE s.heap.objs.size [])) (t':=s.toks) (λ_ _ q=>Heap.get?_push_of_some _ q) (Nat.le_refl _) (yt hd),rfl,?_⟩
 exact p.ok (qA hp) (mr.add (u:=.ext (qE s.heap.objs.size [])) hp ⟨[],rfl,by simp,by simp,beq_eq_false_iff_ne.mpr (Ne.symm (Nat.ne_of_lt I.big)),z6,by simp⟩) _ ⟨_,by rw[←mr.len,List.getElem?_append_right (Nat.le_refl _)];simp,rfl⟩
theorem z0y(hu:X.A.units+64<cLine):OpC X D W .In Uq:=by
 intro pins s σ H φ α μ x y v w u1 u2 Q I mr d1 d2 r1 r2 p
 obtain⟨q,hq,p1⟩:=p.som
 clear p
 have:=xZ hq
 subst this
 cases y with
 | «mut» i=>
  obtain⟨ks,hi,p2⟩:=p1.ex1
  obtain⟨t,ws,rfl,_,_,rt,l⟩:=d1
  obtain⟨v1,r',rfl,e1,v2,r'',rfl,e2,e3⟩:=l
  have e1:v1=.int q.1:=e1
  have e2:v2=.int q.2:=e2
  have e3:r''=[]:=e3
  subst e1 e2 e3
  obtain⟨ad,ha,rfl⟩:=d2
  cases r1;cases r2
  obtain⟨xs,rfl,hn,hz,hs,hH,hk⟩:=mr.ob i ad _ ha hi
  refine wpAny_in_heap (knd:=tupleKind (ze X.prog X.w)) (tupleKind_room_in1 (by omega)) (jG (p:=q) (rt.ok I.hok)) hs (yf I hH (λx hx=>(hk x hx).2.2) hn) ?_
  rw[xS]
  exact⟨.bl _,H,I.tok _,rfl,p2.here mr rfl⟩
 |_=>exact p1.elim
theorem Rd.at_ne{x b:Addr}{u v:HO}(n:b≠x)(r:Rd H b v):Rd (upd H x u) b v:=by
 unfold Rd at *
 rw[z8 n];exact r
theorem X0{xs:List ((Int×Int)×Addr)}{p:Int×Int}:xa (xs.map wU) (qM p)=(xs.filter λx=>decide (x.1≠p)).map wU:=by
 unfold xa
 rw[List.filter_map]
 congr 1
 apply List.filter_congr
 intro x _
 by_cases e:x.1=p
 ·subst e;simp
 ·have ne:¬qM x.1=qM p:=λz=>e (jT z)
  simp[e,ne]
theorem JI{xs:List ((Int×Int)×Addr)}{p:Int×Int}(h:p∈xs.map (·.1)):∃b,atKey (xs.map wU) (qM p)=some (b,.bool true):=by
 have e:(atKey (xs.map wU) (qM p)).isSome=true:=by rw[xS];simpa using h
 unfold atKey at *
 cases q:(xs.map wU).find? λx=>decide (x.1=qM p) with
 |none=>rw[q] at e;cases e
 |some y=>
  obtain⟨z,hz,rfl⟩:=List.mem_map.mp (List.mem_of_find?_eq_some q)
  exact⟨z.2,rfl⟩
theorem Qv{i:Addr}{xs:List ((Int×Int)×Addr)}(I:Inv X pins σ H s)(q:H i=some (.ext (qE i xs))):s.TypeIs (.ref i) "dict"/\∀b,Value.ref i=.ref b->∃ob,s.heap.get? b=some ob/\ob.dict=none:=by
 obtain⟨⟨o,es,ep,h1,h2,_⟩,_⟩:=(show ObjOk X.prog X.w H s.heap i (.ext (qE i xs)) from I.hok i _ q)
 exact⟨⟨o,h1,h2.1⟩,λb e=>by cases e;exact⟨o,h1,h2.2.1⟩⟩
theorem Xh(C:Ck D W Γ X k){o:Expr}{pa pc:Pos}{go:De}(hp:zR o=true)(hs:noStar a=true)(hline:(pa.endLine == pc.line)=true)(ho:PE X o (rdE D W go))(ha:PE X a (rdE D W f)) :
  PE X (.Call (.Attribute o "pop" pa) [a] [] pc) (rdE D W (Q0 go f)):=by
 have hb:starEach [a] X.env=[(false,eval a X.env)]:=z5 hs
 have m:M1 X o "pop" pa a pc:=⟨zX hp,by rw[hb];rfl,hline,by rw[hb];rfl⟩
 rintro pins s σ H Q I ⟨φ,α,τ,μ,sr,mr,p⟩
 refine wpAny_Call_method m.base m.few m.line PySem.F.plainAttrs_dict PySem.F.slot_dict_pop PySem.F.type_dict_pop (thn (sub ho I sr mr p) ?_)
 rintro u s1 ⟨v,H1,t,μ1,α1,I1,r1,st1,sr1,mr1,d1,p1⟩
 cases t with
 | «mut» i=>
  obtain⟨K,Z,⟨⟨ks0,h0⟩,hf⟩,hk,hz⟩:=p1
  obtain⟨x,hx,rfl⟩:=d1
  cases r1
  obtain⟨xs0,_,_,_,_,hH0,_⟩:=mr1.ob i x _ hx h0
  obtain⟨t1,t2⟩:=Qv I1 hH0
  refine⟨t1,t2,?_⟩
  rw[m.trees]
  refine Calls.callWith_builtin rfl (Calls.evalArgs_plain (Calls.spliced_cons (thn (ha pins s1 σ H1 (λy H2=>∃t μ2 α2,Stp α1 H1 α2 H2/\MRel D φ α2 H2 μ2/\Den D φ α2 H2 t y/\∃p ks,pairOf t=some p/\μ2[i]?=some (.dct ks)/\p∈ks/\K (.bl true) (μ2.set i (.dct (ks.filter λq=>decide (q≠p))))) I1 ⟨φ,α1,τ,μ1,sr1,mr1,_,Z,hf,λt μ2 ht α2 H2 st2 m2 v d=>⟨t,μ2,α2,st2,m2,d,ht⟩,hz⟩) ?_)))
  rintro iv s2 ⟨y,H2,I2,ry,t,μ2,α2,st2,m2,d2,q,ks,hq,hi,hmem,hK⟩
  refine Calls.spliced_nil ?_
  have:=xZ hq
  subst this
  obtain⟨bt,ws,rfl,_,_,rt,l⟩:=d2
  obtain⟨v1,r',rfl,e1,v2,r'',rfl,e2,e3⟩:=l
  have e1:v1=.int q.1:=e1
  have e2:v2=.int q.2:=e2
  have e3:r''=[]:=e3
  subst e1 e2 e3
  cases ry
  obtain⟨β,eβ,_⟩:=st2.ext
  have hx2:α2[i]?=some x:=by
   rw[eβ,List.getElem?_append_left (List.getElem?_eq_some_iff.mp hx).1];exact hx
  obtain⟨xs,rfl,hn,hln,hsm,hH,hky⟩:=m2.ob i x _ hx2 hi
  obtain⟨b,hb2⟩:=JI hmem
  have dd:=yf I2 hH (λz hz=>(hky z hz).2.2) hn
  refine VU (knd:=tupleKind (ze X.prog X.w)) (tupleKind_room_in1 (by have:=C.unt;omega)) (jG (p:=q) (rt.ok I2.hok)) dd hb2 (by rw[List.length_map];rw[List.length_map] at hln;exact Nat.le_trans hln (by decide)) λh' d' sb=>?_
  rw[X0] at d'
  have st4:Stp α2 H2 α2 (upd H2 x (.ext (qE x (xs.filter λz=>decide (z.1≠q))))):=Stp.turn (List.mem_of_getElem? hx2) ⟨_,hH⟩
  have hil:i<μ2.length:=(List.getElem?_eq_some_iff.mp hi).1
  have he:∃u,h'.get? x=some u:=let ⟨u,_,_,hu,_⟩:=d';⟨u,hu⟩
  have ef:(xs.map (·.1)).filter (λz=>decide (z≠q))=(xs.filter λz=>decide (z.1≠q)).map (·.1):=by rw[List.filter_map];rfl
  refine⟨.bl true,_,jA (t':=s2.toks+_) I2 (by rw[hH];exact True.intro) sb he (yt d'),rfl,hk _ _ hK α2 _ (st2.trans st4) (m2.turn hx2 hil st4 ⟨_,ef,hn.sublist List.filter_sublist,Nat.le_trans (List.length_filter_le _ _) hln,hsm,z6,λz hz=>?_⟩) _ rfl⟩
  obtain⟨k1,k2,k3⟩:=hky z (List.mem_filter.mp hz).1
  exact⟨k1,k2,Rd.at_ne (λe=>k2 (e▸List.mem_of_getElem? hx2)) k3⟩
 |_=>exact Post.elim p1
theorem Ql:∀{ps:List (Int×Int)} {ws:List V},DenL D φ α H (ps.map prT) ws->∃xs:List ((Int×Int)×Addr),xs.map (·.1)=ps/\ws.length=xs.length/\(∀x∈xs,x.2∉φ/\x.2∉α/\Rd H x.2 (.tup [.int x.1.1,.int x.1.2]))/\∀(i:Nat) x,xs[i]?=some x->∃t,ws[i]?=some (.ref t)/\Rd H t (.tup [.ref x.2,.bl true])
 |[],ws,l=>by
  have l:ws=[]:=l
  subst l
  exact⟨[],rfl,rfl,by simp,by simp⟩
 |p::r,_,l=>by
  obtain⟨v,ws,rfl,d,l⟩:=l
  obtain⟨xs,h1,h2,h3,h4⟩:=Ql l
  obtain⟨t,ys,rfl,_,_,rt,ly⟩:=d
  obtain⟨v1,r1,rfl,d1,v2,r2,rfl,e2,e3⟩:=ly
  have e2:v2=.bl true:=e2
  have e3:r2=[]:=e3
  subst e2 e3
  obtain⟨b,zs,rfl,n1,n2,rb,lb⟩:=d1
  obtain⟨u1,q1,rfl,f1,u2,q2,rfl,f2,f3⟩:=lb
  have f1:u1=.int p.1:=f1
  have f2:u2=.int p.2:=f2
  have f3:q2=[]:=f3
  subst f1 f2 f3
  refine⟨(p,b)::xs,by rw[List.map_cons,h1],by simp[h2],λx hx=>?_,λi x hx=>?_⟩
  ·rcases List.mem_cons.mp hx with rfl|hx
   ·exact⟨n1,n2,rb⟩
   ·exact h3 x hx
  ·cases i with
   |zero=>
    have hx:(p,b)=x:=by simpa using hx
    subst hx
    exact⟨t,rfl,rt⟩
   |succ i=>exact h4 i x (by simpa using hx)
theorem xK{h a:Int}{n:Nat}:(prs h a n).Nodup:=by
 unfold prs
 rw[List.nodup_iff_pairwise_ne,List.pairwise_map]
 refine List.Pairwise.imp (λ{i j} ne e=>ne ?_) (List.nodup_iff_pairwise_ne.mp List.nodup_range)
 have:a+(i:Int)=a+j:=congrArg Prod.snd e
 omega
theorem vi{h a:Int}{n:Nat}:(prs h a n).length=n:=by unfold prs;simp
theorem z0T(hc:X.calm=true)(hu:X.A.units+64<cLine):B1 X D W (.type "dict") Vc:=by
 intro pins s σ H φ α μ t v u Q I mr d r p
 obtain⟨K,Z,⟨h,a,n,rfl,a0,n1,hK⟩,hk,hz⟩:=p
 obtain⟨ad,ws,rfl,_,_,rd,l⟩:=d
 cases r
 obtain⟨xs,e1,e2,e3,e4⟩:=Ql l
 obtain⟨z,its,m,rv,hl⟩:=(show ObjOk X.prog X.w H s.heap ad (.lst ws) from rd.ok I.hok)
 have nd:(xs.map (·.1)).Nodup:=by rw[e1];exact xK
 have ln:xs.length=n:=by rw[←List.length_map (f:=(·.1)),e1,vi]
 have hp:H s.heap.objs.size=none:=I.hok.fresh (Nat.le_refl _)
 refine ZM (knd:=tupleKind (ze X.prog X.w)) (ys:=xs.map wU) (by show X.A.in1.in1.units<cLine;have:X.A.in1.in1.units=X.A.units+2:=rfl;omega) (I.ok.hd hc) hl (by rw[vO];exact wA nd) (by rw[List.length_map,ln];exact Nat.le_trans n1 (by decide)) (by rw[List.size_toArray,←rv.length,e2,List.length_map]) (λi y hy=>?_) (λy hy h' kp=>?_) λh' tk dd kp=>?_
 ·rw[List.getElem?_map] at hy
  cases hx:xs[i]? with
  |none=>rw[hx] at hy;cases hy
  |some x=>
   rw[hx] at hy
   cases hy
   obtain⟨t,ht,rt⟩:=e4 i x hx
   obtain⟨w,hw,rw'⟩:=rv.get ht
   cases rw'
   refine⟨.ref t,by simpa using hw,?_⟩
   obtain⟨_,its2,rv2,o,g1,g2,m2,g3⟩:=(show ObjOk X.prog X.w H s.heap t (.tup [.ref x.2,.bl true]) from rt.ok I.hok)
   refine⟨t,o,m2,rfl,g1,g2,?_⟩
   rw[g3]
   cases rv2 with
   |cons r1 r2=>cases r2 with
    |cons r3 r4=>cases r4;cases r1;cases r3;rfl
 ·obtain⟨x,hx,rfl⟩:=List.mem_map.mp hy
  exact QP (jG (p:=x.1) ((e3 x hx).2.2.ok I.hok)) kp
 ·refine⟨.ref s.heap.objs.size,_,I.laid (a:=s.heap.objs.size) (o:=.ext (qE s.heap.objs.size xs)) (t':=tk) kp (Nat.le_refl _) (yt dd),rfl,?_⟩
  refine hk _ _ hK _ _ (qA hp) (mr.add (u:=.ext (qE s.heap.objs.size xs)) hp ⟨xs,e1.symm,xK,by rw[vi];omega,beq_eq_false_iff_ne.mpr (Ne.symm (Nat.ne_of_lt I.big)),z6,λx hx=>?_⟩) _ ⟨_,by rw[←mr.len,List.getElem?_append_right (Nat.le_refl _)];simp,rfl⟩
  obtain⟨k1,k2,k3⟩:=e3 x hx
  have ne:x.2≠s.heap.objs.size:=λe=>by
   rcases k3 with k3|⟨_,k3⟩<;>rw[e,hp] at k3<;>cases k3
  exact⟨k1,by simp[k2,ne],Rd.at_ne ne k3⟩
end
noncomputable abbrev Jj(o f:De):De:=λτ μ=>(o τ μ).bind λot μ1=>match ot with
 |.mut i=>λK Z=>(∃ts,μ1[i]?=some (.lst ts))/\f τ μ1 (λt μ2=>∃(z:Nat) (ts:List T) (y:T),t=.int z/\z<1000000/\μ2[i]?=some (.lst ts)/\ts[z]?=some y/\K y (μ2.set i (.lst (ts.eraseIdx z)))) Z
 |_=>.st
noncomputable abbrev JH(t:T)(μ:Mem):RE T:=match t with
 |.lst xs=>.som (bools xs) λbs=>.ok (.bl (bs.any id)) μ
 |_=>.st
section
variable {X:Cx}{D:DP}{W:XW}{Γ:Cn}{k:Nat}{pins:List (Addr×Obj)}{s:Shared}{σ:St}{H:Hp}{φ α:List Addr}{τ:Sl}{μ:Mem}{f g:De}{a b:Expr}{pos:Pos}{A:Around}{E:Value->Shared->Prop}
theorem Xe(C:Ck D W Γ X k){o:Expr}{pa pc:Pos}{go:De}(hp:zR o=true)(hs:noStar a=true)(hline:(pa.endLine == pc.line)=true)(ho:PE X o (rdE D W go))(ha:PE X a (rdE D W f)) :
  PE X (.Call (.Attribute o "update" pa) [a] [] pc) (rdE D W (uq go f)):=by
 have hb:starEach [a] X.env=[(false,eval a X.env)]:=z5 hs
 have m:M1 X o "update" pa a pc:=⟨zX hp,by rw[hb];rfl,hline,by rw[hb];rfl⟩
 rintro pins s σ H Q I ⟨φ,α,τ,μ,sr,mr,p⟩
 refine wpAny_Call_method m.base m.few m.line PySem.F.plainAttrs_dict PySem.F.slot_dict_update PySem.F.type_dict_update (thn (sub ho I sr mr p) ?_)
 rintro u s1 ⟨v,H1,t,μ1,α1,I1,r1,st1,sr1,mr1,d1,p1⟩
 cases t with
 | «mut» i=>
  obtain⟨K,Z,⟨⟨ks0,h0⟩,hf⟩,hk,hz⟩:=p1
  obtain⟨x,hx,rfl⟩:=d1
  cases r1
  obtain⟨xs0,_,_,_,_,hH0,_⟩:=mr1.ob i x _ hx h0
  obtain⟨t1,t2⟩:=Qv I1 hH0
  refine⟨t1,t2,?_⟩
  rw[m.trees]
  refine Calls.callWith_builtin rfl (Calls.evalArgs_plain (Calls.spliced_cons (thn (ha pins s1 σ H1 (λy H2=>∃t μ2 α2,Stp α1 H1 α2 H2/\MRel D φ α2 H2 μ2/\Den D φ α2 H2 t y/\∃j ks h a n,t=.mut j/\j≠i/\μ2[i]?=some (.dct ks)/\μ2[j]?=some (.dct (prs h a n))/\0<=a/\n<=1000/\ks.length<=90000/\(∀p∈prs h a n,p∉ks)/\K .non (μ2.set i (.dct (ks++prs h a n)))) I1 ⟨φ,α1,τ,μ1,sr1,mr1,_,Z,hf,λt μ2 ht α2 H2 st2 m2 v d=>⟨t,μ2,α2,st2,m2,d,ht⟩,hz⟩) ?_)))
  rintro iv s2 ⟨y,H2,I2,ry,t,μ2,α2,st2,m2,d2,j,ks,h,a,n,rfl,ne,hi,hj,a0,n1,hkl,hdis,hK⟩
  refine Calls.spliced_nil ?_
  obtain⟨y',hy,rfl⟩:=d2
  cases ry
  obtain⟨β,eβ,_⟩:=st2.ext
  have hx2:α2[i]?=some x:=by
   rw[eβ,List.getElem?_append_left (List.getElem?_eq_some_iff.mp hx).1];exact hx
  have nxy:x≠y':=λe=>by
   subst e
   exact ne ((List.getElem?_inj (List.getElem?_eq_some_iff.mp hy).1 m2.nd).mp (hy.trans hx2.symm))
  obtain⟨xs,rfl,hn,hln,hsm,hH,hky⟩:=m2.ob i x _ hx2 hi
  obtain⟨ys,ey,hn2,hln2,hsm2,hH2,hky2⟩:=m2.ob j y' _ hy hj
  have nd2:(ys.map (·.1)).Nodup:=by rw[←ey];exact hn2
  have dd:=yf I2 hH (λz hz=>(hky z hz).2.2) hn
  have dd2:=yf I2 hH2 (λz hz=>(hky2 z hz).2.2) nd2
  have happ:(xs.map (·.1)++ys.map (·.1)).Nodup:=by
   rw[List.nodup_append]
   exact⟨hn,nd2,λp hp q hq e=>hdis q (by rw[ey];exact hq) (e▸hp)⟩
  have l2:ys.length=n:=by rw[←List.length_map (f:=(·.1)),←ey,vi]
  rw[List.length_map] at hkl
  refine Vk (knd:=tupleKind (ze X.prog X.w)) (tupleKind_room_in1 (by have:=C.unt;omega)) nxy hsm2 dd dd2 (λz hz=>?_) ?_ ?_ ?_ λh' d' sb=>?_
  ·obtain⟨w,hw,rfl⟩:=List.mem_map.mp hz
   obtain⟨_,its,_,o,g1,g2,_⟩:=(show ObjOk X.prog X.w H2 s2.heap w.2 (.tup [.int w.1.1,.int w.1.2]) from (hky2 w hw).2.2.ok I2.hok)
   exact⟨o,g1,g2⟩
  ·have e:(ys.map wU).map (λy=>(tupleKind (ze X.prog X.w)).hash y.1)=(List.range n).map λ(i:Nat)=>(tupleKind (ze X.prog X.w)).hash [.inl h,.inl (a+i)]:=by
    have:(ys.map wU).map (λy=>(tupleKind (ze X.prog X.w)).hash y.1)=(ys.map (·.1)).map λp=>(tupleKind (ze X.prog X.w)).hash (qM p):=by rw[List.map_map,List.map_map];rfl
    rw[this,←ey]
    unfold prs
    rw[List.map_map];rfl
   rw[e]
   exact QW a0 n1
  ·rw[←List.map_append,vO,List.map_append];exact wA happ
  ·rw[List.length_map,List.length_map,l2]
   exact Nat.le_trans (show xs.length+n<=91000 by omega) (by decide)
  ·rw[←List.map_append] at d'
   have st4:Stp α2 H2 α2 (upd H2 x (.ext (qE x (xs++ys)))):=Stp.turn (List.mem_of_getElem? hx2) ⟨_,hH⟩
   have hil:i<μ2.length:=(List.getElem?_eq_some_iff.mp hi).1
   have he:∃u,h'.get? x=some u:=let ⟨u,_,_,hu,_⟩:=d';⟨u,hu⟩
   refine⟨.non,_,jA (t':=s2.toks) I2 (by rw[hH];exact True.intro) sb he (yt d'),rfl,hk _ _ hK α2 _ (st2.trans st4) (m2.turn hx2 hil st4 ⟨xs++ys,by rw[List.map_append,ey],by rw[ey];exact happ,?_,hsm,z6,λz hz=>?_⟩) _ rfl⟩
   ·rw[List.length_append,List.length_map,vi];omega
   ·have kz:z.2∉φ/\z.2∉α2/\Rd H2 z.2 (.tup [.int z.1.1,.int z.1.2]):=(List.mem_append.mp hz).elim (hky z) (hky2 z)
    obtain⟨k1,k2,k3⟩:=kz
    exact⟨k1,k2,Rd.at_ne (λe=>k2 (e▸List.mem_of_getElem? hx2)) k3⟩
 |_=>exact Post.elim p1
theorem DenL.erase:∀(n:Nat) {ts:List T} {vs:List V},DenL D φ α H ts vs->DenL D φ α H (ts.eraseIdx n) (vs.eraseIdx n)
 |n,[],vs,l=>by
  have l:vs=[]:=l
  subst l;exact rfl
 |0,t::ts,_,l=>by obtain⟨v,r,rfl,d,l⟩:=l;exact l
 |n+1,t::ts,_,l=>by obtain⟨v,r,rfl,d,l⟩:=l;exact⟨v,_,rfl,d,DenL.erase n l⟩
theorem JZ{o:Expr}{pa pc:Pos}{go:De}(hp:zR o=true)(hs:noStar a=true)(hline:(pa.endLine == pc.line)=true)(ho:PE X o (rdE D W go))(ha:PE X a (rdE D W f)) :
  PE X (.Call (.Attribute o "pop" pa) [a] [] pc) (rdE D W (Jj go f)):=by
 have hb:starEach [a] X.env=[(false,eval a X.env)]:=z5 hs
 refine PE.mono (XR PySem.F.plainAttrs_list PySem.F.slot_list_pop PySem.F.type_list_pop VW ho (zt ha qb (z5 hs)) (zX hp) (by rw[hb];rfl) hline (z5 hs) rfl) ?_
 rintro σ H Q ⟨φ,α,τ,μ,sr,mr,p⟩
 refine⟨φ,α,τ,μ,sr,mr,p.bind.mono λot μ1 α1 H1 st1 m1 q ov dv=>?_⟩
 cases ot with
 | «mut» i=>
  obtain⟨K,Z,⟨⟨ts0,hμ0⟩,hf⟩,hk,hz⟩:=q
  obtain⟨x,hx,rfl⟩:=dv
  obtain⟨xs0,hH0,l0⟩:=m1.ob _ x _ hx hμ0
  refine⟨.inl ⟨rfl,_,.inl (.inl hH0)⟩,φ,α1,τ,μ1,sr.step st1,m1,_,Z,hf,?_,hz⟩
  rintro t μ2 ⟨z,ts,y,rfl,hz1,hμ,hy,q2⟩ α2 H2 st2 m2 v d
  have d:v=.int z:=d
  subst d
  obtain⟨β,e2,_⟩:=st2.ext
  have hx2:α2[i]?=some x:=by
   rw[e2,List.getElem?_append_left (List.getElem?_eq_some_iff.mp hx).1];exact hx
  obtain⟨xs,hH,l⟩:=m2.ob i x _ hx2 hμ
  obtain⟨w,hw,dw⟩:=l.get hy
  have st4:Stp α2 H2 α2 (upd H2 x (.lst (xs.eraseIdx z))):=Stp.turn (List.mem_of_getElem? hx2) ⟨_,hH⟩
  have hi:i<μ2.length:=(List.getElem?_eq_some_iff.mp hμ).1
  have hzl:z<xs.length:=(List.getElem?_eq_some_iff.mp hw).1
  refine⟨x,xs,z,z,w,rfl,rfl,hH,by omega,by omega,?_,hw,?_⟩
  ·have nz:¬((z:Int)<0):=by omega
   simp[seqIndex?,nz,hzl]
  ·exact hk _ _ q2 α2 _ (st2.trans st4) (m2.turn hx2 hi st4 ⟨_,z6,(l.step st4).erase z⟩) _ (dw.step st4)
 |_=>exact Post.elim q
theorem z1n(hh:X.calm=true):B1 X D W (.builtin "any") JH:=by
 intro pins s σ H φ α μ t v u Q I mr d r p
 unfold JH at p
 split at p
 case h_2=>exact p.elim
 rename_i xs
 obtain⟨bs,hb,p⟩:=p.som
 obtain⟨ad,vs,rfl,_,_,q,l⟩:=d
 cases r
 obtain⟨its,rv,pl,hz⟩:=I.list (.inl q)
 have eb:=kh hb l rv
 have hl:=pl.isList
 have hlt:ad<s.heap.objs.size:=by obtain⟨_,e,_⟩:=hl;exact Heap.lt_size e
 refine call_any_walk (wpAny_pyIter_list hl ?_)
 refine⟨s.heap.objs.size,[s.heap.objs.size,ad],[s.heap.objs.size],its.toArray.size,_,_,λi=>(bs[i]?).getD false,rfl,Walks.list (A:=X.A.in1) (I.ok.hd hh) _ ad (Nat.ne_of_lt hlt) its.toArray,
  ⟨⟨_,Heap.get?_push_size _ rfl,rfl,rfl⟩,hl.push _⟩,λi v s' Q' E' hP hQ=>?_,λh' tk hk=>?_⟩
 ·have hP':its[i]?=some v:=by simpa using hP
  rw[eb,List.getElem?_map] at hP'
  cases e:bs[i]? with
  |none=>rw[e] at hP';cases hP'
  |some b0=>
   rw[e] at hP'
   cases hP'
   simp only[e,Option.getD_some] at hQ
   exact wpAny_truthy_bool hQ
 ·have e:((List.range its.toArray.size).any λi=>(bs[i]?).getD false)=bs.any id:=by
   have hn:its.toArray.size=bs.length:=by simp[eb]
   rw[hn]
   rw[Bool.eq_iff_iff]
   simp only[List.any_eq_true,List.mem_range,id_eq]
   constructor
   ·rintro⟨i,hi,h⟩
    exact⟨bs[i],List.getElem_mem hi,by simpa[hi] using h⟩
   ·rintro⟨b,hb',h⟩
    obtain⟨i,hi,rfl⟩:=List.mem_iff_getElem.mp hb'
    exact⟨i,hi,by simpa[hi] using h⟩
  rw[e]
  have kp:∀b x,s.heap.get? b=some x->h'.get? b=some x:=λb x e=>hk b x (λhm=>by rw[List.mem_singleton.mp hm] at e;exact Nat.lt_irrefl _ (Heap.lt_size e)) (Heap.get?_push_of_some _ e)
  exact⟨.bl (bs.any id),H,I.kept (t':=tk) kp,rfl,p.here mr rfl⟩
end
noncomputable def emD(e:Expr):Bool:=match e with
 |.Dict [] [] _=>true
 |_=>false
noncomputable def z0x:ER:=λ_ Γ e=>gd (emD e&&Γ.own.contains ⟨#[123,125]⟩) (some z0g)
theorem Km{D:DP}:EOk D z0x:=by
 intro r H X W Γ k e d C h
 obtain⟨hb,h⟩:=zj h
 cases h
 have hb:=(Bool.and_eq_true _ _▸hb:emD e=true/\_).1
 unfold emD at hb
 split at hb
 ·exact UJ
 ·cases hb
noncomputable def inM (Γ:Cn):Expr->Option (Expr×Expr)
 |.Compare a [.In] [b] _=>gd (qK .In b&&(match b with|.Name x _=>Γ.own.contains (z17 x)|_=>false)) (some (a,b))
 |_=>none
theorem z00{Γ:Cn}{e:Expr}{q:Expr×Expr}(h:inM Γ e=some q):qK .In q.2=true/\∃pos,e=.Compare q.1 [.In] [q.2] pos:=by
 unfold inM at h
 split at h
 ·obtain⟨hb,h⟩:=zj h
  cases h
  exact⟨(Bool.and_eq_true _ _▸hb:qK .In _=true/\_).1,_,rfl⟩
 ·cases h
noncomputable def Ul:ER:=λr Γ e=>(inM Γ e).bind λq=>(r.e Γ q.1).bind λf=>(r.e Γ q.2).bind λg=>some (eC2 Uq f g)
theorem Xr{D:DP}:EOk D Ul:=by
 intro r H X W Γ k e d C h
 unfold Ul at h
 obtain⟨q,hq,h⟩:=bnd h
 obtain⟨f,e1,h⟩:=bnd h
 obtain⟨g,e2,h⟩:=bnd h
 cases h
 obtain⟨ho,pos,rfl⟩:=z00 hq
 exact z0t (z0y C.unt) ho (H.e C e1) (H.e C e2)
noncomputable def mkd (Γ:Cn)(e:Expr):Bool:=match e with
 |.Call (.Attribute o _ _) _ _ _=>(match o with|.Name x _=>Γ.own.contains (z17 x)|_=>false)
 |_=>false
noncomputable def Y6:ER:=λr Γ e=>gd (mkd Γ e) (rM1 "pop" Q0 r Γ e)
theorem WS{D:DP}:EOk D Y6:=by
 intro r H X W Γ k e d C h
 exact yq (λC hp hs hl ho ha=>Xh C hp hs hl ho ha) r H C (zj h).2
noncomputable def XJ:ER:=λr Γ e=>gd (mkd Γ e) (rM1 "update" uq r Γ e)
theorem V2{D:DP}:EOk D XJ:=by
 intro r H X W Γ k e d C h
 exact yq (λC hp hs hl ho ha=>Xe C hp hs hl ho ha) r H C (zj h).2
noncomputable def XS:ER:=rM1 "pop" Jj
theorem VO{D:DP}:EOk D XS:=yq λC hp hs hl ho ha=>JZ hp hs hl ho ha
noncomputable def Y8:ER:=rB1 "dict" Vc true
theorem Jd{D:DP}:EOk D Y8:=kU λC hx hg hc hs ha=>Xy C hx hg (by decide +kernel) (by decide) hs (z0T (C.clm (hc rfl)) C.unt) ha
noncomputable def XU:ER:=rB1 "any" JH true
theorem Jr{D:DP}:EOk D XU:=kU λC hx hg hc hs ha=>Jq C hx hg (by decide +kernel) (by decide) hs (z1n (C.clm (hc rfl))) ha
end NH
namespace NH.P
open PySem L2 NH
@[reducible] noncomputable def qJ:List Ds:=[(zz (eIx (js [(eC (.int 0)),(z9 yW [(eV 0),(eC (.int 40)),(eC (.int 1000))]),(z9 yW [(eV 0),(eC (.int 50)),(zb .Pow (eC (.int 10)) (eC (.int 38)))])]) (zb .Mod (z9 zm [(eV 0),(eC (.int 39))]) (eC (.int 3)))))]
noncomputable def zP:Fn:=fnW 1 0 qJ
@[reducible] noncomputable def jm:List Ds:=[(zz (Xf (eB1 JH (qw 1 [2,1,0] (.one 0) (WR (eV 3)) [] (eC2 Uq (wq [(eV 2),(zb .Add (eV 1) (eV 0))]) (eV 3))))))]
noncomputable def qP:Fn:=fnW 4 0 jm
@[reducible] noncomputable def wy:List Ds:=[(zo 4 (eB2 xf (eC (.int 0)) (eV 2))),(sIf (tE (zB .Gt (zb .Add (eV 4) (eV 3)) (zC (eV 1) 0))) [(zz (eC .non))] []),(yl (.one 5) (WR (zC (eV 1) 1)) [(sIf (tE (z9 qP [(eV 0),(eV 5),(eV 4),(eV 3)])) [(zz (wq [(eV 5),(eV 4),(zb .Add (eV 4) (eV 3))]))] [])]),(zz (eC .non))]
noncomputable def wB:Fn:=fnW 4 2 wy
@[reducible] noncomputable def v7:List Ds:=[(sIf (tE (zB .Is (eV 2) (eC .non))) [(zz (z9 wB [(eV 0),(eV 1),(eV 3),(eV 4)]))] []),(zo 5 (eB2 xf (eC (.int 0)) (eV 3))),(ko (tE (zB .LtE (zb .Add (eV 5) (eV 4)) (zC (eV 1) 0))) [(sIf (tE (z9 qP [(eV 0),(eV 2),(eV 5),(eV 4)])) [(zz (wq [(eV 2),(eV 5),(zb .Add (eV 5) (eV 4))]))] []),(zo 5 (zb .Add (eV 5) (eC (.int 1))))]),(zz (eC .non))]
noncomputable def qI:Fn:=fnW 5 1 v7
@[reducible] noncomputable def vP:List Ds:=[(UX [4,5,6] (Jj (eV 2) (zb .Mod (z9 zm [(eV 3),(eC (.int 5))]) (eB1 yE (eV 2))))),(zo 7 (eIx (js [(eC .non),(eV 5),(zb .Sub (eV 6) (eC (.int 1))),(zb .Add (eV 5) (zb .Mod (z9 zm [(eV 3),(eC (.int 6))]) (zb .Sub (eV 6) (eV 5))))]) (zb .Mod (z9 zm [(eV 3),(eC (.int 7))]) (eC (.int 4))))),(zo 8 (eV 5)),(sIf (tE (zB .IsNot (eV 7) (eC .non))) [(zo 8 (zb .Add (eV 7) (eC (.int 1))))] []),(qd (vL 43 w8 (eV 0) [(wq [(eV 4),(eV 5),(eV 6)]),(eV 7)])),(yl (.one 9) (kW (eV 8) (eV 6)) [(qd (Q0 (eV 1) (wq [(eV 4),(eV 9)])))])]
noncomputable def vx:Fn:=fnW 4 6 vP
@[reducible] noncomputable def ya:List Ds:=[(zo 1 (z9 wC [(eV 0),(eC (.int 0))])),(zo 2 (z9 zP [(eV 1)])),(zo 3 (zb .Add (eC (.int 1)) (zb .Mod (z9 zm [(eV 1),(eC (.int 1))]) (eC (.int 30))))),(zo 4 (eMk 40 wa [(zb .Add (eV 2) (eV 3)),(zb .Add (eC (.int 1)) (zb .Mod (z9 zm [(eV 1),(eC (.int 2))]) (eC (.int 6)))),(zb .Add (eC (.int 1)) (zb .Mod (z9 zm [(eV 1),(eC (.int 3))]) (eC (.int 9))))])),(zo 5 (Xl 43 qz [(eV 4)])),(zo 6 z0g),(zo 7 (JW [])),(yl (.one 8) (iE (eSl (eV 0) (pS (eC (.int 2))) (pS (eC (.int 32))))) [(zo 9 (zb .Mod (z9 zm [(eV 8),(eC (.int 4))]) (eC (.int 5)))),(sIf (vo (tE (zB .Eq (eV 9) (eC (.int 0)))) (tE (zB .NotEq (eV 7) (js [])))) [(qd (z9 vx [(eV 5),(eV 6),(eV 7),(eV 8)]))] [(zo 10 (eIx (js [(eC .non),(zb .Mod (z9 zm [(eV 8),(eC (.int 0))]) (zC (eV 4) 1))]) (eB1 W3 (zB .Eq (eV 9) (eC (.int 1)))))),(zo 11 (zb .Sub (zb .Add (eV 2) (zb .Mod (z9 zm [(eV 8),(eC (.int 1))]) (zb .Add (eV 3) (eC (.int 3))))) (eC (.int 2)))),(zo 12 (zb .Add (eC (.int 1)) (zb .Mod (z9 zm [(eV 8),(eC (.int 2))]) (eIx (js [(eC (.int 2)),(eC (.int 7)),(zb .Add (eV 3) (eC (.int 2)))]) (zb .Mod (z9 zm [(eV 8),(eC (.int 3))]) (eC (.int 3))))))),(zo 13 (z9 qI [(eV 6),(eV 4),(eV 10),(eV 11),(eV 12)])),(sIf (tE (zB .NotEq (z9 xE [(eV 5),(eC (.str "b")),(eV 10),(eV 11),(eV 12)]) (eV 13))) [(zz (eC (.bl false)))] []),(sIf (tE (zB .IsNot (eV 13) (eC .non))) [(qd (QS (eV 7) (eV 13))),(qd (uq (eV 6) (eB1 Vc (qw 1 [13] (.one 0) (kW (eIx (eV 13) (eC (.int 1))) (eIx (eV 13) (eC (.int 2)))) [] (wq [(wq [(eIx (eV 1) (eC (.int 0))),(eV 0)]),(eC (.bl true))])))))] [])])]),(zz (zB .GtE (eB1 yE (vL 43 zZ (eV 5) [])) (eB1 yE (eV 7))))]
noncomputable def vM:Fn:=fnW 1 13 ya
end NH.P
namespace NH.K22
open PySem PySem.Spec PyProof.Rows L2 NH NH.P
noncomputable def st(i:Nat):Stmt:=PySem.Challenge.pw_namehouses_k22_let_of_any_house.main.body.getD i (.Pass ⟨0,0,0,0⟩)
noncomputable def cls:List (Str×Nat):=[("Ended",19),("bool",1),("int",2),("str",3),("tuple",4)]
noncomputable def fld:List (Str×Nat):=[("moments",0),("houses",1),("counts",2),("holder",5),("lease",6),("until",7),("is_cut",8),("shape",9),("grants",10)]
noncomputable def RU:Rules:=⟨[z0x,Ul,Y6,XJ,XS,Y8,XU,z0Z,YX,z0X,rUn,XQ,YQ,z0V,z10,YM,z1B,YG,z0A,z1p,z19,YC,z1h,V6,Xx,XF,z0r,UD,Z2],[Jn,XY],[VB],[Jv,riE],[Y1,ZI],[XC,XH,z1l,ZK,Xz,XD,XB,VX,XX]⟩
theorem Jt{D:DP}:RulesOk D RU:=⟨⟨Km,Xr,WS,V2,VO,Jd,Jr,Ku,Ks,KI,U8,V1,KY,Ka,Kf,KQ,Kz,Xt,K5,X7,Ky,Xj,Kv,V8,JC,V0,JT,Kp,W2,trivial⟩,⟨Vi,VV,trivial⟩,⟨QQ,trivial⟩,⟨VC,Um,trivial⟩,⟨VQ,Wh,trivial⟩,⟨Jw,Vz,JU,QV,VP,Wt,WJ,Jc,Vr,trivial⟩⟩
noncomputable def gs0:List (Str×GM):=Qp ["ValueError","all","any","bool","dict","int","isinstance","len","max","min","range","sorted","str","tuple"] [("HouseError",10),("NoShape",12),("NoName",13),("NoTime",16),("NoHolder",17),("NoLease",18),("Ended",19)] []
noncomputable def kD:=st 10
noncomputable def Z6:Cn:=cn cls fld gs0 ["thing"] ["isinstance","int","bool"] [] []
theorem Zh:zp ((comp RU 60).s Z6) (z7 kD)=some kT:=by kernel_rfl
noncomputable def gs1:List (Str×GM):=("is_whole",GM.fn qa)::gs0
noncomputable def xT:=st 11
noncomputable def Qz:Cn:=cn cls fld gs1 ["thing"] ["is_whole"] [] []
theorem QU:zp ((comp RU 60).s Qz) (z7 xT)=some y4:=by kernel_rfl
noncomputable def gs2:List (Str×GM):=("is_size",GM.fn q_)::gs1
noncomputable def kq:=st 12
noncomputable def Zi:Cn:=cn cls fld gs2 ["thing","bound"] ["is_whole"] [] []
theorem ZQ:zp ((comp RU 60).s Zi) (z7 kq)=some kP:=by kernel_rfl
noncomputable def gs3:List (Str×GM):=("is_below",GM.fn qH)::gs2
noncomputable def vy:=inClass (st 13) 0
noncomputable def yS:Cn:=cn cls fld gs3 ["self","moments","houses","counts"] ["is_size","NoShape"] [] []
theorem yv:zp ((comp RU 60).s yS) (z7 vy)=some vF:=by kernel_rfl
noncomputable def gs4:List (Str×GM):=("Shape",GM.mk 40 true wa)::gs3
noncomputable def gs5:List (Str×GM):=("HOUSE",GM.cst (.int 0))::gs4
noncomputable def gs6:List (Str×GM):=("FIRST",GM.cst (.int 1))::gs5
noncomputable def gs7:List (Str×GM):=("UNTIL",GM.cst (.int 2))::gs6
noncomputable def kK:=st 18
noncomputable def uZ:Cn:=cn cls fld gs7 ["shape","thing"] ["isinstance","tuple","len","is_below","HOUSE","is_whole","FIRST","UNTIL"] [] []
theorem Zd:zp ((comp RU 60).s uZ) (z7 kK)=some jP:=by kernel_rfl
noncomputable def gs8:List (Str×GM):=("is_lease",GM.fn vt)::gs7
noncomputable def wL:=st 19
noncomputable def xy:Cn:=cn cls fld gs8 ["shape","thing"] ["is_lease","NoLease"] [] []
theorem xu:zp ((comp RU 60).s xy) (z7 wL)=some wO:=by kernel_rfl
noncomputable def gs9:List (Str×GM):=("check_lease",GM.fn wz)::gs8
noncomputable def z1z:List (Str×GM):=("LETTERS",GM.cst (.str "abcdefghijklmnopqrstuvwxyz"))::gs9
noncomputable def YN:List (Str×GM):=("LONGEST_HOLDER",GM.cst (.int 8))::z1z
noncomputable def jb:=st 23
noncomputable def uB:Cn:=cn cls fld YN ["thing"] ["isinstance","str","len","LONGEST_HOLDER","all"] [] []
theorem uO:zp ((comp RU 60).s uB) (z7 jb)=some jh:=by kernel_rfl
noncomputable def UK:List (Str×GM):=("is_holder",GM.fn qF)::YN
noncomputable def vG:=inClass (st 24) 0
noncomputable def yj:Cn:=cn cls fld UK ["self","holder","lease"] ["UNTIL"] [] []
theorem yy:zp ((comp RU 60).s yj) (z7 vG)=some vA:=by kernel_rfl
noncomputable def Uj:List (Str×GM):=("Grant",GM.mk 42 false wW)::UK
noncomputable def Qa:=st 25
noncomputable def KP:Cn:=cn cls fld Uj ["grant","first","until"] ["max","FIRST","min"] [] []
theorem KG:zp ((comp RU 60).s KP) (z7 Qa)=some Qk:=by kernel_rfl
noncomputable def U0:List (Str×GM):=("meets",GM.fn meets)::Uj
noncomputable def zI:=st 26
noncomputable def xk:Cn:=cn cls fld U0 ["grants","moment","span","begin","grant"] ["sorted","meets"] [] [] (some (0,[⟨65,36,65,64⟩]))
theorem xA:zp ((comp RU 60).s xk) (z7 zI)=some wK:=by kernel_rfl
noncomputable def Uv:List (Str×GM):=("least_begin",GM.fn q9)::U0
noncomputable def wJ:=st 27
noncomputable def xj:Cn:=cn cls fld Uv ["grants","moment","span","met","grant","house"] ["meets","HOUSE"] [] ["met"]
theorem xw:zp ((comp RU 60).s xj) (z7 wJ)=some wI:=by kernel_rfl
noncomputable def YF:List (Str×GM):=("least_house",GM.fn qv)::Uv
noncomputable def wN:=inClass (st 28) 0
noncomputable def xi:Cn:=cn cls fld YF ["self","shape"] [] [] ["grants"]
theorem xq:zp ((comp RU 60).s xi) (z7 wN)=some wM:=by kernel_rfl
noncomputable def Ys:List (Str×GM):=("Common",GM.mk 43 false qz)::YF
noncomputable def qi:=inClass (st 28) 2
noncomputable def wV:Cn:=cn cls fld Ys ["self","holder","house","moment","span"] ["is_holder","NoHolder","is_below","NoName","is_size","NoTime","is_whole"] [] []
theorem vd:zp ((comp RU 60).s wV) (z7 qi)=some zL:=by kernel_rfl
noncomputable def z0f:List (Str×GM):=(dot "check_let",GM.met 43 "check_let" zF)::Ys
noncomputable def qr:=inClass (st 28) 4
noncomputable def wX:Cn:=cn cls fld z0f ["self","house"] [] ["house"] []
theorem vc:zp ((comp RU 60).s wX) (z7 qr)=some qo:=by kernel_rfl
noncomputable def YR:List (Str×GM):=(dot "grants_of",GM.met 43 "grants_of" zG)::z0f
noncomputable def qe:=inClass (st 28) 3
noncomputable def wH:Cn:=cn cls fld YR ["self","house","moment","span","begin"] ["least_house","least_begin"] [] []
theorem wG:zp ((comp RU 60).s wH) (z7 qe)=some qc:=by kernel_rfl
noncomputable def YH:List (Str×GM):=(dot "free_lease",GM.met 43 "free_lease" zA)::YR
noncomputable def vg:=inClass (st 28) 1
noncomputable def yJ:Cn:=cn cls fld YH ["self","holder","house","moment","span","lease"] ["max","HOUSE","UNTIL","Ended","Grant"] [] []
theorem yQ:zp ((comp RU 60).s yJ) (z7 vg)=some vh:=by kernel_rfl
noncomputable def z05:List (Str×GM):=(dot "let",GM.met 43 "let" qR)::YH
noncomputable def wt:=inClass (st 28) 6
noncomputable def kg:Cn:=cn cls fld z05 ["self","lease","grant"] ["check_lease","NoLease"] [] []
theorem kc:zp ((comp RU 60).s kg) (z7 wt)=some wm:=by kernel_rfl
noncomputable def Yo:List (Str×GM):=(dot "uncut",GM.met 43 "uncut" qh)::z05
noncomputable def vB:=inClass (st 28) 5
noncomputable def yr:Cn:=cn cls fld Yo ["self","lease","used","grant","until"] ["FIRST","is_whole","UNTIL","NoTime"] [] []
theorem yR:zp ((comp RU 60).s yr) (z7 vB)=some w6:=by kernel_rfl
noncomputable def UN:List (Str×GM):=(dot "cut",GM.met 43 "cut" w8)::Yo
noncomputable def wg:=inClass (st 28) 7
noncomputable def jv:Cn:=cn cls fld UN ["self"] [] [] []
theorem jq:zp ((comp RU 60).s jv) (z7 wg)=some wk:=by kernel_rfl
noncomputable def Yl:List (Str×GM):=(dot "leases",GM.met 43 "leases" zZ)::UN
noncomputable def jg:=st 30
noncomputable def uP:Cn:=cn cls fld Yl ["_law_script","_law_k"] ["len"] [] []
theorem uI:zp ((comp RU 60).s uP) (z7 jg)=some jd:=by kernel_rfl
noncomputable def YJ:List (Str×GM):=("_law_cell_at",GM.fn wC)::Yl
noncomputable def uD:=st 31
noncomputable def JB:Cn:=cn cls fld YJ ["_law_cell","_law_k","_law_number"] [] [] []
theorem Wr:zp ((comp RU 60).s JB) (z7 uD)=some jW:=by kernel_rfl
noncomputable def YE:List (Str×GM):=("_law_draw",GM.fn zm)::YJ
noncomputable def Q7:=st 32
noncomputable def JQ:Cn:=cn cls fld YE ["_law_cell","_law_k","_law_most","_law_found","_law_j"] ["range","_law_draw"] [] []
theorem Xk:zp ((comp RU 60).s JQ) (z7 Q7)=some ZR:=by kernel_rfl
noncomputable def z0j:List (Str×GM):=("_law_far",GM.fn yW)::YE
noncomputable def qL:=st 33
noncomputable def vR:Cn:=cn cls fld z0j ["_law_cell"] ["_law_far","_law_draw"] [] []
theorem vX:zp ((comp RU 60).s vR) (z7 qL)=some qJ:=by kernel_rfl
noncomputable def Yd:List (Str×GM):=("_law_far_moment",GM.fn zP)::z0j
noncomputable def j9:=st 34
noncomputable def uJ:Cn:=cn cls fld Yd ["_law_table","_law_house","_law_begin","_law_span"] ["any","range"] ["_law_table","_law_house","_law_begin"] ["!_law_table"]
theorem uC:zp ((comp RU 60).s uJ) (z7 j9)=some jm:=by kernel_rfl
noncomputable def UR:List (Str×GM):=("_law_is_free",GM.fn qP)::Yd
noncomputable def j8:=st 35
noncomputable def uh:Cn:=cn cls fld UR ["_law_table","_law_shape","_law_moment","_law_span","_law_begin","_law_house"] ["max","range","_law_is_free"] [] []
theorem uz:zp ((comp RU 60).s uh) (z7 j8)=some wy:=by kernel_rfl
noncomputable def Yv:List (Str×GM):=("_law_due_any",GM.fn wB)::UR
noncomputable def kX:=st 36
noncomputable def Zl:Cn:=cn cls fld Yv ["_law_table","_law_shape","_law_house","_law_moment","_law_span","_law_begin"] ["_law_due_any","max","_law_is_free"] [] []
theorem Zj:zp ((comp RU 60).s Zl) (z7 kX)=some v7:=by kernel_rfl
noncomputable def Yi:List (Str×GM):=("_law_due",GM.fn qI)::Yv
noncomputable def ZT:=st 37
noncomputable def K8:Cn:=cn cls fld Yi ["_law_common","_law_holder","_law_house","_law_moment","_law_span","_law_found"] ["Ended"] [] []
theorem Xa:zp ((comp RU 60).s K8) (z7 ZT)=some Qh:=by kernel_rfl
noncomputable def Yp:List (Str×GM):=("_law_let",GM.fn xE)::Yi
noncomputable def xC:=st 38
noncomputable def QI:Cn:=cn cls fld Yp ["_law_common","_law_table","_law_leases","_law_cell","_law_house","_law_first","_law_until","_law_used","_law_end","_law_moment"] ["_law_draw","len","range"] [] ["!_law_table"]
theorem QG:zp ((comp RU 60).s QI) (z7 xC)=some vP:=by kernel_rfl
noncomputable def z0w:List (Str×GM):=("_law_cut",GM.fn vx)::Yp
noncomputable def zM:=st 39
noncomputable def QO:Cn:=cn cls fld z0w ["_law_script","_law_first","_law_far_here","_law_many","_law_shape","_law_common","_law_table","_law_leases","_law_cell","_law_way","_law_house","_law_moment","_law_span","_law_due_here"] ["_law_cell_at","_law_far_moment","_law_draw","Shape","Common","_law_cut","int","_law_due","_law_let","dict","range","len"] ["_law_due_here"] ["_law_leases","{}","!_law_table"]
theorem Wi:zp ((comp RU 60).s QO) (z7 zM)=some ya:=by kernel_rfl
end NH.K22
namespace NH
open PySem PySem.Spec PyProof.Rows L2
theorem qj{p:Prop}{i:Decidable p}{A B:Prop}(h1:p->A)(h2:¬p->B):brW (decide p) A B:=by
 cases i with
 |isTrue h=>exact h1 h
 |isFalse h=>exact h2 h
theorem vQ{p:Prop}{i:Decidable p}{A B:Prop}(h:p)(a:A):brW (decide p) A B:=qj (λ_=>a) λn=>absurd h n
theorem Q3{p:Prop}{i:Decidable p}{A B:Prop}(h1:p->B)(h2:¬p->A):brW (!decide p) A B:=by
 cases i with
 |isTrue h=>exact h1 h
 |isFalse h=>exact h2 h
theorem Q9{p:Prop}{i:Decidable p}{A B:Prop}(h:p)(b:B):brW (!decide p) A B:=Q3 (λ_=>b) λn=>absurd h n
theorem qk{b:Bool}{A B:Prop}(h1:b=true->A)(h2:b=false->B):brW b A B:=by
 cases b with
 |true=>exact h1 rfl
 |false=>exact h2 rfl
theorem ZE{tg:Tg}{g:Sl->Mem->RE (Option T)}{lv:Mem->Prop}{τ:Sl}{μ:Mem}{Z:Xp}(f:T->Option T){xs:List T}{K:List T->Mem->Prop}
  (h:∀x∈xs,∀k:Option T->Mem->Prop,k (f x) μ->∃τ',asg tg x τ=some τ'/\g τ' μ k Z) (k:K (xs.filterMap f) μ) (hl:lv μ:=by trivial):zy tg g lv τ xs μ K Z:=by
 induction xs generalizing K with
 |nil=>exact k
 |cons x r ih=>
  unfold zy
  obtain⟨τ',e,hg⟩:=h x List.mem_cons_self (λo μ1=>lv μ1/\(match o with
   |some y=>(zy tg g lv τ r μ1).bind λys μ2=>RE.ok (y::ys) μ2
   |none=>zy tg g lv τ r μ1) K Z) (by
    refine⟨hl,?_⟩
    cases q:f x with
    |none=>
     rw[List.filterMap_cons_none q] at k
     exact ih (λy hy=>h y (List.mem_cons_of_mem _ hy)) k
    |some y=>
     rw[List.filterMap_cons_some q] at k
     exact ih (K:=λys μ2=>K (y::ys) μ2) (λy hy=>h y (List.mem_cons_of_mem _ hy)) k)
  exact⟨τ',e,hg⟩
theorem y0{tg:Tg}{g:Sl->Mem->RE (Option T)}{lv:Mem->Prop}{τ:Sl}{μ:Mem}{Z:Xp}(f:T->T){xs:List T}{K:List T->Mem->Prop}
  (h:∀x∈xs,∀k:Option T->Mem->Prop,k (some (f x)) μ->∃τ',asg tg x τ=some τ'/\g τ' μ k Z) (k:K (xs.map f) μ) (hl:lv μ:=by trivial):zy tg g lv τ xs μ K Z:=
 ZE (λx=>some (f x)) h (by rw[List.filterMap_eq_map'];exact k) hl
theorem qq{tg:Tg}{body:Ds}{lv:Mem->Prop}{xs:List T}{τ:Sl}{μ:Mem}{E:En}(I:Nat->Sl->Mem->Prop)(h0:I 0 τ μ)
  (h:∀i x τ μ,xs[i]?=some x->I i τ μ->∀N:Sl->Mem->Prop,(∀τ μ,I (i+1) τ μ->N τ μ)->∃τ',asg tg x τ=some τ'/\body τ' μ (E.turn N))
  (k:∀τ μ,I xs.length τ μ->E.nx τ μ) (hl:∀i τ μ,I i τ μ->lv μ:=by intros;trivial):forM tg body lv xs τ μ E:=by
 have go:∀(rest:List T) (i:Nat) (τ:Sl) (μ:Mem),xs.drop i=rest->i<=xs.length->I i τ μ->forM tg body lv rest τ μ E:=by
  intro rest
  induction rest with
  |nil=>
   intro i τ μ hd hi hI
   have:i=xs.length:=by
    have:=congrArg List.length hd
    simp at this;omega
   subst this
   exact k τ μ hI
  |cons x r ih=>
   intro i τ μ hd hi hI
   have hx:xs[i]?=some x:=by
    have:(xs.drop i)[0]?=some x:=by rw[hd];rfl
    simpa using this
   have hlt:i<xs.length:=(List.getElem?_eq_some_iff.mp hx).1
   have hd':xs.drop (i+1)=r:=by
    have:(xs.drop i).tail=r:=by rw[hd];rfl
    simpa using this
   exact h i x τ μ hx hI _ λτ2 μ2 z=>⟨hl _ _ _ z,ih (i+1) τ2 μ2 hd' hlt z⟩
 exact go xs 0 τ μ rfl (Nat.zero_le _) h0
theorem xV{c:Dt}{body:List Ds}{τ:Sl}{μ:Mem}{E:En}(I:Nat->Sl->Mem->Prop)(n:Nat)(h0:I n τ μ)
  (h:∀n τ μ,I n τ μ->∀N:Sl->Mem->Prop,(∀m τ μ,m<n->I m τ μ->N τ μ)->c τ μ (λb μ1=>brW b (zT body τ μ1 (E.turn N)) (E.nx τ μ1)) (λk fs μ1=>E.ex k fs τ μ1)):ko c body τ μ E:=
 ⟨I,⟨n,h0⟩,λn τ μ hI=>h n τ μ hI _ λm τ μ hm hi=>⟨m,hm,hi⟩⟩
end NH
namespace NH.P
open PySem L2 NH
section
variable {μ:Mem}{K:T->Mem->Prop}{Z:Xp}
theorem zD{i:Int}(k:K (.bl true) μ):qa [.int i] μ K Z:=⟨rfl,k⟩
noncomputable def z0W(n:Int):Int:=n * (n / 1009+69621) % 2147483647
noncomputable def z0O(n:Int):Int:=n * (n / 2003+40692) % 2147483399
noncomputable def za(c k:Int):Int:=
 if c % 2=0/\0<c / 2 ^ (1+31 * k).toNat then c / 2 ^ (1+31 * k).toNat % 2147483648
 else z0O (z0W ((c+7919 * k+1) % 2147483647 * 48271 % 2147483647))
theorem zq{c k:Int}(hk:0<=k)(q:K (.int (za c k)) μ):zm [.int c,.int k] μ K Z:=by
 unfold zm
 refine⟨rfl,?_⟩
 unfold za at q
 refine⟨by decide,?_⟩
 have last:K (.int (z0O (z0W ((c+7919 * k+1) % 2147483647 * 48271 % 2147483647)))) μ->zT (jW.drop 1) [some (.int c),some (.int k),none] μ (En.fn K Z):=λq=>by
  refine⟨.inl (by decide),by decide,.inr (by decide),by decide,by decide,.inl (by simp only[big];omega),by decide,?_⟩
  exact⟨by decide,.inl (by simp only[big];omega),by decide,q⟩
 refine qj (λh=>?_) (λh=>?_)
 ·refine⟨.inl (by decide),by omega,?_⟩
  refine qj (λh2=>?_) (λh2=>?_)
  ·rw[if_pos ⟨h,h2⟩] at q
   exact⟨.inl (by decide),by omega,by decide,q⟩
  ·rw[if_neg λz=>h2 z.2] at q
   exact last q
 ·rw[if_neg λz=>h z.1] at q
  exact last q
noncomputable def Jk (c k:Int)(n:Nat):Int:=(List.range n).foldl (λ(v:Int) (j:Nat)=>v * 2147483648+za c (k+j)) 0
theorem Wd{c k:Int}{n:Nat}:Jk c k (n+1)=Jk c k n * 2147483648+za c (k+n):=by
 unfold Jk
 rw[List.range_succ,List.foldl_append]
 rfl
noncomputable def Zr (c k m:Int):Int:=Jk c k 5 % m
theorem kN{n:Int}{i:Nat}{x:T}(h:(rangeT n)[i]?=some x):x=.int i/\(i:Int)<n:=by
 unfold rangeT at h
 rw[List.getElem?_map] at h
 cases q:(List.range n.toNat)[i]? with
 |none=>rw[q] at h;cases h
 |some j=>
  rw[q] at h
  obtain⟨hl,e⟩:=List.getElem?_eq_some_iff.mp q
  have e:i=j:=by simpa using e
  subst e
  cases h
  simp at hl
  exact⟨rfl,by omega⟩
theorem yX{c k m:Int}(hk:0<=k)(hm:0<m)(q:K (.int (Zr c k m)) μ):yW [.int c,.int k,.int m] μ K Z:=by
 unfold yW
 refine⟨rfl,?_⟩
 refine⟨by decide,?_⟩
 refine qq (λi τ μ'=>μ'=μ/\∃o,τ=[some (.int c),some (.int k),some (.int m),some (.int (Jk c k i)),o]) ⟨rfl,none,rfl⟩ ?_ ?_
 ·rintro i x τ _ hx ⟨rfl,o,rfl⟩ N hN
  obtain⟨rfl,hi⟩:=kN hx
  refine⟨_,rfl,.inr (by decide),?_⟩
  refine zq (by omega) ?_
  exact hN _ _ ⟨rfl,some (.int i),by rw[Wd];rfl⟩
 ·rintro τ _ ⟨rfl,o,rfl⟩
  exact⟨hm,q⟩
noncomputable def isL(z:Str):Bool:=!(Builtin.Str.occurrences "abcdefghijklmnopqrstuvwxyz" z 0 (Str.length "abcdefghijklmnopqrstuvwxyz") 1).isEmpty
noncomputable def sgn(z:Str):List Str:=z.cps.toList.map λc=>⟨#[c]⟩
theorem W6(z:Str):kM z=(sgn z).map T.str:=by simp[kM,sgn]
theorem JY(z:Str):(sgn z).length=z.length:=by simp[sgn,Str.length]
noncomputable def qQ(z:Str):Bool:=decide (1<=(z.length:Int))&&decide ((z.length:Int)<=8)&&(sgn z).all isL
theorem xN{α:Type}(f:α->Bool):∀xs:List α,bools (xs.map λx=>T.bl (f x))=some (xs.map f)
 |[]=>rfl
 |x::r=>by simp[bools,xN f r]
theorem xl{z:Str}(hz:z.length<=room)(q:K (.bl (qQ z)) μ):qF [.str z] μ K Z:=by
 unfold qF
 refine⟨rfl,?_⟩
 unfold qQ at q
 refine⟨hz,?_⟩
 refine qj (λh1=>?_) (λh1=>?_)
 ·refine Q3 (λh2=>?_) (λh2=>?_)
  ·show (kM z).length<=room/\_
   rw[W6]
   refine⟨by rw[List.length_map,JY];exact hz,?_⟩
   refine y0 (λx=>match x with|.str y=>.bl (isL y)|t=>t) (λx hx k hk=>?_) ?_
   ·obtain⟨y,hy,rfl⟩:=List.mem_map.mp hx
    exact⟨_,rfl,hk⟩
   ·rw[List.map_map]
    refine⟨_,xN isL (sgn z),?_⟩
    rw[decide_eq_true h1,decide_eq_true h2] at q
    rw[List.all_map]
    exact q
  ·have q:K (.bl false) μ:=by simpa[h2] using q
   exact q
 ·have q:K (.bl false) μ:=by simpa[h1] using q
  exact q
theorem uK{z:Str}{b:Bool}(hz:z.length<=room)(h:qQ z=b)(q:K (.bl b) μ):qF [.str z] μ K Z:=xl hz (by rw[h];exact q)
theorem JA{α:Type}{xs:List α}{k:Int}(h0:0<=k)(h1:k<xs.length):j7 xs k=xs[k.toNat]?:=by
 unfold j7 KR
 rw[if_pos h0,if_pos h1]
 rfl
theorem VT{α:Type}{xs:List α}{lo hi:Option Int}{x:α}(h:x∈xt xs lo hi):x∈xs:=List.mem_of_mem_drop (List.mem_of_mem_take h)
theorem JV{ns:List Int}{lo hi:Option Int}{i:Nat}{x:T}(h:(xt (ns.map T.int) lo hi)[i]?=some x):∃n,x=.int n:=by
 obtain⟨n,_,e⟩:=List.mem_map.mp (VT (List.mem_of_getElem? h))
 exact⟨n,e.symm⟩
end
section
variable {μ μ1 μ2:Mem}{K:T->Mem->Prop}{Z:Xp}
theorem get_set{i:Nat}{x y:MO}(h:μ[i]?=some x):(μ.set i y)[i]?=some y:=by
 have:=(List.getElem?_eq_some_iff.mp h).1
 simp[this]
theorem zH{x:MO}:(μ++[x])[μ.length]?=some x:=by rw[List.getElem?_append_right (Nat.le_refl _)];simp
theorem zK{i:Nat}{x o:MO}(h:μ[i]?=some o):(μ++[x])[i]?=some o:=by
 rw[List.getElem?_append_left (List.getElem?_eq_some_iff.mp h).1];exact h
noncomputable abbrev shp(x y z:Int):T:=.obj 40 [(0,.int x),(1,.int y),(2,.int z)]
theorem qB{n:Int}(k:K (.bl (decide (1<=n))) μ):q_ [.int n] μ K Z:=by
 unfold q_
 refine⟨rfl,?_⟩
 refine zD ?_
 exact k
theorem xg{x y z:Int}(hx:1<=x)(hy:1<=y)(hz:1<=z)(q:K .non [.obj 40 [(0,.int x),(1,.int y),(2,.int z)]]):wa [.mut 0,.int x,.int y,.int z] [.obj 40 []] K Z:=by
 unfold wa
 refine⟨rfl,?_⟩
 refine qB ?_
 refine vQ hx ?_
 refine qB ?_
 refine vQ hy ?_
 refine qB ?_
 refine Q9 hz ?_
 refine⟨_,_,rfl,by decide,?_⟩
 refine⟨_,_,rfl,(by (show (1:Nat)<900);decide),?_⟩
 refine⟨_,_,rfl,(by (show (2:Nat)<900);decide),?_⟩
 exact q
end
section
variable {μ μ1 μ2:Mem}{K:T->Mem->Prop}{Z:Xp}
theorem yG{ns:List Int}{k:Int}(hk:0<=k)(q:∀c,K (.int c) μ):wC [.lst (ns.map T.int),.int k] μ K Z:=by
 unfold wC
 refine⟨rfl,?_⟩
 refine qj (λh=>?_) (λh=>?_)
 ·have hl:k.toNat<ns.length:=by
   rw[List.length_map] at h;omega
  refine⟨.int ns[k.toNat],?_,q _⟩
  rw[JA hk h,List.getElem?_map,List.getElem?_eq_getElem hl]
  rfl
 ·exact q _
end
section
variable {μ μ1 μ2:Mem}{K:T->Mem->Prop}{Z:Xp}
theorem uX{tg:Tg}{g:Sl->Mem->RE (Option T)}{lv:Mem->Prop}{τ:Sl}{x:T}{r:List T}{K:List T->Mem->Prop}(h:∃τ',asg tg x τ=some τ'/\g τ' μ (λo μ1=>lv μ1/\(match o with
  |some y=>zy tg g lv τ r μ1 (λys μ2=>K (y::ys) μ2) Z
  |none=>zy tg g lv τ r μ1 K Z)) Z):zy tg g lv τ (x::r) μ K Z:=by
 obtain⟨τ',e,h⟩:=h
 unfold zy
 refine⟨τ',e,?_⟩
 have:(λ(o:Option T) μ1=>lv μ1/\(match o with
  |some y=>zy tg g lv τ r μ1 (λys μ2=>K (y::ys) μ2) Z
  |none=>zy tg g lv τ r μ1 K Z))=λo μ1=>lv μ1/\(match o with
   |some y=>(zy tg g lv τ r μ1).bind λys μ2=>RE.ok (y::ys) μ2
   |none=>zy tg g lv τ r μ1) K Z:=by
  funext o μ1
  cases o<;>rfl
 rw[this] at h
 exact h
theorem W4{tg:Tg}{g:Sl->Mem->RE (Option T)}{lv:Mem->Prop}{τ:Sl}{K:List T->Mem->Prop}(h:K [] μ):zy tg g lv τ [] μ K Z:=by
 unfold zy
 exact h
end
section
variable {μ μ1 μ2:Mem}{K:T->Mem->Prop}{Z:Xp}
structure Gr where
 ho:Str
 h:Int
 f:Int
 u0:Int
 u:Int
 ct:Bool
noncomputable def Gr.L(G:Gr):T:=.tup [.int G.h,.int G.f,.int G.u0]
noncomputable def Gr.O (G:Gr):MO:=.obj 42 [(5,.str G.ho),(6,G.L),(7,.int G.u),(8,.bl G.ct)]
noncomputable abbrev Gp:=Nat×Gr
noncomputable abbrev Gp.t(p:Gp):T:=.mut p.1
structure Bk(μ:Mem)(c g:Nat)(sh:T)(ps:List Gp):Prop where
 com:μ[c]?=some (.obj 43 [(9,sh),(10,.mut g)])
 lst:μ[g]?=some (.lst (ps.map Gp.t))
 at_:∀p∈ps,μ[p.1]?=some p.2.O
 nd:(ps.map (·.1)).Nodup
structure Ch(S:List Nat)(μ μ':Mem):Prop where
 len:μ.length<=μ'.length
 ot:∀i,i<μ.length->i∉S->μ'[i]?=μ[i]?
theorem Ch.refl{S:List Nat}:Ch S μ μ:=⟨Nat.le_refl _,λ_ _ _=>rfl⟩
theorem Ch.trans{S:List Nat}(a:Ch S μ μ1)(b:Ch S μ1 μ2):Ch S μ μ2:=⟨Nat.le_trans a.len b.len,λi h n=>(b.ot i (Nat.lt_of_lt_of_le h a.len) n).trans (a.ot i h n)⟩
theorem Ch.mono{S S':List Nat}(a:Ch S μ μ1)(h:∀x∈S,x∈S'):Ch S' μ μ1:=⟨a.len,λi hi n=>a.ot i hi λz=>n (h i z)⟩
theorem Ch.app{x:MO}:Ch [] μ (μ++[x]):=⟨by simp,λi h _=>List.getElem?_append_left h⟩
theorem Ch.set{i:Nat}{x:MO}:Ch [i] μ (μ.set i x):=⟨by simp,λj h n=>by rw[List.getElem?_set_ne];rintro rfl;exact n (by simp)⟩
theorem Ch.get{S:List Nat}{i:Nat}{x:MO}(a:Ch S μ μ1)(h:μ[i]?=some x)(n:i∉S):μ1[i]?=some x:=(a.ot i (List.getElem?_eq_some_iff.mp h).1 n).trans h
theorem Bk.ch{S:List Nat}{c g:Nat}{sh:T}{ps:List Gp}(B:Bk μ c g sh ps)(a:Ch S μ μ1)(h1:c∉S)(h2:g∉S)(h3:∀p∈ps,p.1∉S):Bk μ1 c g sh ps:=
 ⟨a.get B.com h1,a.get B.lst h2,λp hp=>a.get (B.at_ p hp) (h3 p hp),B.nd⟩
noncomputable def mt(G:Gr)(b e:Int):Bool:=decide ((if G.f<b then b else G.f)<(if e<G.u then e else G.u))
theorem wb{G:Gr}{b e:Int}:mt G b e=true↔G.f<G.u/\G.f<e/\b<G.u/\b<e:=by
 unfold mt
 rw[decide_eq_true_eq]
 split<;>split<;>omega
theorem ue{G:Gr}{b e:Int}(h:¬(G.f<G.u/\G.f<e/\b<G.u/\b<e)):mt G b e=false:=by
 cases q:mt G b e with
 |false=>rfl
 |true=>exact absurd (wb.mp q) h
theorem y_{a:Nat}{G:Gr}{b e:Int}(h:μ[a]?=some G.O)(q:K (.bl (mt G b e)) μ):meets [.mut a,.int b,.int e] μ K Z:=by
 unfold meets
 refine⟨rfl,?_⟩
 refine⟨_,_,_,h,rfl,?_⟩
 refine⟨_,rfl,?_⟩
 refine⟨_,_,_,h,rfl,?_⟩
 exact q
theorem vU{β:Type}{tg:Tg}{g:Sl->Mem->RE (Option T)}{lv:Mem->Prop}{τ:Sl}(t:β->T)(f:β->Option T){ps:List β}{K:List T->Mem->Prop}
  (h:∀p∈ps,∀k:Option T->Mem->Prop,k (f p) μ->∃τ',asg tg (t p) τ=some τ'/\g τ' μ k Z) (k:K (ps.filterMap f) μ) (hl:lv μ:=by trivial):zy tg g lv τ (ps.map t) μ K Z:=by
 induction ps generalizing K with
 |nil=>exact W4 k
 |cons x r ih=>
  refine uX ?_
  refine h x List.mem_cons_self _ ⟨hl,?_⟩
  cases q:f x with
  |none=>
   rw[List.filterMap_cons_none q] at k
   exact ih (λy hy=>h y (List.mem_cons_of_mem _ hy)) k
  |some y=>
   rw[List.filterMap_cons_some q] at k
   exact ih (K:=λys μ2=>K (y::ys) μ2) (λy hy=>h y (List.mem_cons_of_mem _ hy)) k
theorem Qt:∀{bs:List Gp},(∀p∈bs,μ[p.1]?=some p.2.O)->KeyR (eIx (zC (eV 0) 6) (eC (.int 1))) μ (bs.map Gp.t) (bs.map (·.2.f))
 |[],_=>trivial
 |p::r,h=>⟨⟨_,_,_,h p List.mem_cons_self,rfl,_,rfl,rfl,rfl⟩,Qt λq hq=>h q (List.mem_cons_of_mem _ hq)⟩
end
section
variable {μ μ1 μ2:Mem}{K:T->Mem->Prop}{Z:Xp}
theorem ki{z:Key}{t:T}:∀(kvs:List (Key×T)),(zO z (jw z t kvs)).isSome=true:=by
 intro kvs
 unfold jw
 split
 ·rename_i h
  induction kvs with
  |nil=>simp at h
  |cons p r ih=>
   rw[List.map_cons]
   unfold zO
   by_cases e:p.1=z
   ·rw[if_pos e,if_pos e];rfl
   ·rw[if_neg e,if_neg e]
    exact ih (by simpa[e] using h)
 ·rename_i h
  induction kvs with
  |nil=>simp[zO]
  |cons p r ih=>
   have e:p.1≠z:=λe=>h (by simp[e])
   rw[List.cons_append]
   unfold zO
   rw[if_neg e]
   exact ih λz=>h (by simp only[List.any_cons,Bool.or_eq_true];exact .inr z)
theorem vj{z y:Key}{t:T}(ne:y≠z):∀(kvs:List (Key×T)),(zO y (jw z t kvs)).isSome=(zO y kvs).isSome:=by
 intro kvs
 unfold jw
 split
 ·rename_i h
  clear h
  induction kvs with
  |nil=>rfl
  |cons p r ih=>
   rw[List.map_cons]
   unfold zO
   by_cases e:p.1=z
   ·rw[if_pos e]
    have e2:p.1≠y:=λz'=>ne (z'.symm.trans e)
    rw[if_neg (show ¬(p.1,t).1=y from e2),if_neg e2]
    exact ih
   ·rw[if_neg e]
    by_cases e2:p.1=y
    ·rw[if_pos e2,if_pos e2]
    ·rw[if_neg e2,if_neg e2];exact ih
 ·rename_i h
  clear h
  induction kvs with
  |nil=>
   show (zO y [(z,t)]).isSome=_
   unfold zO
   rw[if_neg (λw=>ne w.symm)]
   rfl
  |cons p r ih=>
   rw[List.cons_append]
   unfold zO
   by_cases e2:p.1=y
   ·rw[if_pos e2,if_pos e2]
   ·rw[if_neg e2,if_neg e2];exact ih
theorem Vq{z:Key}{t:T}{kvs:List (Key×T)}:(jw z t kvs).length<=kvs.length+1:=by
 unfold jw
 split<;>simp
noncomputable def inD (kvs:List (Key×T))(h:Int):Bool:=(zO (.inl h) kvs).isSome
theorem j3:∀(kvs:List (Key×T)),∃B:Int,∀h,inD kvs h=true->h<B
 |[]=>⟨0,λh e=>by cases e⟩
 |(.inl a,t)::r=>by
  obtain⟨B,hB⟩:=j3 r
  refine⟨if a<B then B else a+1,λh e=>?_⟩
  unfold inD zO at e
  by_cases z:(Sum.inl a:Key)=.inl h
  ·have:a=h:=by injection z
   split<;>omega
  ·rw[if_neg z] at e
   have:=hB h e
   split<;>omega
 |(.inr a,t)::r=>by
  obtain⟨B,hB⟩:=j3 r
  refine⟨B,λh e=>?_⟩
  unfold inD zO at e
  rw[if_neg (by intro z;cases z)] at e
  exact hB h e
end
section
variable {μ μ1 μ2:Mem}{K:T->Mem->Prop}{Z:Xp}{c g i0:Nat}{x y z:Int}{ps:List Gp}
theorem yk{n b:Int}(q:K (.bl (decide (0<=n)&&decide (n<b))) μ):qH [.int n,.int b] μ K Z:=by
 unfold qH
 refine⟨rfl,?_⟩
 refine zD ?_
 refine qj (λh=>?_) (λh=>?_)
 ·have q:K (.bl (decide (n<b))) μ:=by simpa[h] using q
  exact q
 ·have q:K (.bl false) μ:=by simpa[h] using q
  exact q
theorem je{n b:Int}(h0:0<=n)(h1:n<b)(q:K (.bl true) μ):qH [.int n,.int b] μ K Z:=yk (by simpa[h0,h1] using q)
noncomputable def jy (y:Int)(t:T):Prop:=t=.non\/∃h:Int,t=.int h/\0<=h/\h<y
theorem yL{ho:Str}{hs:T}{m n:Int}(B:Bk μ c g (shp x y z) ps)(hl:ho.length<=room)(h1:qQ ho=true)(h2:jy y hs)(h3:1<=n)(q:K .non μ):zF [.mut c,.str ho,hs,.int m,.int n] μ K Z:=by
 unfold zF
 refine⟨rfl,?_⟩
 refine uK hl h1 ?_
 have rest:zT (zL.drop 2) [some (.mut c),some (.str ho),some hs,some (.int m),some (.int n)] μ (En.fn K Z):=by
  refine qB ?_
  refine Q9 h3 ?_
  refine zD ?_
  exact q
 rcases h2 with rfl|⟨h,rfl,a,b⟩
 ·exact rest
 ·refine⟨_,_,_,B.com,rfl,?_⟩
  refine je a b ?_
  exact rest
theorem yo{h:Int}(B:Bk μ c g (shp x y z) ps)(hl:ps.length<=1000)(q:K (.lst ((ps.filter λp=>decide (p.2.h=h)).map Gp.t)) μ):zG [.mut c,.int h] μ K Z:=by
 unfold zG
 refine⟨rfl,?_⟩
 refine⟨_,_,_,B.com,rfl,?_⟩
 refine⟨_,B.lst,?_⟩
 refine⟨by rw[List.length_map];unfold room;omega,?_⟩
 refine vU Gp.t (λp=>if p.2.h=h then some (Gp.t p) else none) (λp hp k hk=>?_) ?_ B.lst
 ·refine⟨_,rfl,?_⟩
  refine⟨_,_,_,B.at_ p hp,rfl,?_⟩
  refine⟨_,rfl,?_⟩
  refine qk (λe=>?_) (λe=>?_)
  ·have e:p.2.h=h:=by simpa using e
   rw[if_pos e] at hk
   exact hk
  ·have e:¬p.2.h=h:=by simpa using e
   rw[if_neg e] at hk
   exact hk
 ·have e:ps.filterMap (λp=>if p.2.h=h then some (Gp.t p) else none)=(ps.filter λp=>decide (p.2.h=h)).map Gp.t:=by
   clear q B hl
   induction ps with
   |nil=>rfl
   |cons p r ih=>
    by_cases z:p.2.h=h
    ·rw[List.filterMap_cons_some (b:=Gp.t p) (by rw[if_pos z]),List.filter_cons_of_pos (by simpa using z),List.map_cons,ih]
    ·rw[List.filterMap_cons_none (by rw[if_neg z]),List.filter_cons_of_neg (by simpa using z),ih]
  rw[e]
  exact q
end
section
variable {μ μ1 μ2:Mem}{K:T->Mem->Prop}{Z:Xp}{c g i0:Nat}{x y z:Int}{ps:List Gp}
theorem z11{a b c d e f:Int}:eqL [.int a,.int b,.int c] [.int d,.int e,.int f]=some (decide (a=d)&&(decide (b=e)&&decide (c=f))):=by
 have h:∀i j:Int,(i == j)=decide (i=j):=λi j=>by
  by_cases z:i=j<;>simp[z]
 simp[eqL,eqT,h]
theorem XO{a b c:Int}:zV [.int a,.int b,.int c]<=40:=by simp[zV,wx]
theorem u9{h f u:Int}(h0:0<=h)(h1:h<y)(f0:0<=f)(fu:f<u)(ux:u<=x)(q:K (.bl true) μ):vt [shp x y z,.tup [.int h,.int f,.int u]] μ K Z:=by
 unfold vt
 refine⟨rfl,?_⟩
 refine⟨_,rfl,?_⟩
 refine je h0 h1 ?_
 refine⟨_,rfl,?_⟩
 refine zD ?_
 refine⟨_,rfl,?_⟩
 refine zD ?_
 refine⟨_,rfl,?_⟩
 refine vQ f0 ?_
 refine⟨_,rfl,?_⟩
 refine vQ fu ?_
 have q:K (.bl (decide (u<=x))) μ:=by rw[decide_eq_true ux];exact q
 exact q
theorem Je{h f u:Int}(B:Bk μ c g (shp x y z) ps)(h0:0<=h)(h1:h<y)(f0:0<=f)(fu:f<u)(ux:u<=x)
  (q:∀p∈ps,p.2.h=h->p.2.f=f->p.2.u0=u->p.2.ct=false->K (.mut p.1) μ) (q2:(∀p∈ps,p.2.h=h->p.2.f=f->p.2.u0=u->p.2.ct=true)->Z 18 [] μ):qh [.mut c,.tup [.int h,.int f,.int u]] μ K Z:=by
 unfold qh
 refine⟨rfl,?_⟩
 refine⟨_,_,_,B.com,rfl,?_⟩
 unfold wz
 refine⟨rfl,?_⟩
 refine u9 h0 h1 f0 fu ux ?_
 refine⟨_,_,_,B.com,rfl,?_⟩
 refine⟨_,B.lst,?_⟩
 refine qq (λi τ μ'=>∃o,τ=[some (.mut c),some (.tup [.int h,.int f,.int u]),o]/\μ'=μ/\∀p∈ps.take i,p.2.h=h->p.2.f=f->p.2.u0=u->p.2.ct=true) ⟨none,rfl,rfl,by simp⟩ ?_ ?_ ?_
 ·rintro i t τ μ' hx ⟨o,rfl,rfl,hn⟩ N hN
  rw[List.getElem?_map] at hx
  cases hqi:ps[i]? with
  |none=>rw[hqi] at hx;cases hx
  |some p=>
   rw[hqi] at hx
   cases hx
   have hm:p∈ps:=List.mem_of_getElem? hqi
   have et:ps.take (i+1)=ps.take i++[p]:=by rw[List.take_add_one,hqi];rfl
   have next:(p.2.h=h->p.2.f=f->p.2.u0=u->p.2.ct=true)->N [some (.mut c),some (.tup [.int h,.int f,.int u]),some (.mut p.1)] μ':=λhp=>hN _ _ ⟨_,rfl,rfl,λp' hp'=>by
    rw[et] at hp'
    rcases List.mem_append.mp hp' with hp'|hp'
    ·exact hn p' hp'
    ·rw[List.mem_singleton.mp hp'];exact hp⟩
   refine⟨_,rfl,?_⟩
   refine⟨_,_,_,B.at_ p hm,rfl,?_⟩
   refine⟨XO,_,z11,?_⟩
   refine qk (λe=>?_) (λe=>?_)
   ·simp only[Bool.and_eq_true,decide_eq_true_eq] at e
    refine⟨_,_,_,B.at_ p hm,rfl,?_⟩
    cases hc:p.2.ct with
    |true=>exact next λ_ _ _=>hc
    |false=>exact q p hm e.1 e.2.1 e.2.2 hc
   ·refine next λa b c=>?_
    rw[decide_eq_true a,decide_eq_true b,decide_eq_true c] at e
    cases e
 ·rintro τ μ' ⟨o,rfl,rfl,hn⟩
  rw[List.length_map,List.take_of_length_le (Nat.le_refl _)] at hn
  exact⟨by show (1:Nat)<=room;decide,q2 hn⟩
 ·rintro i τ μ' ⟨o,rfl,rfl,_⟩
  exact B.lst
noncomputable def z1a (f u:Int)(t:T)(e:Int):Prop:=(t=.non/\e=f)\/∃s:Int,t=.int s/\f<=s/\s<u/\e=s+1
noncomputable def setG (a:Nat)(e:Int)(ps:List Gp):List Gp:=ps.map λp=>if p.1=a then (p.1,{p.2 with u:=e,ct:=true}) else p
theorem uo{a:Nat}{e:Int}:(setG a e ps).map (·.1)=ps.map (·.1):=by
 unfold setG
 rw[List.map_map]
 refine List.map_congr_left λp _=>?_
 show (if p.1=a then _ else _:Gp).1=p.1
 split<;>rfl
theorem z0e{a:Nat}{e:Int}:(setG a e ps).map Gp.t=ps.map Gp.t:=by
 have:=congrArg (List.map T.mut) (uo (ps:=ps) (a:=a) (e:=e))
 simp only[List.map_map] at this
 exact this
theorem z0h{h f u e:Int}{t:T}(B:Bk μ c g (shp x y z) ps)(h0:0<=h)(h1:h<y)(f0:0<=f)(fu:f<u)(ux:u<=x)(hu:z1a f u t e)(hex:∃p∈ps,p.2.h=h/\p.2.f=f/\p.2.u0=u/\p.2.ct=false)
  (q:∀p∈ps,p.2.h=h->p.2.f=f->p.2.u0=u->p.2.ct=false->∀μ',Ch [p.1] μ μ'->μ'.length=μ.length->Bk μ' c g (shp x y z) (setG p.1 e ps)->K .non μ'):w8 [.mut c,.tup [.int h,.int f,.int u],t] μ K Z:=by
 unfold w8
 refine⟨rfl,?_⟩
 refine⟨_,B.com,?_⟩
 refine Je B h0 h1 f0 fu ux (λp hp a1 a2 a3 a4=>?_) λhn=>?_
 ·have fin:zT (w6.drop 2) [some (.mut c),some (.tup [.int h,.int f,.int u]),some t,some (.mut p.1),some (.int e)] μ (En.fn K Z):=by
   have ha:=B.at_ p hp
   refine⟨_,_,ha,by show (4:Nat)<900;decide,?_⟩
   refine⟨_,_,get_set ha,by show (4:Nat)<900;decide,?_⟩
   have es:∀(a b:MO),(μ.set p.1 a).set p.1 b=μ.set p.1 b:=λa b=>by rw[List.set_set]
   rw[es]
   have pg:p.1≠g:=λz=>by rw[z,B.lst] at ha;cases ha
   have pc:p.1≠c:=λz=>by
    rw[z,B.com] at ha
    have ha:MO.obj 43 _=MO.obj 42 _:=Option.some.inj ha
    injection ha with w _
    exact absurd w (by decide)
   refine q p hp a1 a2 a3 a4 _ Ch.set (by simp) ⟨?_,?_,λp' hp'=>?_,?_⟩
   ·rw[List.getElem?_set_ne pc];exact B.com
   ·rw[List.getElem?_set_ne pg,z0e];exact B.lst
   ·obtain⟨p2,hp2,rfl⟩:=List.mem_map.mp hp'
    by_cases z:p2.1=p.1
    ·have:p2=p:=by
      obtain⟨i,hi⟩:=List.mem_iff_getElem?.mp hp2
      obtain⟨j,hj⟩:=List.mem_iff_getElem?.mp hp
      obtain⟨i1,i2⟩:=List.getElem?_eq_some_iff.mp hi
      obtain⟨j1,j2⟩:=List.getElem?_eq_some_iff.mp hj
      have:i=j:=(List.getElem_inj (h₀:=by simpa using i1) (h₁:=by simpa using j1) B.nd).mp (by simp[i2,j2,z])
      subst this
      rw[←i2,←j2]
     subst this
     rw[if_pos rfl]
     show (μ.set p2.1 _)[p2.1]?=_
     rw[get_set ha]
     rfl
    ·rw[if_neg z,List.getElem?_set_ne (λw=>z w.symm)]
     exact B.at_ p2 hp2
   ·rw[uo];exact B.nd
  rcases hu with⟨rfl,rfl⟩|⟨s,rfl,hs1,hs2,rfl⟩
  ·exact⟨_,rfl,fin⟩
  ·refine zD ?_
   refine⟨_,rfl,?_⟩
   refine vQ hs1 ?_
   refine⟨_,rfl,?_⟩
   refine vQ hs2 ?_
   exact fin
 ·obtain⟨p,hp,a1,a2,a3,a4⟩:=hex
  have:=hn p hp a1 a2 a3
  rw[a4] at this;cases this
noncomputable def Gr.row(G:Gr):T:=.tup [.str G.ho,.int G.h,.int G.f,.int G.u]
theorem Wg(B:Bk μ c g (shp x y z) ps)(hl:ps.length<=1000)(q:K (.lst (ps.map λp=>p.2.row)) μ):zZ [.mut c] μ K Z:=by
 unfold zZ
 refine⟨rfl,?_⟩
 refine⟨_,_,_,B.com,rfl,?_⟩
 refine⟨_,B.lst,?_⟩
 refine⟨by rw[List.length_map];unfold room;omega,?_⟩
 refine vU Gp.t (λp=>some p.2.row) (λp hp k hk=>?_) (by rw[List.filterMap_eq_map'];exact q) B.lst
 refine⟨_,rfl,?_⟩
 have ha:=B.at_ p hp
 refine⟨_,_,_,ha,rfl,?_⟩
 refine⟨_,_,_,ha,rfl,?_⟩
 refine⟨_,rfl,?_⟩
 refine⟨_,_,_,ha,rfl,?_⟩
 refine⟨_,rfl,?_⟩
 refine⟨_,_,_,ha,rfl,?_⟩
 exact hk
end
section
variable {μ μ1 μ2:Mem}{K:T->Mem->Prop}{Z:Xp}{c g r i0:Nat}{x y z:Int}{ps:List Gp}
structure GrOk(x y:Int)(G:Gr):Prop where
 h0:0<=G.h
 h1:G.h<y
 f0:0<=G.f
 fu0:G.f<G.u0
 ux:G.u0<=x
 fu:G.f<=G.u
 uu:G.u<=G.u0
 op:G.ct=false->G.u=G.u0
noncomputable def Dj (p q:Gp):Prop:=p.2.h=q.2.h->mt p.2 q.2.f q.2.u=false
structure Gd(x y:Int)(ps:List Gp):Prop where
 ok:∀p∈ps,GrOk x y p.2
 dj:ps.Pairwise Dj
theorem Gd.one(G:Gd x y ps){i j:Nat}{p q:Gp}(hi:ps[i]?=some p)(hj:ps[j]?=some q)(e:p.2.h=q.2.h)(m:p.2.f<p.2.u/\q.2.f<q.2.u/\p.2.f<q.2.u/\q.2.f<p.2.u):i=j:=by
 obtain⟨i1,i2⟩:=List.getElem?_eq_some_iff.mp hi
 obtain⟨j1,j2⟩:=List.getElem?_eq_some_iff.mp hj
 have no:∀{i j:Nat} {p q:Gp} (i1:i<ps.length) (j1:j<ps.length),ps[i]=p->ps[j]=q->p.2.h=q.2.h->(p.2.f<p.2.u/\q.2.f<q.2.u/\p.2.f<q.2.u/\q.2.f<p.2.u)->¬i<j:=λ{i j p q} i1 j1 i2 j2 e m hij=>by
  have:=(List.pairwise_iff_getElem.mp G.dj) i j i1 j1 hij
  rw[i2,j2] at this
  have h2:mt p.2 q.2.f q.2.u=true:=wb.mpr (by omega)
  rw[this e] at h2;cases h2
 have a:=no i1 j1 i2 j2 e m
 have b:=no j1 i1 j2 i2 e.symm (by omega)
 omega
theorem uV{e:Int}:∀{ps:List Gp} {i:Nat} {p:Gp},(ps.map (·.1)).Nodup->ps[i]?=some p->setG p.1 e ps=ps.set i (p.1,{p.2 with u:=e,ct:=true})
 |[],i,p,_,h=>by simp at h
 |q::r,0,p,nd,h=>by
  have h:q=p:=by simpa using h
  subst h
  rw[List.map_cons,List.nodup_cons] at nd
  show (if q.1=q.1 then _ else q)::setG q.1 e r=_
  rw[if_pos rfl]
  have:setG q.1 e r=r:=by
   unfold setG
   conv=>rhs;rw[←List.map_id r]
   refine List.map_congr_left λp hp=>?_
   rw[if_neg (λ(z:p.1=q.1)=>nd.1 (List.mem_map.mpr ⟨p,hp,z⟩))];rfl
  rw[this];rfl
 |q::r,i+1,p,nd,h=>by
  rw[List.map_cons,List.nodup_cons] at nd
  have h:r[i]?=some p:=by simpa using h
  have ne:q.1≠p.1:=λz=>nd.1 (List.mem_map.mpr ⟨p,List.mem_of_getElem? h,z.symm⟩)
  show (if q.1=p.1 then _ else q)::setG p.1 e r=_
  rw[if_neg ne,uV nd.2 h];rfl
theorem Gd.cut(G:Gd x y ps){i:Nat}{p:Gp}{e:Int}(hi:ps[i]?=some p)(h1:p.2.f<=e)(h2:e<=p.2.u):Gd x y (ps.set i (p.1,{p.2 with u:=e,ct:=true})):=by
 have hp:=G.ok p (List.mem_of_getElem? hi)
 obtain⟨i1,i2⟩:=List.getElem?_eq_some_iff.mp hi
 refine⟨λq hq=>?_,?_⟩
 ·rcases List.mem_or_eq_of_mem_set hq with hq|rfl
  ·exact G.ok q hq
  ·exact⟨hp.h0,hp.h1,hp.f0,hp.fu0,hp.ux,h1,Int.le_trans h2 hp.uu,λz=>by cases z⟩
 ·rw[List.pairwise_iff_getElem]
  intro a b ha hb hab
  rw[List.length_set] at ha hb
  have:=(List.pairwise_iff_getElem.mp G.dj) a b ha hb hab
  rw[List.getElem_set,List.getElem_set]
  split
  ·rename_i ia
   subst ia
   rw[i2] at this
   rw[if_neg (by omega)]
   intro ee
   have:=this ee
   refine ue λw=>?_
   have w:p.2.f<e/\p.2.f<ps[b].2.u/\ps[b].2.f<e/\ps[b].2.f<ps[b].2.u:=w
   have h2:mt p.2 ps[b].2.f ps[b].2.u=true:=wb.mpr (by omega)
   rw[this] at h2;cases h2
  ·split
   ·rename_i ib
    subst ib
    rw[i2] at this
    intro ee
    have:=this ee
    refine ue λw=>?_
    have w:ps[a].2.f<ps[a].2.u/\ps[a].2.f<e/\p.2.f<ps[a].2.u/\p.2.f<e:=w
    have h2:mt ps[a].2 p.2.f p.2.u=true:=wb.mpr (by omega)
    rw[this] at h2;cases h2
   ·exact this
theorem Gd.add(G:Gd x y ps){q:Gp}(hq:GrOk x y q.2)(h:∀p∈ps,p.2.h=q.2.h->mt p.2 q.2.f q.2.u=false):Gd x y (ps++[q]):=by
 refine⟨λp hp=>?_,?_⟩
 ·rcases List.mem_append.mp hp with hp|hp
  ·exact G.ok p hp
  ·rw[List.mem_singleton.mp hp];exact hq
 ·rw[List.pairwise_append]
  exact⟨G.dj,by simp,λa ha b hb=>by rw[List.mem_singleton.mp hb];exact h a ha⟩
end
section
variable {μ μ1 μ2:Mem}{K:T->Mem->Prop}{Z:Xp}{c g r i0:Nat}{x y z:Int}{ps:List Gp}
theorem JJ{l:List T}:eqL l []=some l.isEmpty:=by
 cases l<;>rfl
end
section
variable {μ μ1 μ2:Mem}{K:T->Mem->Prop}{Z:Xp}{c g r i0:Nat}{x y z:Int}{ps:List Gp}
noncomputable def z1u(gs:List Gp)(h m n b:Int):Prop:=m<=b/\(∀p∈gs,p.2.h=h->mt p.2 b (b+n)=false)/\∀b',m<=b'->b'<b->∃p∈gs,p.2.h=h/\mt p.2 b' (b'+n)=true
noncomputable def WC(gs:List Gp)(m n h:Int):Prop:=0<=h/\(∀p∈gs,p.2.h=h->mt p.2 m (m+n)=false)/\∀h',0<=h'->h'<h->∃p∈gs,p.2.h=h'/\mt p.2 m (m+n)=true
theorem jU{bs:List Gp}{m n:Int}{i0:Nat}(h:∀p∈bs,μ[p.1]?=some p.2.O)(hl:bs.length<64)(hn1:1<=n)(ht:μ[i0]?=some (.tab 0))(q:∀b,m<=b->(∀p∈bs,mt p.2 b (b+n)=false)->(∀b',m<=b'->b'<b->∃p∈bs,mt p.2 b' (b'+n)=true)->K (.int b) μ):q9 [.lst (bs.map Gp.t),.int m,.int n] μ K Z:=by
 unfold q9
 refine⟨rfl,?_⟩
 refine⟨⟨i0,ht⟩,by rw[List.length_map];exact hl,bs.map (·.2.f),Qt h,λps hp hs=>?_⟩
 have ez:(bs.map (·.2.f)).zip (bs.map Gp.t)=bs.map λp=>(p.2.f,Gp.t p):=by rw[List.zip_map',]
 rw[ez] at hp
 obtain⟨qs,hq,rfl⟩:=ud hp rfl
 rw[List.map_map,List.pairwise_map] at *
 have hq':∀p∈qs,μ[p.1]?=some p.2.O:=λp hp=>h p (hq.mem_iff.mp hp)
 refine qq (λi τ μ'=>∃b o,τ=[some (.lst (bs.map Gp.t)),some (.int m),some (.int n),some (.int b),o]/\μ'=μ/\m<=b/\(∀p∈qs.take i,mt p.2 b (b+n)=false)/\∀b',m<=b'->b'<b->∃p∈bs,mt p.2 b' (b'+n)=true) ⟨m,none,rfl,rfl,Int.le_refl _,by simp,λb' h1 h2=>by omega⟩ ?_ ?_
 ·rintro i x τ μ' hx ⟨b,o,rfl,rfl,hb,hn,hmin⟩ N hN
  rw[List.getElem?_map] at hx
  cases hqi:qs[i]? with
  |none=>rw[hqi] at hx;cases hx
  |some p=>
   rw[hqi] at hx
   cases hx
   have hm:p∈qs:=List.mem_of_getElem? hqi
   have et:qs.take (i+1)=qs.take i++[p]:=by rw[List.take_add_one,hqi];rfl
   have le:∀p'∈qs.take i,p'.2.f<=p.2.f:=λp' hp'=>by
    obtain⟨j,hj⟩:=List.mem_iff_getElem?.mp hp'
    rw[List.getElem?_take] at hj
    split at hj
    ·rename_i hji
     obtain⟨h1,e1⟩:=List.getElem?_eq_some_iff.mp hj
     obtain⟨h2,e2⟩:=List.getElem?_eq_some_iff.mp hqi
     have:=(List.pairwise_iff_getElem.mp hs) j i h1 h2 hji
     rw[e1,e2] at this
     exact this
    ·cases hj
   refine⟨_,rfl,?_⟩
   refine y_ (hq' p hm) ?_
   refine qk (λe=>?_) (λe=>?_)
   ·refine⟨_,_,_,hq' p hm,rfl,?_⟩
    have e:=wb.mp e
    refine hN _ _ ⟨p.2.u,_,rfl,rfl,by omega,λp' hp'=>?_,λb' h1 h2=>?_⟩
    ·rw[et] at hp'
     rcases List.mem_append.mp hp' with hp'|hp'
     ·have h1:=hn p' hp'
      have h2:=le p' hp'
      refine ue λz=>?_
      have:mt p'.2 b (b+n)=true:=wb.mpr (by omega)
      rw[h1] at this;cases this
     ·rw[List.mem_singleton.mp hp']
      exact ue (by omega)
    ·by_cases w:b'<b
     ·exact hmin b' h1 w
     ·exact⟨p,hq.mem_iff.mp hm,wb.mpr (by omega)⟩
   ·refine hN _ _ ⟨b,_,rfl,rfl,hb,λp' hp'=>?_,hmin⟩
    rw[et] at hp'
    rcases List.mem_append.mp hp' with hp'|hp'
    ·exact hn p' hp'
    ·rw[List.mem_singleton.mp hp'];exact e
 ·rintro τ μ' ⟨b,o,rfl,rfl,hb,hn,hmin⟩
  refine q b hb (λp hp=>hn p ?_) hmin
  rw[List.length_map,List.take_of_length_le (Nat.le_refl _)]
  exact hq.mem_iff.mpr hp
theorem kR{g:Nat}{m n:Int}(hg:μ[g]?=some (.lst (ps.map Gp.t)))(h:∀p∈ps,μ[p.1]?=some p.2.O)(hl:ps.length<1000)
    (q:∀b μ',WC ps m n b->Ch [] μ μ'->K (.int b) μ'):qv [.mut g,.int m,.int n] μ K Z:=by
  unfold qv
  refine⟨rfl,?_⟩
  refine⟨_,zK hg,?_⟩
  refine qq (λi τ μ'=>∃kvs o,τ=[some (.mut g),some (.int m),some (.int n),some (.mut μ.length),o,none]/\μ'=μ++[.dic kvs]/\kvs.length<=i/\(∀p∈ps.take i,mt p.2 m (m+n)=true->inD kvs p.2.h=true)/\∀b,inD kvs b=true->∃p∈ps,p.2.h=b/\mt p.2 m (m+n)=true) ⟨[],none,rfl,rfl,Nat.le_refl _,by simp,λb e=>by cases e⟩ ?_ ?_ ?_
  · rintro i x τ μ' hx ⟨kvs,o,rfl,rfl,hk,hn,hr⟩ N hN
    rw[List.getElem?_map] at hx
    cases hqi:ps[i]? with
    |none=>rw[hqi] at hx;cases hx
    |some p=>
      rw[hqi] at hx
      cases hx
      have hm:p∈ps:=List.mem_of_getElem? hqi
      have hlt:i<ps.length:=(List.getElem?_eq_some_iff.mp hqi).1
      have et:ps.take (i+1)=ps.take i++[p]:=by rw[List.take_add_one,hqi];rfl
      refine⟨_,rfl,?_⟩
      refine y_ (zK (h p hm)) ?_
      refine qk (λe=>?_) (λe=>?_)
      · refine ⟨_,_,_,zK (h p hm),rfl,?_⟩
        refine⟨_,rfl,?_⟩
        refine .inr ⟨_,zH,by unfold room;omega,?_⟩
        have es:(μ++[MO.dic kvs]).set μ.length (MO.dic (jw (.inl p.2.h) (.bl true) kvs))=μ++[MO.dic (jw (.inl p.2.h) (.bl true) kvs)]:=by
          rw[List.set_append_right _ _ (Nat.le_refl _)];simp
        rw[es]
        refine hN _ _ ⟨_,_,rfl,rfl,Nat.le_trans Vq (by omega),λp' hp' e'=>?_,λb hb=>?_⟩
        · by_cases z : p'.2.h = p.2.h
          · rw[z];exact ki _
          · unfold inD
            rw[vj (λw=>z (by injection w))]
            rw[et] at hp'
            rcases List.mem_append.mp hp' with hp'|hp'
            · exact hn p' hp' e'
            · rw[List.mem_singleton.mp hp'] at z;exact absurd rfl z
        · by_cases z : b = p.2.h
          · exact⟨p,hm,z.symm,e⟩
          · unfold inD at hb
            rw[vj (λw=>z (by injection w))] at hb
            exact hr b hb
      · refine hN _ _ ⟨kvs,_,rfl,rfl,by omega,fun p' hp' e' => ?_,hr⟩
        rw[et] at hp'
        rcases List.mem_append.mp hp' with hp'|hp'
        · exact hn p' hp' e'
        · rw[List.mem_singleton.mp hp',e] at e';cases e'
  · rintro τ μ' ⟨kvs,o,rfl,rfl,hk,hn,hr⟩
    rw[List.length_map,List.take_of_length_le (Nat.le_refl _)] at hn
    obtain⟨B,hB⟩:=j3 kvs
    refine xV (λk τ μ'=>∃b:Int,0<=b/\k=(B-b).toNat/\τ=[some (.mut g),some (.int m),some (.int n),some (.mut μ.length),o,some (.int b)]/\μ'=μ++[.dic kvs]/\∀b',0<=b'->b'<b->inD kvs b'=true) (B-0).toNat ⟨0,Int.le_refl _,rfl,rfl,rfl,λb' h1 h2=>by omega⟩ ?_
    rintro k τ μ' ⟨b,hb,rfl,rfl,rfl,hd⟩ N hN
    refine⟨_,zH,?_⟩
    refine qk (λe=>?_) (λe=>?_)
    · have := hB b e
      exact hN _ _ _ (show (B-(b+1)).toNat<(B-b).toNat by omega) ⟨b+1,by omega,rfl,rfl,rfl,λb' h1 h2=>by
        by_cases w:b'=b
        · rw[w];exact e
        · exact hd b' h1 (by omega)⟩
    · refine q b _ ⟨hb,fun p hp ph => ?_,fun b' h1 h2 => hr b' (hd b' h1 h2)⟩ Ch.app
      cases z:mt p.2 m (m+n) with
      |false=>rfl
      | true => have := hn p hp z
                rw[ph] at this
                unfold inD at this
                rw[e] at this;cases this
  · rintro i τ μ' ⟨kvs,o,rfl,rfl,_⟩
    exact zK hg
noncomputable def Lease(ps:List Gp)(hs:T)(m n h b:Int):Prop:=(hs=.non/\b=m/\WC ps m n h)\/(hs=.int h/\z1u ps h m n b)
theorem Lease.one{hs:T}{m n h b h' b':Int}(a:Lease ps hs m n h b)(a':Lease ps hs m n h' b'):h=h'/\b=b':=by
 rcases a with⟨rfl,rfl,e0,e1,e2⟩|⟨rfl,e0,e1,e2⟩
 ·rcases a' with⟨_,rfl,f0,f1,f2⟩|⟨z,_⟩
  ·refine⟨?_,rfl⟩
   rcases Int.lt_trichotomy h h' with w|w|w
   ·obtain⟨p,hp,p1,p2⟩:=f2 h e0 w
    rw[e1 p hp p1] at p2;cases p2
   ·exact w
   ·obtain⟨p,hp,p1,p2⟩:=e2 h' f0 w
    rw[f1 p hp p1] at p2;cases p2
  ·cases z
 ·rcases a' with⟨z,_⟩|⟨z,f0,f1,f2⟩
  ·cases z
  ·cases z
   refine⟨rfl,?_⟩
   rcases Int.lt_trichotomy b b' with w|w|w
   ·obtain⟨p,hp,p1,p2⟩:=f2 b e0 w
    rw[e1 p hp p1] at p2;cases p2
   ·exact w
   ·obtain⟨p,hp,p1,p2⟩:=e2 b' f0 w
    rw[f1 p hp p1] at p2;cases p2
theorem xh{hs:T}{m n:Int}(B:Bk μ c g (shp x y z) ps)(ht:μ[i0]?=some (.tab 0))(hl:ps.length<64)(hn1:1<=n)(h2:jy y hs)
  (q:∀h b μ',0<=h->Lease ps hs m n h b->Ch [] μ μ'->K (.tup [.int h,.int b,.int (b+n)]) μ'):zA [.mut c,hs,.int m,.int n] μ K Z:=by
 unfold zA
 refine⟨rfl,?_⟩
 rcases h2 with rfl|⟨h,rfl,a,b⟩
 ·refine⟨_,_,_,B.com,rfl,?_⟩
  refine kR B.lst B.at_ (by omega) λh μ' hf ch=>?_
  exact q h m μ' hf.1 (.inl ⟨rfl,rfl,hf⟩) ch
 ·refine⟨_,B.com,?_⟩
  refine yo B (by omega) ?_
  refine jU (i0:=i0) (λp hp=>B.at_ p (List.mem_filter.mp hp).1) (Nat.lt_of_le_of_lt (List.length_filter_le ..) hl) hn1 ht λb hb hm hmin=>?_
  refine q h b μ a (.inr ⟨rfl,hb,λp hp ph=>hm p (List.mem_filter.mpr ⟨hp,by simpa using ph⟩),λb' h1 h2=>?_⟩) Ch.refl
  obtain⟨p,hp,e⟩:=hmin b' h1 h2
  obtain⟨h3,h4⟩:=List.mem_filter.mp hp
  exact⟨p,h3,by simpa using h4,e⟩
theorem Up{ho:Str}{hs:T}{m n:Int}(B:Bk μ c g (shp x y z) ps)(ht:μ[i0]?=some (.tab 0))(hl:ps.length<64)(h0:ho.length<=room)(h1:qQ ho=true)(h2:jy y hs)(h3:1<=n)
  (q1:∀h b μ',Lease ps hs (if m<0 then 0 else m) n h b->(y<=h\/x<b+n)->Ch [] μ μ'->Z 19 [] μ')
  (q2:∀h b μ' a,0<=h->h<y->0<=b->b+n<=x->Lease ps hs (if m<0 then 0 else m) n h b->μ.length<=a->Ch [g] μ μ'->Bk μ' c g (shp x y z) (ps++[(a,⟨ho,h,b,b+n,b+n,false⟩)])->K (.tup [.int h,.int b,.int (b+n)]) μ'):qR [.mut c,.str ho,hs,.int m,.int n] μ K Z:=by
 unfold qR
 refine⟨rfl,?_⟩
 refine⟨_,B.com,?_⟩
 refine yL B h0 h1 h2 h3 ?_
 refine⟨_,B.com,?_⟩
 refine xh B ht hl h3 h2 λh b μ1 hh hm ch=>?_
 have B1:=B.ch ch (by simp) (by simp) (by simp)
 have hb0:0<=b:=by
  have:(0:Int)<=(if m<0 then 0 else m):=by split<;>omega
  rcases hm with⟨_,e,_⟩|⟨_,e,_⟩<;>omega
 refine⟨_,rfl,?_⟩
 refine⟨_,_,_,B1.com,rfl,?_⟩
 refine qj (λe=>?_) (λe=>?_)
 ·exact⟨by show (1:Nat)<=room;decide,q1 h b _ hm (.inl e) ch⟩
 ·refine⟨_,rfl,?_⟩
  refine⟨_,_,_,B1.com,rfl,?_⟩
  refine qj (λe2=>?_) (λe2=>?_)
  ·exact⟨by show (1:Nat)<=room;decide,q1 h b _ hm (.inr e2) ch⟩
  ·refine⟨_,_,_,B1.com,rfl,?_⟩
   refine⟨⟨_,B1.lst⟩,?_⟩
   have gl:g<μ1.length:=(List.getElem?_eq_some_iff.mp B1.lst).1
   unfold wW
   refine⟨rfl,?_⟩
   refine⟨_,_,zH,by show (0:Nat)<900;decide,?_⟩
   refine⟨_,_,get_set zH,by show (1:Nat)<900;decide,?_⟩
   refine⟨_,rfl,?_⟩
   refine⟨_,_,get_set (get_set zH),by show (2:Nat)<900;decide,?_⟩
   refine⟨_,_,get_set (get_set (get_set zH)),by show (3:Nat)<900;decide,?_⟩
   refine⟨rfl,?_⟩
   have es:∀(μ:Mem) (a b:MO),(μ++[a]).set μ.length b=μ++[b]:=λμ a b=>by rw[List.set_append_right _ _ (Nat.le_refl _)];simp
   simp only[es]
   refine⟨_,zK B1.lst,by rw[List.length_map];unfold room;omega,?_⟩
   refine q2 h b _ μ1.length hh (by omega) hb0 (by omega) hm ch.len ?_ ?_
   ·refine (ch.mono (by simp)).trans ((Ch.app.mono (by simp)).trans Ch.set)
   ·have nw:∀p∈ps,p.1≠g/\p.1<μ1.length:=λp hp=>by
     refine⟨λe=>?_,(List.getElem?_eq_some_iff.mp (B1.at_ p hp)).1⟩
     have:=B1.at_ p hp
     rw[e,B1.lst] at this;cases this
    have cg:c≠g:=λe=>by
     have:=B1.com
     rw[e,B1.lst] at this;cases this
    refine⟨?_,?_,λp hp=>?_,?_⟩
    ·rw[List.getElem?_set_ne cg.symm];exact zK B1.com
    ·rw[List.map_append];exact get_set (zK B1.lst)
    ·rcases List.mem_append.mp hp with hp|hp
     ·rw[List.getElem?_set_ne (nw p hp).1.symm];exact zK (B1.at_ p hp)
     ·rw[List.mem_singleton.mp hp,List.getElem?_set_ne (by show g≠μ1.length;omega)];exact zH
    ·rw[List.map_append,List.nodup_append]
     refine⟨B1.nd,by simp,λa ha b hb e=>?_⟩
     obtain⟨p,hp,rfl⟩:=List.mem_map.mp ha
     have hb:b=μ1.length:=by simpa using hb
     have:=(nw p hp).2
     omega
theorem uT{ho:Str}{hs:T}{m n:Int}(B:Bk μ c g (shp x y z) ps)(ht:μ[i0]?=some (.tab 0))(hl:ps.length<64)(h0:ho.length<=room)(h1:qQ ho=true)(h2:jy y hs)(h3:1<=n)
  (q1:∀h b μ',Lease ps hs (if m<0 then 0 else m) n h b->(y<=h\/x<b+n)->Ch [] μ μ'->K .non μ')
  (q2:∀h b μ' a,0<=h->h<y->0<=b->b+n<=x->Lease ps hs (if m<0 then 0 else m) n h b->μ.length<=a->Ch [g] μ μ'->Bk μ' c g (shp x y z) (ps++[(a,⟨ho,h,b,b+n,b+n,false⟩)])->K (.tup [.int h,.int b,.int (b+n)]) μ'):xE [.mut c,.str ho,hs,.int m,.int n] μ K Z:=by
 unfold xE
 refine⟨rfl,?_⟩
 refine⟨_,B.com,?_⟩
 exact Up B ht hl h0 h1 h2 h3 q1 q2
theorem Lease.free{hs:T}{m n h b:Int}(a:Lease ps hs m n h b):∀p∈ps,p.2.h=h->mt p.2 b (b+n)=false:=by
 rcases a with⟨_,rfl,e⟩|⟨_,e⟩
 ·exact e.2.1
 ·exact e.2.1
end
section
variable {μ μ1 μ2:Mem}{K:T->Mem->Prop}{Z:Xp}{c g i0 ti li:Nat}{x y z:Int}{ps ps':List Gp}{ks:List (Int×Int)}{h m n b:Int}
noncomputable def Tb (ps:List Gp)(ks:List (Int×Int)):Prop:=∀h m,(h,m)∈ks↔∃p∈ps,p.2.h=h/\p.2.f<=m/\m<p.2.u
noncomputable def FrB (ps:List Gp)(h b n:Int):Prop:=∀p∈ps,p.2.h=h->mt p.2 b (b+n)=false
theorem Qe(hn:1<=n)(T0:Tb ps ks):FrB ps h b n↔∀k:Nat,(k:Int)<n->(h,b+k)∉ks:=by
 constructor
 ·intro F k hk hm
  obtain⟨p,hp,e1,e2,e3⟩:=(T0 h (b+k)).mp hm
  have:=F p hp e1
  have w:mt p.2 b (b+n)=true:=wb.mpr (by omega)
  rw[this] at w;cases w
 ·intro F p hp e
  refine ue λw=>?_
  obtain⟨k,hk⟩:∃k:Nat,(b+k:Int)=if p.2.f<b then b else p.2.f:=⟨((if p.2.f<b then b else p.2.f)-b).toNat,by split<;>omega⟩
  have h1:(k:Int)<n:=by split at hk<;>omega
  refine F k h1 ((T0 h (b+k)).mpr ⟨p,hp,e,?_⟩)
  split at hk<;>omega
theorem jN(hn:1<=n)(hn2:n<=1000)(T0:Tb ps ks)(ht:μ[ti]?=some (.dct ks))(q:∀r:Bool,(r=true↔FrB ps h b n)->K (.bl r) μ):qP [.mut ti,.int h,.int b,.int n] μ K Z:=by
 unfold qP
 refine⟨rfl,?_⟩
 refine⟨⟨by omega,by omega⟩,?_⟩
 refine⟨?_,?_⟩
 ·unfold rangeT;rw[List.length_map,List.length_range];unfold room;omega
 ·unfold rangeT
  refine vU (λ(k:Nat)=>T.int (k:Int)) (λk=>some (T.bl (decide ((h,b+(k:Int))∈ks)))) (λk hk kk hkk=>?_) ?_ trivial
  ·refine⟨_,rfl,?_⟩
   refine⟨_,rfl,?_⟩
   refine⟨_,ht,?_⟩
   exact hkk
  ·rw[List.filterMap_eq_map']
   have hb:∀l:List Nat,bools (l.map λ(k:Nat)=>T.bl (decide ((h,b+(k:Int))∈ks)))=some (l.map λ(k:Nat)=>decide ((h,b+(k:Int))∈ks)):=by
    intro l
    induction l with
    |nil=>rfl
    |cons a r ih=>simp only[List.map_cons,bools,ih];rfl
   refine⟨_,hb _,?_⟩
   refine q _ ?_
   rw[Qe hn T0]
   simp only[Bool.not_eq_true',List.any_eq_false,List.mem_map,List.mem_range,id_eq,forall_exists_index,and_imp]
   constructor
   ·intro F k hk hm
    exact F _ k (by omega) rfl (by simpa using hm)
   ·intro F b' k hk e
    subst e
    simpa using F k (by omega)
end
section
variable {μ μ1 μ2:Mem}{K:T->Mem->Prop}{Z:Xp}{c g i0 ti li:Nat}{x y z:Int}{ps ps':List Gp}{ks:List (Int×Int)}{h m n b f u e cell:Int}{E:En}
noncomputable abbrev L3:=Int×Int×Int
noncomputable abbrev qG(a:L3):T:=.tup [.int a.1,.int a.2.1,.int a.2.2]
structure W21(μ:Mem)(c g i0 ti li:Nat)(x y z:Int)(ps:List Gp)(ks:List (Int×Int))(ls:List L3)(j:Nat):Prop where
 tab:μ[i0]?=some (.tab 0)
 bk:Bk μ c g (shp x y z) ps
 gd:Gd x y ps
 ht:μ[ti]?=some (.dct ks)
 hl:μ[li]?=some (.lst (ls.map qG))
 lg:li≠g
 tb:Tb ps ks
 op:∀a∈ls,∃p∈ps,p.2.ct=false/\p.2.h=a.1/\p.2.f=a.2.1/\p.2.u0=a.2.2
 nd:ls.Nodup
 pl:ps.length<=j
 ll:ls.length<=ps.length
 kl:ks.length<=1000 * j
noncomputable def vm(ks:List (Int×Int))(h e:Int)(i:Nat):List (Int×Int):=ks.filter λq=>decide (¬(q.1=h/\e<=q.2/\q.2<e+i))
theorem Uy:vm ks h e 0=ks:=by
 unfold vm
 rw[List.filter_eq_self]
 intro q _
 simp
theorem Ye{i:Nat}:(vm ks h e i).filter (λq=>decide (q≠(h,e+i)))=vm ks h e (i+1):=by
 unfold vm
 rw[List.filter_filter]
 apply List.filter_congr
 rintro⟨a,b⟩ _
 rw[Bool.eq_iff_iff]
 simp only[Bool.and_eq_true,decide_eq_true_eq,ne_eq,Prod.mk.injEq]
 push_cast
 constructor
 ·rintro⟨h1,h2⟩ ⟨e1,e2,e3⟩
  by_cases w:b=e+i
  ·exact h1 ⟨e1,w⟩
  ·exact h2 ⟨e1,e2,by omega⟩
 ·intro h1
  exact⟨λ⟨e1,e2⟩=>h1 ⟨e1,by omega,by omega⟩,λ⟨e1,e2,e3⟩=>h1 ⟨e1,e2,by omega⟩⟩
theorem Va{i:Nat}:(vm ks h e i).length<=ks.length:=List.length_filter_le _ _
theorem Zx{a b:Int}{i:Nat}{t:T}(hx:(zU a b 1)[i]?=some t):t=.int (a+i)/\a+i<b:=by
 unfold zU at hx
 rw[List.getElem?_map] at hx
 cases q:(List.range (if a<b then (b-a-1) / 1+1 else 0:Int).toNat)[i]? with
 |none=>rw[q] at hx;cases hx
 |some k=>
  rw[q] at hx
  obtain⟨h1,h2⟩:=List.getElem?_eq_some_iff.mp q
  rw[List.length_range] at h1
  have h2:i=k:=by simpa using h2
  subst h2
  have hx:T.int (a+(i:Int) * 1)=t:=by simpa using hx
  refine⟨by rw[←hx];congr 1;omega,?_⟩
  split at h1<;>omega
theorem kH{a b:Int}(h:a<=b):((zU a b 1).length:Int)=b-a:=by
 unfold zU
 rw[List.length_map,List.length_range]
 split<;>omega
theorem z0o{lv:Mem->Prop}{o7 o10:Option T}(hlv:∀μ,lv μ)(eu:e<=u)(ht:μ[ti]?=some (.dct ks))(hin:∀m,e<=m->m<u->(h,m)∈ks)
  (q:∀μ' o10,Ch [ti] μ μ'->μ'.length=μ.length->μ'[ti]?=some (.dct (vm ks h e (u-e).toNat))->E.nx [some (.mut c),some (.mut ti),some (.mut li),some (.int cell),some (.int h),some (.int f),some (.int u),o7,some (.int e),o10] μ') :
  forM (.one 9) (zT [(qd (Q0 (eV 1) (wq [(eV 4),(eV 9)])))]) lv (zU e u 1) [some (.mut c),some (.mut ti),some (.mut li),some (.int cell),some (.int h),some (.int f),some (.int u),o7,some (.int e),o10] μ E:=by
 have hlen:=kH eu
 refine qq (λi τ μ'=>i<=(zU e u 1).length/\Ch [ti] μ μ'/\μ'.length=μ.length/\μ'[ti]?=some (.dct (vm ks h e i))/\∃o10,τ=[some (.mut c),some (.mut ti),some (.mut li),some (.int cell),some (.int h),some (.int f),some (.int u),o7,some (.int e),o10]) ⟨Nat.zero_le _,Ch.refl,rfl,by rw[Uy];exact ht,_,rfl⟩ ?_ ?_ (λ_ _ _ _=>hlv _)
 ·rintro i t τ μ' hx ⟨hi,ch,ln,ht',p10,rfl⟩ N hN
  obtain⟨rfl,hlt⟩:=Zx hx
  have hil:=(List.getElem?_eq_some_iff.mp hx).1
  refine⟨_,rfl,?_⟩
  have mem:(h,e+(i:Int))∈vm ks h e i:=by
   unfold vm
   rw[List.mem_filter]
   refine⟨hin _ (by omega) hlt,?_⟩
   simp
  refine⟨⟨_,ht'⟩,(h,e+(i:Int)),_,rfl,ht',mem,?_⟩
  rw[Ye]
  exact hN _ _ ⟨hil,ch.trans Ch.set,by simp[ln],get_set ht',_,rfl⟩
 ·rintro τ μ' ⟨hi,ch,ln,ht',p10,rfl⟩
  have:(zU e u 1).length=(u-e).toNat:=by omega
  rw[this] at ht'
  exact q μ' p10 ch ln ht'
theorem Tb.cut{i:Nat}{p:Gp}(G:Gd x y ps)(T0:Tb ps ks)(hi:ps[i]?=some p)(ct:p.2.ct=false)(h1:p.2.f<=e)(h2:e<=p.2.u0):Tb (ps.set i (p.1,{p.2 with u:=e,ct:=true})) (vm ks p.2.h e (p.2.u0-e).toNat):=by
 have hil:=(List.getElem?_eq_some_iff.mp hi).1
 have ok:=G.ok p (List.mem_of_getElem? hi)
 have eu:=ok.op ct
 have fu:=ok.fu0
 intro h m
 unfold vm
 rw[List.mem_filter,T0 h m]
 simp only[decide_eq_true_eq]
 constructor
 ·rintro⟨⟨p',hp',e1,e2,e3⟩,no⟩
  obtain⟨j,hj⟩:=List.mem_iff_getElem?.mp hp'
  by_cases w:j=i
  ·subst w
   rw[hi] at hj
   cases hj
   refine⟨_,List.mem_of_getElem? (List.getElem?_set_self hil),e1,e2,?_⟩
   show m<e
   apply Classical.byContradiction
   intro no2
   exact no ⟨e1.symm,by omega,by omega⟩
  ·refine⟨p',?_,e1,e2,e3⟩
   exact List.mem_of_getElem? ((List.getElem?_set_ne (λz=>w z.symm)).trans hj)
 ·rintro⟨p',hp',e1,e2,e3⟩
  obtain⟨j,hj⟩:=List.mem_iff_getElem?.mp hp'
  by_cases w:j=i
  ·subst w
   rw[List.getElem?_set_self hil] at hj
   cases hj
   have e3:m<e:=e3
   have e2:p.2.f<=m:=e2
   exact⟨⟨p,List.mem_of_getElem? hi,e1,e2,by omega⟩,λz=>by omega⟩
  ·rw[List.getElem?_set_ne (λz=>w z.symm)] at hj
   refine⟨⟨p',List.mem_of_getElem? hj,e1,e2,e3⟩,λ⟨z1,z2,z3⟩=>w ?_⟩
   refine G.one hj hi (e1.trans z1) ⟨by omega,by omega,?_,?_⟩<;>omega
theorem mem_erase{α:Type}{l:List α}{i:Nat}{a b:α}(nd:l.Nodup)(hi:l[i]?=some a)(hb:b∈l.eraseIdx i):b∈l/\b≠a:=by
 refine⟨List.mem_of_mem_eraseIdx hb,λe=>?_⟩
 subst e
 obtain⟨j,hj⟩:=List.mem_iff_getElem?.mp hb
 rw[List.getElem?_eraseIdx] at hj
 have hil:=(List.getElem?_eq_some_iff.mp hi).1
 split at hj
 ·rename_i w
  have:=(List.getElem?_inj (List.getElem?_eq_some_iff.mp hj).1 nd).mp (hj.trans hi.symm)
  omega
 ·rename_i w
  have:=(List.getElem?_inj (List.getElem?_eq_some_iff.mp hj).1 nd).mp (hj.trans hi.symm)
  omega
end
section
variable {μ μ1 μ2:Mem}{K:T->Mem->Prop}{Z:Xp}{c g i0 ti li j:Nat}{x y z:Int}{ps ps':List Gp}{ks:List (Int×Int)}{ls:List L3}{h m n b f u e cell:Int}{E:En}
theorem W21.ne(W:W21 μ c g i0 ti li x y z ps ks ls j):ti≠li/\ti≠g/\ti≠c/\li≠c/\i0≠ti/\i0≠li/\i0≠g/\i0≠c/\(∀p∈ps,p.1≠ti/\p.1≠li/\p.1≠i0):=by
 have B:=W.bk
 refine⟨λw=>?_,λw=>?_,λw=>?_,λw=>?_,λw=>?_,λw=>?_,λw=>?_,λw=>?_,λp hp=>⟨λw=>?_,λw=>?_,λw=>?_⟩⟩
 ·have:=W.ht;rw[w,W.hl] at this;cases this
 ·have:=W.ht;rw[w,B.lst] at this;cases this
 ·have:=W.ht;rw[w,B.com] at this;cases this
 ·have:=W.hl;rw[w,B.com] at this;cases this
 ·have:=W.tab;rw[w,W.ht] at this;cases this
 ·have:=W.tab;rw[w,W.hl] at this;cases this
 ·have:=W.tab;rw[w,B.lst] at this;cases this
 ·have:=W.tab;rw[w,B.com] at this;cases this
 ·have:=B.at_ p hp;rw[w,W.ht] at this;cases this
 ·have:=B.at_ p hp;rw[w,W.hl] at this;cases this
 ·have:=B.at_ p hp;rw[w,W.tab] at this;cases this
theorem W21.cut{k:Nat}{a:L3}{p:Gp}(W:W21 μ c g i0 ti li x y z ps ks ls j)(hk:ls[k]?=some a)(hp:p∈ps)(ct:p.2.ct=false)(e1:p.2.h=a.1)(e2:p.2.f=a.2.1)(e3:p.2.u0=a.2.2)(he1:a.2.1<=e)(he2:e<=a.2.2)
  (tab:μ2[i0]?=some (.tab 0)) (B2:Bk μ2 c g (shp x y z) (setG p.1 e ps)) (hl:μ2[li]?=some (.lst ((ls.map qG).eraseIdx k))) (ht:μ2[ti]?=some (.dct (vm ks a.1 e (a.2.2-e).toNat))) :
  ∃ps',W21 μ2 c g i0 ti li x y z ps' (vm ks a.1 e (a.2.2-e).toNat) (ls.eraseIdx k) j:=by
 obtain⟨i,hi⟩:=List.mem_iff_getElem?.mp hp
 have ok:=W.gd.ok p hp
 have eu:=ok.op ct
 rw[uV W.bk.nd hi] at B2
 have kl:=W.kl
 have gl:=Va (ks:=ks) (h:=a.1) (e:=e) (i:=(a.2.2-e).toNat)
 refine⟨ps.set i (p.1,{p.2 with u:=e,ct:=true}),tab,B2,W.gd.cut hi (by omega) (by omega),ht,by rw[hl,yn],W.lg,?_,λb hb=>?_,?_,by rw[List.length_set];exact W.pl,?_,by omega⟩
 ·have:=W.tb.cut W.gd hi ct (by omega) (show e<=p.2.u0 by omega)
  rw[e1,e3] at this
  exact this
 ·obtain⟨m1,m2⟩:=mem_erase W.nd hk hb
  obtain⟨p',hp',c',f1,f2,f3⟩:=W.op b m1
  obtain⟨i',hi'⟩:=List.mem_iff_getElem?.mp hp'
  refine⟨p',?_,c',f1,f2,f3⟩
  have ne:i'≠i:=λw=>by
   subst w
   rw[hi] at hi'
   cases hi'
   exact m2 (Prod.ext (f1.symm.trans e1) (Prod.ext (f2.symm.trans e2) (f3.symm.trans e3)))
  exact List.mem_of_getElem? ((List.getElem?_set_ne (Ne.symm ne)).trans hi')
 ·exact W.nd.sublist (List.eraseIdx_sublist ..)
 ·rw[List.length_set]
  exact Nat.le_trans (List.length_eraseIdx_le ..) W.ll
end
section
variable {μ μ1 μ2:Mem}{K:T->Mem->Prop}{Z:Xp}{c g r i0:Nat}{x y z:Int}{ps:List Gp}
theorem jS{sh:T}(q:K .non (μ++[.obj 43 [(9,sh),(10,.mut (μ.length+1))],.lst []])):qz [.mut μ.length,sh] (μ++[.obj 43 []]) K Z:=by
 have es:∀(μ:Mem) (a b:MO),(μ++[a]).set μ.length b=μ++[b]:=λμ a b=>by rw[List.set_append_right _ _ (Nat.le_refl _)];simp
 unfold qz
 refine⟨rfl,?_⟩
 refine⟨_,_,zH,by show (0:Nat)<900;decide,?_⟩
 rw[es]
 refine⟨_,_,zK zH,by show (1:Nat)<900;decide,?_⟩
 have e2:∀(o a b:MO),((μ++[o])++[a]).set μ.length b=μ++[b,a]:=λo a b=>by
  rw[List.append_assoc,List.set_append_right _ _ (Nat.le_refl _)];simp
 rw[e2]
 have e3:(μ++[MO.obj 43 [(9,sh)]]).length=μ.length+1:=by simp
 show K .non (μ++[MO.obj 43 (W5 10 (T.mut (μ++[MO.obj 43 [(9,sh)]]).length) [(9,sh)]),.lst []])
 rw[e3]
 exact q
end
section
variable {μ μ1 μ2:Mem}{K:T->Mem->Prop}{Z:Xp}{c g i0 ti li j:Nat}{x y z:Int}{ps ps':List Gp}{ks:List (Int×Int)}{ls:List L3}{h m n b f u e cell far many first:Int}{E:En}{scr:T}{o9 o10 o11 o12 o13:Option T}
theorem ZJ{b:Bool}{A B:Prop}(h1:b=true->B)(h2:b=false->A):brW (!b) A B:=by
 cases b
 ·exact h2 rfl
 ·exact h1 rfl
theorem z1d:∀ls:List L3,zV (ls.map qG)<=40
 |[]=>by simp[zV]
 |a::r=>by
  have:=z1d r
  show max (wx (qG a)) (zV (r.map qG))<=40
  have:wx (qG a)<=3:=by simp[wx,zV]
  omega
theorem Tb.add{q:Gp}(T0:Tb ps ks)(eu:q.2.f<=q.2.u):Tb (ps++[q]) (ks++prs q.2.h q.2.f (q.2.u-q.2.f).toNat):=by
 intro h m
 rw[List.mem_append,T0 h m]
 constructor
 ·rintro (⟨p,hp,e⟩|hm)
  ·exact⟨p,List.mem_append_left _ hp,e⟩
  ·unfold prs at hm
   obtain⟨k,hk,e⟩:=List.mem_map.mp hm
   have hk:=List.mem_range.mp hk
   obtain⟨e1,e2⟩:=Prod.mk.inj e
   exact⟨q,by simp,e1,by omega,by omega⟩
 ·rintro⟨p,hp,e1,e2,e3⟩
  rcases List.mem_append.mp hp with hp|hp
  ·exact .inl ⟨p,hp,e1,e2,e3⟩
  ·rw[List.mem_singleton.mp hp] at e1 e2 e3
   refine .inr ?_
   unfold prs
   refine List.mem_map.mpr ⟨(m-q.2.f).toNat,List.mem_range.mpr (by omega),?_⟩
   rw[e1];congr 1;omega
theorem W21.add{a:Nat}{ho:Str}(W:W21 μ c g i0 ti li x y z ps ks ls j)(hn:1<=n)(hn2:n<=1000)(h0:0<=h)(h1:h<y)(b0:0<=b)(bx:b+n<=x)(fr:FrB ps h b n)
  (tab:μ2[i0]?=some (.tab 0)) (B2:Bk μ2 c g (shp x y z) (ps++[(a,⟨ho,h,b,b+n,b+n,false⟩)])) (hl:μ2[li]?=some (.lst (ls.map qG++[qG (h,b,b+n)]))) (ht:μ2[ti]?=some (.dct (ks++prs h b n.toNat))) :
  W21 μ2 c g i0 ti li x y z (ps++[(a,⟨ho,h,b,b+n,b+n,false⟩)]) (ks++prs h b n.toNat) (ls++[(h,b,b+n)]) (j+1):=by
 have pl:=W.pl
 have ll:=W.ll
 have kl:=W.kl
 have tb:=W.tb.add (q:=(a,⟨ho,h,b,b+n,b+n,false⟩)) (by show b<=b+n;omega)
 have e:(b+n-b).toNat=n.toNat:=by omega
 refine⟨tab,B2,W.gd.add ⟨h0,h1,b0,by show b<b+n;omega,bx,by show b<=b+n;omega,Int.le_refl _,λ_=>rfl⟩ λp hp ep=>fr p hp ep,ht,by rw[List.map_append];exact hl,W.lg,?_,λl hm=>?_,?_,by simp;omega,by simp;omega,?_⟩
 ·have tb:Tb (ps++[(a,⟨ho,h,b,b+n,b+n,false⟩)]) (ks++prs h b (b+n-b).toNat):=tb
  rw[e] at tb;exact tb
 ·rcases List.mem_append.mp hm with hm|hm
  ·obtain⟨p,hp,r⟩:=W.op l hm
   exact⟨p,List.mem_append_left _ hp,r⟩
  ·rw[List.mem_singleton.mp hm]
   exact⟨_,List.mem_append_right _ (List.mem_singleton.mpr rfl),rfl,rfl,rfl,rfl⟩
 ·rw[List.nodup_append]
  refine⟨W.nd,by simp,λl hm l' hm' e=>?_⟩
  rw[List.mem_singleton.mp hm'] at e
  obtain⟨p,hp,r0,r1,r2,r3⟩:=W.op l hm
  have ok:=W.gd.ok p hp
  have u0:=ok.op r0
  have w:=fr p hp (by rw[r1,e])
  have w2:mt p.2 b (b+n)=true:=wb.mpr (by rw[e] at r2 r3;simp only at r2 r3;omega)
  rw[w] at w2;cases w2
 ·rw[List.length_append,vi];omega
theorem W21.next(W:W21 μ c g i0 ti li x y z ps ks ls j):W21 μ c g i0 ti li x y z ps ks ls (j+1):=
 ⟨W.tab,W.bk,W.gd,W.ht,W.hl,W.lg,W.tb,W.op,W.nd,by have:=W.pl;omega,W.ll,by have:=W.kl;omega⟩
theorem W21.up(W:W21 μ c g i0 ti li x y z ps ks ls j)(ch:Ch [] μ μ2):W21 μ2 c g i0 ti li x y z ps ks ls j:=
 ⟨ch.get W.tab (by simp),W.bk.ch ch (by simp) (by simp) (by simp),W.gd,ch.get W.ht (by simp),ch.get W.hl (by simp),W.lg,W.tb,W.op,W.nd,W.pl,W.ll,W.kl⟩
theorem Kn{cell:Int}(q:∀far:Int,0<=far->far<100000000000000000000000000000000000000->K (.int far) μ):zP [.int cell] μ K Z:=by
 unfold zP
 refine⟨rfl,?_⟩
 refine yX (by decide) (by decide) ?_
 refine⟨⟨by decide,by decide,by decide⟩,?_⟩
 refine yX (by decide) (by decide) ?_
 refine zq (by decide) ?_
 refine⟨by decide,?_⟩
 have d0:=Int.emod_nonneg (za cell 39) (show (3:Int)≠0 by decide)
 have d1:=Int.emod_lt_of_pos (za cell 39) (show (0:Int)<3 by decide)
 have f1:0<=Zr cell 40 1000/\Zr cell 40 1000<1000:=⟨Int.emod_nonneg _ (by decide),Int.emod_lt_of_pos _ (by decide)⟩
 have f2:0<=Zr cell 50 ((10:Int) ^ (38:Int).toNat)/\Zr cell 50 ((10:Int) ^ (38:Int).toNat)<(10:Int) ^ (38:Int).toNat:=⟨Int.emod_nonneg _ (by decide),Int.emod_lt_of_pos _ (by decide)⟩
 have ix:∃w:Int,j7 [T.int 0,.int (Zr cell 40 1000),.int (Zr cell 50 ((10:Int) ^ (38:Int).toNat))] (za cell 39 % 3)=some (.int w)/\0<=w/\w<100000000000000000000000000000000000000:=by
  have:za cell 39 % 3=0\/za cell 39 % 3=1\/za cell 39 % 3=2:=by omega
  rcases this with w|w|w<;>rw[w]
  ·exact⟨0,rfl,by decide,by decide⟩
  ·exact⟨_,rfl,f1.1,Int.lt_trans f1.2 (by decide)⟩
  ·exact⟨_,rfl,f2.1,f2.2⟩
 obtain⟨w,hw,w0,w1⟩:=ix
 exact⟨_,hw,q w w0 w1⟩
end
end NH.P
section
namespace NH.P
open PySem L2 NH
variable {μ μ1 μ2:Mem}{K:T->Mem->Prop}{Z:Xp}{c g i0 ti li j:Nat}{x y z:Int}{ps ps':List Gp}{ks:List (Int×Int)}{ls:List L3}{h m n b f u e cell far many first:Int}{E:En}{scr hs:T}{o8 o9 o10 o11 o12 o13:Option T}
theorem Y5(nf:¬FrB ps h b n):∃p∈ps,p.2.h=h/\mt p.2 b (b+n)=true:=by
 apply Classical.byContradiction
 intro no
 refine nf λp hp ep=>?_
 cases hq:mt p.2 b (b+n) with
 |false=>rfl
 |true=>exact (no ⟨p,hp,ep,hq⟩).elim
theorem z0z{m:Int}:(if (0:Int)<m then m else 0)=if m<0 then 0 else m:=by
 by_cases w:m<0
 ·rw[if_pos w,if_neg (by omega)]
 ·rw[if_neg w];split<;>omega
theorem Zg(y1:1<=y)(y9:y<=1000)(hn:1<=n)(hn2:n<=1000)(T0:Tb ps ks)(ht:μ[ti]?=some (.dct ks))
  (q1:(x<(if m<0 then 0 else m)+n\/∀h,0<=h->h<y->¬FrB ps h (if m<0 then 0 else m) n)->K .non μ)
  (q2:∀h,h<y->WC ps (if m<0 then 0 else m) n h->(if m<0 then 0 else m)+n<=x->K (.tup [.int h,.int (if m<0 then 0 else m),.int ((if m<0 then 0 else m)+n)]) μ):wB [.mut ti,shp x y z,.int m,.int n] μ K Z:=by
 unfold wB
 refine⟨rfl,?_⟩
 have fin:∀M:Int,M=(if m<0 then 0 else m)->zT (wy.drop 1) [some (.mut ti),some (shp x y z),some (.int m),some (.int n),some (.int M),none] μ (En.fn K Z):=by
  intro M hM
  rw[←hM] at q1 q2
  refine qj (λe=>?_) (λe=>?_)
  ·exact q1 (.inl e)
  ·have e:¬x<M+n:=e
   refine⟨⟨by omega,by omega⟩,?_⟩
   refine qq (λi τ μ'=>μ'=μ/\(∀h',0<=h'->h'<(i:Int)->¬FrB ps h' M n)/\∃o5,τ=[some (.mut ti),some (shp x y z),some (.int m),some (.int n),some (.int M),o5]) ⟨rfl,λh' a b=>by omega,_,rfl⟩ ?_ ?_
   ·rintro i t τ μ' hx ⟨rfl,hmin,o5,rfl⟩ N hN
    obtain⟨rfl,hlt⟩:=kN hx
    refine⟨_,rfl,?_⟩
    refine jN hn hn2 T0 ht λr hr=>?_
    refine qk (λe1=>?_) (λe1=>?_)
    ·refine q2 i hlt ⟨by omega,hr.mp e1,λh' a b=>Y5 (hmin h' a b)⟩ (by omega)
    ·refine hN _ _ ⟨rfl,λh' a b=>?_,_,rfl⟩
     by_cases eb:h'=(i:Int)
     ·subst eb
      intro F
      rw[hr.mpr F] at e1;cases e1
     ·exact hmin h' a (by push_cast at b;omega)
   ·rintro τ μ' ⟨rfl,hmin,o5,rfl⟩
    refine q1 (.inr λh' a b=>hmin h' a ?_)
    unfold rangeT
    rw[List.length_map,List.length_range];omega
 exact fin _ z0z
theorem W_(y1:1<=y)(y9:y<=1000)(hh:jy y hs)(hn:1<=n)(hn2:n<=1000)(T0:Tb ps ks)(ht:μ[ti]?=some (.dct ks))
  (q1:(∀h b,Lease ps hs (if m<0 then 0 else m) n h b->0<=h->h<y->b+n<=x->False)->K .non μ)
  (q2:∀h b,Lease ps hs (if m<0 then 0 else m) n h b->h<y->b+n<=x->K (.tup [.int h,.int b,.int (b+n)]) μ):qI [.mut ti,shp x y z,hs,.int m,.int n] μ K Z:=by
 unfold qI
 refine⟨rfl,?_⟩
 rcases hh with rfl|⟨h,rfl,h0,h1⟩
 ·refine Zg y1 y9 hn hn2 T0 ht (λno=>q1 λh b hL a0 a1 a2=>?_) λh a1 fh a2=>q2 h _ (.inl ⟨rfl,rfl,fh⟩) a1 a2
  rcases hL with⟨_,rfl,_,f1,_⟩|⟨z,_⟩
  ·rcases no with no|no
   ·omega
   ·exact no h a0 a1 f1
  ·cases z
 ·have fin:∀M:Int,M=(if m<0 then 0 else m)->zT (v7.drop 2) [some (.mut ti),some (shp x y z),some (.int h),some (.int m),some (.int n),some (.int M)] μ (En.fn K Z):=by
   intro M hM
   rw[←hM] at q1 q2
   refine xV (λnn τ μ'=>μ'=μ/\∃b:Int,nn=(x+1-b).toNat/\M<=b/\(∀b',M<=b'->b'<b->¬FrB ps h b' n)/\τ=[some (.mut ti),some (shp x y z),some (.int h),some (.int m),some (.int n),some (.int b)]) _ ⟨rfl,M,rfl,Int.le_refl _,λb' h1 h2=>by omega,rfl⟩ ?_
   rintro nn τ μ' ⟨rfl,b,rfl,hb,hmin,rfl⟩ N hN
   refine qj (λe=>?_) (λe=>?_)
   ·refine jN hn hn2 T0 ht λr hr=>?_
    refine qk (λe1=>?_) (λe1=>?_)
    ·exact q2 h b (.inr ⟨rfl,hb,hr.mp e1,λb' a1 a2=>Y5 (hmin b' a1 a2)⟩) h1 e
    ·refine hN _ _ _ ?_ ⟨rfl,b+1,rfl,by omega,λb' a1 a2=>?_,rfl⟩
     ·have e:b+n<=x:=e
      omega
     ·by_cases eb:b'=b
      ·subst eb
       intro F
       rw[hr.mpr F] at e1;cases e1
      ·exact hmin b' a1 (by omega)
   ·refine q1 λh' b' hL a0 a1 a2=>?_
    have e:¬b+n<=x:=e
    rcases hL with⟨z,_⟩|⟨z,f0,f1,_⟩
    ·cases z
    ·cases z
     exact hmin b' f0 (by omega) f1
  exact fin _ z0z
theorem k_{a:L3}{k:Nat}{ut:T}(hx:x<=1000000000000000000000000000000000000000)(W:W21 μ c g i0 ti li x y z ps ks ls j)(hj:j<=60)(hk:ls[k]?=some a)(hu:z1a a.2.1 a.2.2 ut e)
  (q:∀μ' ps' ks',W21 μ' c g i0 ti li x y z ps' ks' (ls.eraseIdx k) j->K .non μ') :
  zT (vP.drop 4) [some (.mut c),some (.mut ti),some (.mut li),some (.int cell),some (.int a.1),some (.int a.2.1),some (.int a.2.2),some ut,some (.int e),o9] (μ.set li (.lst ((ls.map qG).eraseIdx k))) (En.fn K Z):=by
 obtain⟨n1,n2,n3,n4,n5,n6,n7,n8,n9⟩:=W.ne
 obtain⟨p0,hp0,c0,f1,f2,f3⟩:=W.op a (List.mem_of_getElem? hk)
 have ok:=W.gd.ok p0 hp0
 have w1:=ok.h0;have w2:=ok.h1;have w3:=ok.f0;have w4:=ok.fu0;have w5:=ok.ux
 rw[f1] at w1 w2;rw[f2] at w3 w4;rw[f3] at w4 w5
 have B1:=W.bk.ch (Ch.set (i:=li) (x:=.lst ((ls.map qG).eraseIdx k))) (by simp[Ne.symm n4]) (by simp[Ne.symm W.lg]) (λp hp=>by simp[(n9 p hp).2.1])
 have he:a.2.1<=e/\e<=a.2.2:=by
  rcases hu with⟨_,rfl⟩|⟨s,_,h1,h2,rfl⟩<;>omega
 refine⟨_,B1.com,?_⟩
 refine z0h B1 w1 w2 w3 w4 w5 hu ⟨p0,hp0,f1,f2,f3,c0⟩ λp hp e1 e2 e3 ct μ2 ch ln B2=>?_
 obtain⟨m1,m2,m3⟩:=n9 p hp
 have ht2:=ch.get (show (μ.set li (.lst ((ls.map qG).eraseIdx k)))[ti]?=some (.dct ks) by rw[List.getElem?_set_ne (Ne.symm n1)];exact W.ht) (by simp[Ne.symm m1])
 have hl2:=ch.get (get_set (y:=.lst ((ls.map qG).eraseIdx k)) W.hl) (by simp[Ne.symm m2])
 have tb2:=ch.get (show (μ.set li (.lst ((ls.map qG).eraseIdx k)))[i0]?=some (.tab 0) by rw[List.getElem?_set_ne (Ne.symm n6)];exact W.tab) (by simp[Ne.symm m3])
 have eu:=(W.gd.ok p hp).op ct
 refine⟨⟨⟨by omega,by omega⟩,⟨by omega,by omega⟩⟩,?_⟩
 refine z0o (λ_=>trivial) he.2 ht2 (λm h1 h2=>(W.tb a.1 m).mpr ⟨p,hp,e1,by omega,by omega⟩) λμ3 o10 ch3 ln3 ht3=>?_
 have B3:=B2.ch ch3 (by simp[Ne.symm n3]) (by simp[Ne.symm n2]) (λp' hp'=>by
  obtain⟨p'',hp'',rfl⟩:=List.mem_map.mp hp'
  have:=(n9 p'' hp'').1
  split<;>simpa using this)
 obtain⟨ps',W'⟩:=W.cut hk hp ct e1 e2 e3 he.1 he.2 (ch3.get tb2 (by simp[n5])) B3 (ch3.get hl2 (by simp[Ne.symm n1])) ht3
 exact q μ3 ps' _ W'
theorem Vh(hx:x<=1000000000000000000000000000000000000000)(W:W21 μ c g i0 ti li x y z ps ks ls j)(hne:ls≠[])(hj:j<=60)
  (q:∀μ' ps' ks' ls',W21 μ' c g i0 ti li x y z ps' ks' ls' j->K .non μ'):vx [.mut c,.mut ti,.mut li,.int cell] μ K Z:=by
 have lp:0<ls.length:=List.length_pos_iff.mpr hne
 have pl:=W.pl
 have ll:=W.ll
 unfold vx
 refine⟨rfl,?_⟩
 refine⟨⟨_,W.hl⟩,?_⟩
 refine zq (by decide) ?_
 refine⟨_,W.hl,?_⟩
 rw[List.length_map]
 refine⟨by omega,?_⟩
 have d0:=Int.emod_nonneg (za cell 5) (show ((ls.length:Nat):Int)≠0 by omega)
 have d1:=Int.emod_lt_of_pos (za cell 5) (show (0:Int)<((ls.length:Nat):Int) by omega)
 obtain⟨k,hkk⟩:∃k:Nat,za cell 5 % ((ls.length:Nat):Int)=k:=⟨(za cell 5 % ((ls.length:Nat):Int)).toNat,by omega⟩
 have hk1:k<ls.length:=by omega
 obtain⟨a,hk⟩:∃a,ls[k]?=some a:=⟨ls[k],List.getElem?_eq_getElem hk1⟩
 refine⟨k,_,qG a,by rw[hkk],by omega,W.hl,by rw[List.getElem?_map,hk];rfl,?_⟩
 obtain⟨p0,hp0,c0,f1,f2,f3⟩:=W.op a (List.mem_of_getElem? hk)
 have ok:=W.gd.ok p0 hp0
 have w4:=ok.fu0
 rw[f2,f3] at w4
 refine⟨_,rfl,?_⟩
 refine zq (by decide) ?_
 refine⟨by omega,?_⟩
 have g0:=Int.emod_nonneg (za cell 6) (show (a.2.2-a.2.1:Int)≠0 by omega)
 have g1:=Int.emod_lt_of_pos (za cell 6) (show (0:Int)<a.2.2-a.2.1 by omega)
 refine zq (by decide) ?_
 refine⟨by decide,?_⟩
 have v0:=Int.emod_nonneg (za cell 7) (show (4:Int)≠0 by decide)
 have v1:=Int.emod_lt_of_pos (za cell 7) (show (0:Int)<4 by decide)
 have ix:j7 [T.non,.int a.2.1,.int (a.2.2-1),.int (a.2.1+za cell 6 % (a.2.2-a.2.1))] (za cell 7 % 4)=some .non\/∃w:Int,j7 [T.non,.int a.2.1,.int (a.2.2-1),.int (a.2.1+za cell 6 % (a.2.2-a.2.1))] (za cell 7 % 4)=some (.int w)/\a.2.1<=w/\w<a.2.2:=by
  have:za cell 7 % 4=0\/za cell 7 % 4=1\/za cell 7 % 4=2\/za cell 7 % 4=3:=by omega
  rcases this with w|w|w|w<;>rw[w]
  ·exact .inl rfl
  ·exact .inr ⟨_,rfl,by omega,by omega⟩
  ·exact .inr ⟨_,rfl,by omega,by omega⟩
  ·exact .inr ⟨_,rfl,by omega,by omega⟩
 rcases ix with ix|⟨w,ix,w0,w1⟩
 ·refine⟨_,ix,?_⟩
  exact k_ hx W hj hk (.inl ⟨rfl,rfl⟩) λμ' ps' ks' W'=>q μ' ps' ks' _ W'
 ·refine⟨_,ix,?_⟩
  exact k_ hx W hj hk (.inr ⟨_,rfl,w0,w1,rfl⟩) λμ' ps' ks' W'=>q μ' ps' ks' _ W'
@[reducible] noncomputable def Uo:List Ds:=[(zo 9 (zb .Mod (z9 zm [(eV 8),(eC (.int 4))]) (eC (.int 5)))),(sIf (vo (tE (zB .Eq (eV 9) (eC (.int 0)))) (tE (zB .NotEq (eV 7) (js [])))) [(qd (z9 vx [(eV 5),(eV 6),(eV 7),(eV 8)]))] [(zo 10 (eIx (js [(eC .non),(zb .Mod (z9 zm [(eV 8),(eC (.int 0))]) (zC (eV 4) 1))]) (eB1 W3 (zB .Eq (eV 9) (eC (.int 1)))))),(zo 11 (zb .Sub (zb .Add (eV 2) (zb .Mod (z9 zm [(eV 8),(eC (.int 1))]) (zb .Add (eV 3) (eC (.int 3))))) (eC (.int 2)))),(zo 12 (zb .Add (eC (.int 1)) (zb .Mod (z9 zm [(eV 8),(eC (.int 2))]) (eIx (js [(eC (.int 2)),(eC (.int 7)),(zb .Add (eV 3) (eC (.int 2)))]) (zb .Mod (z9 zm [(eV 8),(eC (.int 3))]) (eC (.int 3))))))),(zo 13 (z9 qI [(eV 6),(eV 4),(eV 10),(eV 11),(eV 12)])),(sIf (tE (zB .NotEq (z9 xE [(eV 5),(eC (.str "b")),(eV 10),(eV 11),(eV 12)]) (eV 13))) [(zz (eC (.bl false)))] []),(sIf (tE (zB .IsNot (eV 13) (eC .non))) [(qd (QS (eV 7) (eV 13))),(qd (uq (eV 6) (eB1 Vc (qw 1 [13] (.one 0) (kW (eIx (eV 13) (eC (.int 1))) (eIx (eV 13) (eC (.int 2)))) [] (wq [(wq [(eIx (eV 1) (eC (.int 0))),(eV 0)]),(eC (.bl true))])))))] [])])]
@[reducible] noncomputable def Y7:List Ds:=[(zo 10 (eIx (js [(eC .non),(zb .Mod (z9 zm [(eV 8),(eC (.int 0))]) (zC (eV 4) 1))]) (eB1 W3 (zB .Eq (eV 9) (eC (.int 1)))))),(zo 11 (zb .Sub (zb .Add (eV 2) (zb .Mod (z9 zm [(eV 8),(eC (.int 1))]) (zb .Add (eV 3) (eC (.int 3))))) (eC (.int 2)))),(zo 12 (zb .Add (eC (.int 1)) (zb .Mod (z9 zm [(eV 8),(eC (.int 2))]) (eIx (js [(eC (.int 2)),(eC (.int 7)),(zb .Add (eV 3) (eC (.int 2)))]) (zb .Mod (z9 zm [(eV 8),(eC (.int 3))]) (eC (.int 3))))))),(zo 13 (z9 qI [(eV 6),(eV 4),(eV 10),(eV 11),(eV 12)])),(sIf (tE (zB .NotEq (z9 xE [(eV 5),(eC (.str "b")),(eV 10),(eV 11),(eV 12)]) (eV 13))) [(zz (eC (.bl false)))] []),(sIf (tE (zB .IsNot (eV 13) (eC .non))) [(qd (QS (eV 7) (eV 13))),(qd (uq (eV 6) (eB1 Vc (qw 1 [13] (.one 0) (kW (eIx (eV 13) (eC (.int 1))) (eIx (eV 13) (eC (.int 2)))) [] (wq [(wq [(eIx (eV 1) (eC (.int 0))),(eV 0)]),(eC (.bl true))])))))] [])]
noncomputable abbrev t22(scr:T)(first far many x y z:Int)(c ti li:Nat)(cell:Int)(o9 o10 o11 o12 o13:Option T):Sl:=[some scr,some (.int first),some (.int far),some (.int many),some (shp x y z),some (.mut c),some (.mut ti),some (.mut li),some (.int cell),o9,o10,o11,o12,o13]
theorem Ua(hx:x<=1000000000000000000000000000000000000000)(y1:1<=y)(y9:y<=1000)(W:W21 μ c g i0 ti li x y z ps ks ls j)(hj:j<=60)(hh:jy y hs)(n1:1<=n)(n2:n<=1000)
  (q:∀μ' ps' ks' ls' o9 o10 o11 o12 o13,W21 μ' c g i0 ti li x y z ps' ks' ls' (j+1)->E.nx (t22 scr first far many x y z c ti li cell o9 o10 o11 o12 o13) μ') (τ:Sl) (eτ:τ=t22 scr first far many x y z c ti li cell o9 (some hs) (some (.int m)) (some (.int n)) o13) :
  zT (Y7.drop 3) τ μ E:=by
 subst eτ
 have pl:=W.pl
 have ll:=W.ll
 have kl:=W.kl
 have ha:qQ "b"=true:=by decide +kernel
 refine W_ y1 y9 hh n1 n2 W.tb W.ht (λno=>?_) (λh b fb h1 bx=>?_)
 ·refine uT W.bk W.tab (by omega) (by decide) ha hh n1 (λh' b' μ' hL hno ch=>?_) (λh' b' μ' a p0 p1 p2 p3 hL la ch B'=>?_)
  ·exact q _ _ _ _ _ _ _ _ _ (W.up ch).next
  ·exact (no h' b' hL p0 p1 p3).elim
 ·refine uT W.bk W.tab (by omega) (by decide) ha hh n1 (λh' b' μ' hL hno ch=>?_) (λh' b' μ' a p0 p1 p2 p3 hL la ch B'=>?_)
  ·exfalso
   obtain⟨e1,e2⟩:=hL.one fb
   subst e1 e2
   omega
  ·obtain⟨e1,e2⟩:=hL.one fb
   subst e1 e2
   refine⟨XO,_,z11,?_⟩
   rw[decide_eq_true rfl,decide_eq_true rfl,decide_eq_true rfl]
   obtain⟨k1,k2,k3,k4,k5,k6,k7,k8,k9⟩:=W.ne
   have hl':=ch.get W.hl (by simp[W.lg])
   have ht':=ch.get W.ht (by simp[k2])
   have tb':=ch.get W.tab (by simp[k7])
   refine⟨⟨_,hl'⟩,_,hl',by rw[List.length_map];unfold room;omega,?_⟩
   have ht2:(μ'.set li (.lst (ls.map qG++[qG (h',b',b'+n)])))[ti]?=some (.dct ks):=by rw[List.getElem?_set_ne (Ne.symm k1)];exact ht'
   refine⟨⟨_,ht2⟩,?_⟩
   refine⟨_,rfl,_,rfl,?_⟩
   refine⟨⟨⟨by omega,by omega⟩,⟨by omega,by omega⟩⟩,?_⟩
   have lr:=kH (a:=b') (b:=b'+n) (by omega)
   refine⟨by unfold room;omega,?_⟩
   refine y0 (λt=>.tup [.tup [.int h',t],.bl true]) (λt ht kk hkk=>⟨_,rfl,_,rfl,hkk⟩) ?_ trivial
   have ey:(zU b' (b'+n) 1).map (λt=>T.tup [.tup [.int h',t],.bl true])=(prs h' b' n.toNat).map prT:=by
    unfold zU prs
    rw[List.map_map,List.map_map]
    have e:(if b'<b'+n then (b'+n-b'-1) / 1+1 else 0:Int).toNat=n.toNat:=by rw[if_pos (by omega)];omega
    rw[e]
    refine List.map_congr_left λk _=>?_
    show T.tup [.tup [.int h',.int (b'+(k:Int) * 1)],.bl true]=T.tup [.tup [.int h',.int (b'+(k:Int))],.bl true]
    rw[Int.mul_one]
   have hc1:(μ'.set li (.lst (ls.map qG++[qG (h',b',b'+n)]))).length=μ'.length:=by simp
   have tl:=(List.getElem?_eq_some_iff.mp ht2).1
   have fr:=hL.free
   refine⟨h',b',n.toNat,by rw[ey],p2,by omega,?_⟩
   refine⟨_,ks,h',b',n.toNat,rfl,Nat.ne_of_gt tl,zK ht2,zH,p2,by omega,by omega,λpq hpq hm=>?_,?_⟩
   ·unfold prs at hpq
    obtain⟨k,hk,e⟩:=List.mem_map.mp hpq
    have hk:=List.mem_range.mp hk
    rw[←e] at hm
    exact (Qe n1 W.tb).mp fr k (by omega) hm
   ·have ch1:Ch [li] μ' (μ'.set li (.lst (ls.map qG++[qG (h',b',b'+n)]))):=Ch.set
    have ch2:=(ch1.mono (S':=[li,ti]) (by simp)).trans ((Ch.app (x:=.dct (prs h' b' n.toNat))).mono (S':=[li,ti]) (by simp))
    have ch3:=ch2.trans ((Ch.set (i:=ti) (x:=.dct (ks++prs h' b' n.toNat))).mono (S':=[li,ti]) (by simp))
    have npa:∀p∈ps++[(a,(⟨"b",h',b',b'+n,b'+n,false⟩:Gr))],p.1∉[li,ti]:=λp hp=>by
     rcases List.mem_append.mp hp with hp|hp
     ·have:=k9 p hp
      simp[this.1,this.2.1]
     ·rw[List.mem_singleton.mp hp]
      have l1:=(List.getElem?_eq_some_iff.mp W.hl).1
      have l2:=(List.getElem?_eq_some_iff.mp W.ht).1
      simp only[List.mem_cons,List.not_mem_nil,or_false,not_or]
      exact⟨by omega,by omega⟩
    have B3:=B'.ch ch3 (by simp[Ne.symm k4,Ne.symm k3]) (by simp[Ne.symm W.lg,Ne.symm k2]) npa
    refine q _ _ _ _ _ _ _ _ _ (W.add n1 n2 p0 p1 p2 p3 fr (ch3.get tb' (by simp[k5,k6])) B3 ?_ (get_set (zK ht2)))
    rw[List.getElem?_set_ne k1]
    exact zK (get_set hl')
theorem z0m(y1:1<=y)(y9:y<=1000)(hx:x<=1000000000000000000000000000000000000000)(m1:1<=many)(m2:many<=40)(W:W21 μ c g i0 ti li x y z ps ks ls j)(hj:j<=60)
  (q:∀μ' ps' ks' ls' o9 o10 o11 o12 o13,W21 μ' c g i0 ti li x y z ps' ks' ls' (j+1)->E.nx (t22 scr first far many x y z c ti li cell o9 o10 o11 o12 o13) μ') :
  zT Uo (t22 scr first far many x y z c ti li cell o9 o10 o11 o12 o13) μ E:=by
 have pl:=W.pl
 have ll:=W.ll
 refine zq (by decide) ?_
 refine⟨by decide,?_⟩
 have els:zT Y7 (t22 scr first far many x y z c ti li cell (some (.int (za cell 4 % 5))) o10 o11 o12 o13) μ E:=by
  refine zq (by decide) ?_
  refine⟨by omega,?_⟩
  have h0:=Int.emod_nonneg (za cell 0) (show y≠0 by omega)
  have h1:=Int.emod_lt_of_pos (za cell 0) (show 0<y by omega)
  have ih:∃hs,j7 [T.non,.int (za cell 0 % y)] (if decide (za cell 4 % 5=1) then 1 else 0)=some hs/\jy y hs:=by
   split
   ·exact⟨_,rfl,.inr ⟨_,rfl,h0,h1⟩⟩
   ·exact⟨_,rfl,.inl rfl⟩
  obtain⟨hs,ehs,hh⟩:=ih
  refine⟨_,ehs,?_⟩
  refine zq (by decide) ?_
  refine⟨by omega,?_⟩
  refine zq (by decide) ?_
  refine zq (by decide) ?_
  refine⟨by decide,?_⟩
  have d0:=Int.emod_nonneg (za cell 3) (show (3:Int)≠0 by decide)
  have d1:=Int.emod_lt_of_pos (za cell 3) (show (0:Int)<3 by decide)
  have ix:∃w:Int,j7 [T.int 2,.int 7,.int (many+2)] (za cell 3 % 3)=some (.int w)/\0<w/\w<=50:=by
   have:za cell 3 % 3=0\/za cell 3 % 3=1\/za cell 3 % 3=2:=by omega
   rcases this with w|w|w<;>rw[w]
   ·exact⟨2,rfl,by decide,by decide⟩
   ·exact⟨7,rfl,by decide,by decide⟩
   ·exact⟨many+2,rfl,by omega,by omega⟩
  obtain⟨w,hw,w0,w1⟩:=ix
  refine⟨_,hw,?_⟩
  refine⟨by omega,?_⟩
  have s0:=Int.emod_nonneg (za cell 2) (show w≠0 by omega)
  have s1:=Int.emod_lt_of_pos (za cell 2) w0
  exact Ua hx y1 y9 W hj hh (by omega) (by omega) q _ rfl
 refine qj (λe=>?_) (λe=>?_)
 ·refine⟨_,W.hl,?_⟩
  refine⟨z1d ls,_,JJ,?_⟩
  refine ZJ (λe2=>?_) (λe2=>?_)
  ·exact els
  ·refine Vh hx W (λz=>by subst z;cases e2) hj λμ' ps' ks' ls' W'=>?_
   exact q _ _ _ _ _ _ _ _ _ W'.next
 ·exact els
theorem KD:Za vM:=by
 intro ns hns
 unfold vM
 refine⟨rfl,?_⟩
 refine yG (by decide) λc0=>?_
 refine Kn λfar f0 f1=>?_
 refine zq (by decide) ?_
 refine⟨by decide,?_⟩
 refine zq (by decide) ?_
 refine⟨by decide,?_⟩
 refine zq (by decide) ?_
 refine⟨by decide,?_⟩
 have d1:=Int.emod_nonneg (za c0 1) (show (30:Int)≠0 by decide)
 have d1':=Int.emod_lt_of_pos (za c0 1) (show (0:Int)<30 by decide)
 have d2:=Int.emod_nonneg (za c0 2) (show (6:Int)≠0 by decide)
 have d2':=Int.emod_lt_of_pos (za c0 2) (show (0:Int)<6 by decide)
 have d3:=Int.emod_nonneg (za c0 3) (show (9:Int)≠0 by decide)
 refine⟨rfl,?_⟩
 refine xg (by omega) (by omega) (by omega) ?_
 refine⟨rfl,_,rfl,rfl,?_⟩
 refine jS ?_
 refine⟨rfl,?_⟩
 have W0:W21 ([MO.tab 0]++[.obj 43 [(9,shp (far+(1+za c0 1 % 30)) (1+za c0 2 % 6) (1+za c0 3 % 9)),(10,.mut 2)],.lst []]++[.dct []]++[.lst []]) 1 2 0 3 4 (far+(1+za c0 1 % 30)) (1+za c0 2 % 6) (1+za c0 3 % 9) [] [] [] 0:=
  ⟨rfl,⟨rfl,rfl,by simp,by simp⟩,⟨by simp,by simp⟩,rfl,rfl,by decide,λh m=>by simp,by simp,by simp,by simp,by simp,by simp⟩
 have hcl:(xt (ns.map T.int) (some 2) (some 32)).length<=30:=by
  unfold xt Vs
  simp only[List.length_take,List.length_drop]
  simp
  omega
 refine qq (λnn τ μ'=>nn<=(xt (ns.map T.int) (some 2) (some 32)).length/\∃ps ks ls o8 o9 o10 o11 o12 o13,τ=[some (.lst (ns.map T.int)),some (.int c0),some (.int far),some (.int (1+za c0 1 % 30)),some (shp (far+(1+za c0 1 % 30)) (1+za c0 2 % 6) (1+za c0 3 % 9)),some (.mut 1),some (.mut 3),some (.mut 4),o8,o9,o10,o11,o12,o13]/\W21 μ' 1 2 0 3 4 (far+(1+za c0 1 % 30)) (1+za c0 2 % 6) (1+za c0 3 % 9) ps ks ls nn) ⟨Nat.zero_le _,[],[],[],_,_,_,_,_,_,rfl,W0⟩ ?_ ?_
 ·rintro nn t τ μ' hx ⟨hnn,ps,ks,ls,o8,o9,o10,o11,o12,o13,rfl,W⟩ N hN
  have hlt:=(List.getElem?_eq_some_iff.mp hx).1
  obtain⟨cell,rfl⟩:=JV hx
  refine⟨_,rfl,?_⟩
  exact z0m (by omega) (by omega) (by omega) (by omega) (by omega) W (by omega) λμ' ps' ks' ls' o9 o10 o11 o12 o13 W'=>hN _ _ ⟨by omega,ps',ks',ls',_,o9,o10,o11,o12,o13,rfl,W'⟩
 ·rintro τ μ' ⟨hnn,ps,ks,ls,o8,o9,o10,o11,o12,o13,rfl,W⟩
  have pl:=W.pl
  have ll:=W.ll
  refine⟨_,W.bk.com,?_⟩
  refine Wg W.bk (by omega) ?_
  refine⟨_,W.hl,?_⟩
  show T.bl (decide _)=T.bl true
  rw[decide_eq_true]
  rw[List.length_map,List.length_map]
  omega
end NH.P
namespace NH.K22
open PySem L2 NH NH.P
theorem tells:Za vM:=KD
end NH.K22
end
namespace NH.K22
open PySem PySem.Spec PyProof.Rows L2 NH NH.P PySem.W
theorem z24{P:List Value->Prop}(h:∀a0,P [a0]):∀us:List Value,us.length=1->P us:=PL.all (n:=1) h
theorem z1N{P:List Value->Prop}(h:∀a0 a1 a2,P [a0,a1,a2]):∀us:List Value,us.length=3->P us:=PL.all (n:=3) h
theorem all_mk {l:OpenLaw} {w:World} {K:Frag} {h:Heap} {mg:Str->Option Value} {fa C0 C1 C2 C3 C4 C5 C6 P0 cA0 CC3 CC12 f14 CC16 f33:Addr} {tk4 tk5 tk6 tk9 tk10:Tok} {od14 an14 od33 an33:Option Addr} {sl14 sl33:Array (Option Value)} {oc14 kV14 dc14 pm14 ct14 oc33 kV33 dc33 pm33 cd33 ct33:Value} (X:K.In h) (G:h.Ns mainGlobals mg) (hfa:mg "law"=some (.ref fa))
  (e0:nsIn K mainGlobals "HouseError"=some (some (.ref C0)))
  (e1:nsIn K mainGlobals "NoShape"=some (some (.ref C1)))
  (e2:nsIn K mainGlobals "NoName"=some (some (.ref C2)))
  (e3:nsIn K mainGlobals "NoTime"=some (some (.ref C3)))
  (e4:nsIn K mainGlobals "NoHolder"=some (some (.ref C4)))
  (e5:nsIn K mainGlobals "NoLease"=some (some (.ref C5)))
  (e6:nsIn K mainGlobals "Ended"=some (some (.ref C6)))
  (p0:qU K "is_whole" kD)
  (p1:qU K "is_size" xT)
  (p2:qU K "is_below" kq)
  (p3:Jl K CC3 "Shape" "Shape.__init__" vy)
  (v4:nsIn K mainGlobals "HOUSE"=some (some (.int 0 tk4)))
  (v5:nsIn K mainGlobals "FIRST"=some (some (.int 1 tk5)))
  (v6:nsIn K mainGlobals "UNTIL"=some (some (.int 2 tk6)))
  (p7:qU K "is_lease" kK)
  (p8:qU K "check_lease" wL)
  (v9:nsIn K mainGlobals "LETTERS"=some (some (.str "abcdefghijklmnopqrstuvwxyz" tk9)))
  (v10:nsIn K mainGlobals "LONGEST_HOLDER"=some (some (.int 8 tk10)))
  (p11:qU K "is_holder" jb)
  (p12:Jl K CC12 "Grant" "Grant.__init__" vG)
  (p13:qU K "meets" Qa)
  (a14:nsIn K mainGlobals "least_begin"=some (some (.ref f14)))
  (l14:K.lookup f14=some ⟨oc14,od14,.func (fnOf "least_begin" "least_begin" (zQ zI) (z7 zI) (zr zI) .none kV14 dc14 pm14 an14 (.ref cA0) ct14),sl14⟩)
  (c14:codeIn K (.ref cA0) "least_begin"=true)
  (zt0:codeHdIn K cA0 P0=true)
  (zk0:K.lookup P0=none)
  (zs0:P0≠cStatics)
  (k14:keepIn K (.ref f14)=true)
  (p15:qU K "least_house" wJ)
  (p16:Jl K CC16 "Common" "Common.__init__" wN)
  (p17:yF K CC16 "check_let" "Common.check_let" qi)
  (p18:yF K CC16 "grants_of" "Common.grants_of" qr)
  (p19:yF K CC16 "free_lease" "Common.free_lease" qe)
  (p20:yF K CC16 "let" "Common.let" vg)
  (p21:yF K CC16 "uncut" "Common.uncut" wt)
  (p22:yF K CC16 "cut" "Common.cut" vB)
  (p23:yF K CC16 "leases" "Common.leases" wg)
  (p24:qU K "_law_cell_at" jg)
  (p25:qU K "_law_draw" uD)
  (p26:qU K "_law_far" Q7)
  (p27:qU K "_law_far_moment" qL)
  (p28:qU K "_law_is_free" j9)
  (p29:qU K "_law_due_any" j8)
  (p30:qU K "_law_due" kX)
  (p31:qU K "_law_let" ZT)
  (p32:qU K "_law_cut" xC)
  (a33:nsIn K mainGlobals "law"=some (some (.ref f33)))
  (l33:K.lookup f33=some ⟨oc33,od33,.func (fnOf "law" "law" (zQ zM) (z7 zM) (zr zM) .none kV33 dc33 pm33 an33 cd33 ct33),sl33⟩)
  (c33:codeIn K cd33 "law"=true)
  (k33:keepIn K (.ref f33)=true)
  (x0:excIn K C0 qm "ValueError.__new__"=true)
  (x1:excIn K C1 qm "ValueError.__new__"=true)
  (x2:excIn K C2 qm "ValueError.__new__"=true)
  (x3:excIn K C3 qm "ValueError.__new__"=true)
  (x4:excIn K C4 qm "ValueError.__new__"=true)
  (x5:excIn K C5 qm "ValueError.__new__"=true)
  (x6:excIn K C6 qm "ValueError.__new__"=true)
  (zl:Zz K=true)
  (zc:chk K ⟨[(10,C0),(12,C1),(13,C2),(16,C3),(17,C4),(18,C5),(19,C6)],[(40,CC3),(42,CC12),(43,CC16)]⟩ cls fld=true)
  (zg:Vo K ⟨[(10,C0),(12,C1),(13,C2),(16,C3),(17,C4),(18,C5),(19,C6)],[(40,CC3),(42,CC12),(43,CC16)]⟩ ["ValueError","all","any","bool","dict","int","isinstance","len","max","min","range","sorted","str","tuple"] [("HouseError",10),("NoShape",12),("NoName",13),("NoTime",16),("NoHolder",17),("NoLease",18),("Ended",19)] []=true) :
  (Zz K=true/\K.lookup P0=none/\P0≠cStatics/\∃c,codeHdIn K c P0=true)/\∃fd:FuncData,(∀(s:Shared) (v:Value),BindsTo s fd ⟨[v],[]⟩ [("_law_script",v)])/\∀base:Heap,K.In base->base.Ns mainGlobals mg->base.BuiltinsAt mg P0->FnOk l.prog w K mg base (CX1 l.prog w) 32 fa fd ["_law_script"] (Z1 K P0):=by
 have e:=hfa.symm.trans (mg_of X G a33)
 cases e
 have F14:=xc (st:=zI) l14 c14 k14
 have b14:=F14.binds (ps:=["grants","moment","span"]) λ_ _ _ _ _ _=>z1N λ_ _ _=>rfl
 have F33:=xc (st:=zM) l33 c33 k33
 have b33:=F33.binds (ps:=["_law_script"]) λ_ _ _ _ _ _=>z24 λ_=>rfl
 refine⟨⟨zl,zk0,zs0,cA0,zt0⟩,⟨fnOf "law" "law" (zQ zM) (z7 zM) (zr zM) .none kV33 dc33 pm33 an33 cd33 ct33,λs v=>.of_eq rfl,λbase kb nb nbt=>?_⟩⟩
 let B:=@GsB l w K mg base
 have Z:Pk RU K mg base _ _ _:=⟨Jt,kb,nb,zc⟩
 have g0:GsOk l.prog w K mg base ⟨[(10,C0),(12,C1),(13,C2),(16,C3),(17,C4),(18,C5),(19,C6)],[(40,CC3),(42,CC12),(43,CC16)]⟩ (λ_ _ _ _=>False) 0 gs0 (λ_=>some (P0,[⟨65,36,65,64⟩],((("least_begin":Str)++".<locals>.")++"<lambda>"))):=Z8 kb nb zg ⟨⟨C0,rfl,x0⟩,⟨C1,rfl,x1⟩,⟨C2,rfl,x2⟩,⟨C3,rfl,x3⟩,⟨C4,rfl,x4⟩,⟨C5,rfl,x5⟩,⟨C6,rfl,x6⟩,trivial⟩
 have g1:B 1 gs1:=Z.fn (ps:=["thing"]) p0 g0 Zh rfl rfl (λ_ _ _ _ _ _ _=>rfl) rfl
 have g2:B 2 gs2:=Z.fn (ps:=["thing"]) p1 g1 QU rfl rfl (λ_ _ _ _ _ _ _=>rfl) rfl
 have g3:B 3 gs3:=Z.fn (ps:=["thing","bound"]) p2 g2 ZQ rfl rfl (λ_ _ _ _ _ _ _ _=>rfl) rfl
 have g4:B 5 gs4:=Z.cl (ps:=["self","moments","houses","counts"]) p3 g3 yv rfl rfl rfl (λ_ _ _ _ _ _ _ _ _ _=>rfl) rfl
 have g5:B 5 gs5:=GsOk.add g4 ⟨_,(.int 0),mg_of kb nb v4,⟨_,rfl⟩,λ_ _ _=>rfl⟩ rfl
 have g6:B 5 gs6:=GsOk.add g5 ⟨_,(.int 1),mg_of kb nb v5,⟨_,rfl⟩,λ_ _ _=>rfl⟩ rfl
 have g7:B 5 gs7:=GsOk.add g6 ⟨_,(.int 2),mg_of kb nb v6,⟨_,rfl⟩,λ_ _ _=>rfl⟩ rfl
 have g8:B 6 gs8:=Z.fn (ps:=["shape","thing"]) p7 g7 Zd rfl rfl (λ_ _ _ _ _ _ _ _=>rfl) rfl
 have g9:B 7 gs9:=Z.fn (ps:=["shape","thing"]) p8 g8 xu rfl rfl (λ_ _ _ _ _ _ _ _=>rfl) rfl
 have g10:B 7 z1z:=GsOk.add g9 ⟨_,(.str "abcdefghijklmnopqrstuvwxyz"),mg_of kb nb v9,⟨_,rfl⟩,λ_ _ _=>rfl⟩ rfl
 have g11:B 7 YN:=GsOk.add g10 ⟨_,(.int 8),mg_of kb nb v10,⟨_,rfl⟩,λ_ _ _=>rfl⟩ rfl
 have g12:B 8 UK:=Z.fn (ps:=["thing"]) p11 g11 uO rfl rfl (λ_ _ _ _ _ _ _=>rfl) rfl
 have g13:B 10 Uj:=Z.cl (ps:=["self","holder","lease"]) p12 g12 yy rfl rfl rfl (λ_ _ _ _ _ _ _ _ _=>rfl) rfl
 have g14:B 11 U0:=Z.fn (ps:=["grant","first","until"]) p13 g13 KG rfl rfl (λ_ _ _ _ _ _ _ _ _=>rfl) rfl
 have W14:FnOk l.prog w K mg base (CX1 l.prog w) 12 f14 _ ["grants","moment","span"] (spN _ 3 q9):=yg (m:=2) Jt (VE (N:=["grants","moment","span","begin","grant"]) (G:=["sorted","meets"]) (cel:=[]) (own:=[]) (lam:=some (0,[⟨65,36,65,64⟩])) kb nb zc g14) l14 c14 rfl rfl xA (λj pos e=>by cases e;exact⟨by decide,cA0,P0,rfl,codeHd_of_K kb zt0,nbt,rfl⟩)
 have g15:B 12 Uv:=GsOk.add (g14.mono (by decide)) ⟨f14,mg_of kb nb a14,_,_,12,k14,b14,by decide,W14,jF⟩ rfl
 have g16:B 13 YF:=Z.fn (ps:=["grants","moment","span"]) p15 g15 xw rfl rfl (λ_ _ _ _ _ _ _ _ _=>rfl) rfl
 have g17:B 15 Ys:=Z.cl (ps:=["self","shape"]) p16 g16 xq rfl rfl rfl (λ_ _ _ _ _ _ _ _=>rfl) rfl
 have g18:B 16 z0f:=Z.met (ps:=["self","holder","house","moment","span"]) p17 g17 vd rfl rfl rfl rfl (λ_ _ _ _ _ _ _ _ _ _ _=>rfl) rfl
 have g19:B 17 YR:=Z.met (ps:=["self","house"]) p18 g18 vc rfl rfl rfl rfl (λ_ _ _ _ _ _ _ _=>rfl) rfl
 have g20:B 18 YH:=Z.met (ps:=["self","house","moment","span"]) p19 g19 wG rfl rfl rfl rfl (λ_ _ _ _ _ _ _ _ _ _=>rfl) rfl
 have g21:B 19 z05:=Z.met (ps:=["self","holder","house","moment","span"]) p20 g20 yQ rfl rfl rfl rfl (λ_ _ _ _ _ _ _ _ _ _ _=>rfl) rfl
 have g22:B 20 Yo:=Z.met (ps:=["self","lease"]) p21 g21 kc rfl rfl rfl rfl (λ_ _ _ _ _ _ _ _=>rfl) rfl
 have g23:B 21 UN:=Z.met (ps:=["self","lease","used"]) p22 g22 yR rfl rfl rfl rfl (λ_ _ _ _ _ _ _ _ _=>rfl) rfl
 have g24:B 22 Yl:=Z.met (ps:=["self"]) p23 g23 jq rfl rfl rfl rfl (λ_ _ _ _ _ _ _=>rfl) rfl
 have g25:B 23 YJ:=Z.fn (ps:=["_law_script","_law_k"]) p24 g24 uI rfl rfl (λ_ _ _ _ _ _ _ _=>rfl) rfl
 have g26:B 24 YE:=Z.fn (ps:=["_law_cell","_law_k"]) p25 g25 Wr rfl rfl (λ_ _ _ _ _ _ _ _=>rfl) rfl
 have g27:B 25 z0j:=Z.fn (ps:=["_law_cell","_law_k","_law_most"]) p26 g26 Xk rfl rfl (λ_ _ _ _ _ _ _ _ _=>rfl) rfl
 have g28:B 26 Yd:=Z.fn (ps:=["_law_cell"]) p27 g27 vX rfl rfl (λ_ _ _ _ _ _ _=>rfl) rfl
 have g29:B 27 UR:=Z.fn (ps:=["_law_table","_law_house","_law_begin","_law_span"]) p28 g28 uC rfl rfl (λ_ _ _ _ _ _ _ _ _ _=>rfl) rfl
 have g30:B 28 Yv:=Z.fn (ps:=["_law_table","_law_shape","_law_moment","_law_span"]) p29 g29 uz rfl rfl (λ_ _ _ _ _ _ _ _ _ _=>rfl) rfl
 have g31:B 29 Yi:=Z.fn (ps:=["_law_table","_law_shape","_law_house","_law_moment","_law_span"]) p30 g30 Zj rfl rfl (λ_ _ _ _ _ _ _ _ _ _ _=>rfl) rfl
 have g32:B 30 Yp:=Z.fn (ps:=["_law_common","_law_holder","_law_house","_law_moment","_law_span"]) p31 g31 Xa rfl rfl (λ_ _ _ _ _ _ _ _ _ _ _=>rfl) rfl
 have g33:B 31 z0w:=Z.fn (ps:=["_law_common","_law_table","_law_leases","_law_cell"]) p32 g32 QG rfl rfl (λ_ _ _ _ _ _ _ _ _ _=>rfl) rfl
 have W33:FnOk l.prog w K mg base (CX1 l.prog w) 32 fa _ ["_law_script"] (spN _ 1 vM):=yg (m:=13) Jt (VE (N:=["_law_script","_law_first","_law_far_here","_law_many","_law_shape","_law_common","_law_table","_law_leases","_law_cell","_law_way","_law_house","_law_moment","_law_span","_law_due_here"]) (G:=["_law_cell_at","_law_far_moment","_law_draw","Shape","Common","_law_cut","int","_law_due","_law_let","dict","range","len"]) (cel:=["_law_due_here"]) (own:=["_law_leases","{}","!_law_table"]) (lam:=none) kb nb zc g33) l33 c33 rfl rfl Wi
 exact JK (f:=vM) tells rfl W33
end NH.K22
section
open PySem PySem.W PyProof.Rows
set_option maxRecDepth 100000 in
set_option maxHeartbeats 0 in
theorem PySem.Challenge.cw_namehouses_k22_let_of_any_house_holds : PySem.Challenge.rw_namehouses_k22_let_of_any_house.Holds := by
 w_on;o_law;k_head;(case hw=>w_witness2)
 k_fill
 refine NH.walkT2 (l:=PySem.Challenge.rw_namehouses_k22_let_of_any_house) (k:=32) (x:="_law_script") (by decide) rfl rfl (λw h Y=>PySem.W.km_in_of Y) (λw h Y=>PySem.W.km_tabs_of Y _ (.head _)) ?F
 case F=>
  intro w mg fa h KX G hmg
  refine' NH.K22.all_mk KX G hmg ?ze0 ?ze1 ?ze2 ?ze3 ?ze4 ?ze5 ?ze6 ?zp0 ?zp1 ?zp2 ?zp3 ?zv4 ?zv5 ?zv6 ?zp7 ?zp8 ?zv9 ?zv10 ?zp11 ?zp12 ?zp13 ?za14 ?zl14 ?zc14 ?zzt0 ?zzk0 ?zzs0 ?zk14 ?zp15 ?zp16 ?zp17 ?zp18 ?zp19 ?zp20 ?zp21 ?zp22 ?zp23 ?zp24 ?zp25 ?zp26 ?zp27 ?zp28 ?zp29 ?zp30 ?zp31 ?zp32 ?za33 ?zl33 ?zc33 ?zk33 ?zx0 ?zx1 ?zx2 ?zx3 ?zx4 ?zx5 ?zx6 ?zzl ?zzc ?zzg
  (case ze0=>k_is)
  (case ze1=>k_is)
  (case ze2=>k_is)
  (case ze3=>k_is)
  (case ze4=>k_is)
  (case ze5=>k_is)
  (case ze6=>k_is)
  (case zp0=>exact NH.dfp (by k_is) (by k_is) (by k_is) (by k_is))
  (case zp1=>exact NH.dfp (by k_is) (by k_is) (by k_is) (by k_is))
  (case zp2=>exact NH.dfp (by k_is) (by k_is) (by k_is) (by k_is))
  (case zp3=>exact NH.clp (by k_is) (by k_is) (by k_is) (by k_is) (by k_is) (by k_is) (by k_is) (by k_is))
  (case zv4=>k_is)
  (case zv5=>k_is)
  (case zv6=>k_is)
  (case zp7=>exact NH.dfp (by k_is) (by k_is) (by k_is) (by k_is))
  (case zp8=>exact NH.dfp (by k_is) (by k_is) (by k_is) (by k_is))
  (case zv9=>k_is)
  (case zv10=>k_is)
  (case zp11=>exact NH.dfp (by k_is) (by k_is) (by k_is) (by k_is))
  (case zp12=>exact NH.clp (by k_is) (by k_is) (by k_is) (by k_is) (by k_is) (by k_is) (by k_is) (by k_is))
  (case zp13=>exact NH.dfp (by k_is) (by k_is) (by k_is) (by k_is))
  (case za14=>k_is)
  (case zl14=>k_is)
  (case zc14=>k_is)
  (case zzt0=>exact rfl)
  (case zzk0=>exact rfl)
  (case zzs0=>decide)
  (case zk14=>k_is)
  (case zp15=>exact NH.dfp (by k_is) (by k_is) (by k_is) (by k_is))
  (case zp16=>exact NH.clp (by k_is) (by k_is) (by k_is) (by k_is) (by k_is) (by k_is) (by k_is) (by k_is))
  (case zp17=>exact NH.mtp (by k_is) (by k_is) (by k_is) (by k_is) (by k_is))
  (case zp18=>exact NH.mtp (by k_is) (by k_is) (by k_is) (by k_is) (by k_is))
  (case zp19=>exact NH.mtp (by k_is) (by k_is) (by k_is) (by k_is) (by k_is))
  (case zp20=>exact NH.mtp (by k_is) (by k_is) (by k_is) (by k_is) (by k_is))
  (case zp21=>exact NH.mtp (by k_is) (by k_is) (by k_is) (by k_is) (by k_is))
  (case zp22=>exact NH.mtp (by k_is) (by k_is) (by k_is) (by k_is) (by k_is))
  (case zp23=>exact NH.mtp (by k_is) (by k_is) (by k_is) (by k_is) (by k_is))
  (case zp24=>exact NH.dfp (by k_is) (by k_is) (by k_is) (by k_is))
  (case zp25=>exact NH.dfp (by k_is) (by k_is) (by k_is) (by k_is))
  (case zp26=>exact NH.dfp (by k_is) (by k_is) (by k_is) (by k_is))
  (case zp27=>exact NH.dfp (by k_is) (by k_is) (by k_is) (by k_is))
  (case zp28=>exact NH.dfp (by k_is) (by k_is) (by k_is) (by k_is))
  (case zp29=>exact NH.dfp (by k_is) (by k_is) (by k_is) (by k_is))
  (case zp30=>exact NH.dfp (by k_is) (by k_is) (by k_is) (by k_is))
  (case zp31=>exact NH.dfp (by k_is) (by k_is) (by k_is) (by k_is))
  (case zp32=>exact NH.dfp (by k_is) (by k_is) (by k_is) (by k_is))
  (case za33=>k_is)
  (case zl33=>k_is)
  (case zc33=>k_is)
  (case zk33=>k_is)
  (case zx0=>k_exc)
  (case zx1=>k_exc)
  (case zx2=>k_exc)
  (case zx3=>k_exc)
  (case zx4=>k_exc)
  (case zx5=>k_exc)
  (case zx6=>k_exc)
  (case zzl=>exact rfl)
  (case zzc=>exact rfl)
  (case zzg=>exact rfl)
end
