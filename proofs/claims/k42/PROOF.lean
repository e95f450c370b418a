import PyProof.Rows.All
import Wide.All
import OpenK.AllK
import Wide.FinOn
import Lean
import PyProof.EqAt
import PyProof.EqKinds
import PyProof.TupleCall
import PyProof.StationsW
import PySem.Syntax
import KE.KLam
import PyProof.StrBlockH
import KE.KRevIter
import PyProof.JoinWalk
import PyProof.CollectIter
import PyProof.StrCalls
import PyProof.DictStraight
import PyProof.Rows.Range3
import PyProof.StrWalks
import PyProof.LongRange
import KE.KTryMore
import KE.KItem
import PyProof.NsDelKeeps
import PyProof.DictTable
import PyProof.WalkInts
import PyProof.Rows.SortStr
import PyProof.Rows.SortWalk
import PyProof.EnumMake
import PyProof.EnumFor
import KE.KRevSl
import PyProof.Rows.StrNews
import KE.KMinBuiltin
import KE.KSortKey
import PyProof.ZipIter
import PyProof.ExcInit
import PyProof.ExcClass2
import PyProof.InstStoreFacts
import PyProof.FString
import KE.LcSums
import PySem.Challenge.RW_namehouses_k42_notes_kept
set_option Elab.async false
set_option linter.all false
set_option maxRecDepth 100000
set_option maxHeartbeats 4000000
set_option bootstrap.genMatcherCode false
noncomputable section
namespace PySem.W.Fast
theorem tw17271640660474244112:True:=⟨⟩
theorem tw11904189612334631586:True:=⟨⟩
theorem tw9694829014385003611:True:=⟨⟩
theorem tw17369428923606545395:True:=⟨⟩
theorem tw2678958765512979988:True:=⟨⟩
theorem tw665039336115474775:True:=⟨⟩
theorem tw3374713478750660726:True:=⟨⟩
theorem tw12848408220273319844:True:=⟨⟩
theorem tw18250552392068765972:True:=⟨⟩
theorem tw12729036668022688019:True:=⟨⟩
theorem tw18129238072393041930:True:=⟨⟩
theorem tw14541904344920003477:True:=⟨⟩
theorem tw8297013450791227823:True:=⟨⟩
theorem tw1574796562699261269:True:=⟨⟩
theorem tw16296710079065817991:True:=⟨⟩
theorem tw11293654274661309890:True:=⟨⟩
theorem tw12045669242997406590:True:=⟨⟩
theorem tw14477993367170850253:True:=⟨⟩
theorem tw15991354621821094000:True:=⟨⟩
theorem tw6951936369458440890:True:=⟨⟩
theorem tw1796190875762303382:True:=⟨⟩
theorem tw12017391979882770652:True:=⟨⟩
theorem tw2032876274560009989:True:=⟨⟩
theorem tw12139889907955993999:True:=⟨⟩
theorem tw14671601284900867348:True:=⟨⟩
theorem tw327474687269169185:True:=⟨⟩
theorem tw6468492971115032688:True:=⟨⟩
theorem tw8532860121924237441:True:=⟨⟩
theorem tw18195029139857175247:True:=⟨⟩
theorem tw4870359148893440387:True:=⟨⟩
theorem tw3303203081730122445:True:=⟨⟩
theorem tw18412557454749161429:True:=⟨⟩
theorem tw2910740173469538918:True:=⟨⟩
theorem tw1861469365776485402:True:=⟨⟩
theorem tw1848812069530859128:True:=⟨⟩
theorem tw3160770274733988286:True:=⟨⟩
theorem tw9434038633852739219:True:=⟨⟩
theorem tw16722125672562489120:True:=⟨⟩
theorem tw10908943416818808975:True:=⟨⟩
theorem tw15684565272187884993:True:=⟨⟩
theorem tw12264675700534578446:True:=⟨⟩
theorem tw4086211064716376349:True:=⟨⟩
theorem tw15385630633208717382:True:=⟨⟩
theorem tw6612696977572865646:True:=⟨⟩
theorem tw5927168271063615247:True:=⟨⟩
theorem tw1365495883515161070:True:=⟨⟩
theorem tw7471723425094240326:True:=⟨⟩
theorem tw16198842530770528503:True:=⟨⟩
theorem tw4710651550430715809:True:=⟨⟩
theorem tw9072233221236310962:True:=⟨⟩
theorem tw16755577165600839917:True:=⟨⟩
theorem tw15572666749885310070:True:=⟨⟩
theorem tw6339532830847093622:True:=⟨⟩
theorem tw4768924536786406744:True:=⟨⟩
theorem tw2253291810689609218:True:=⟨⟩
theorem tw10682445794289449118:True:=⟨⟩
theorem tw15903515246840429087:True:=⟨⟩
theorem tw4889919986134542075:True:=⟨⟩
theorem tw8504015023454658345:True:=⟨⟩
theorem tw2888661771675063675:True:=⟨⟩
theorem tw12749413489175049880:True:=⟨⟩
theorem tw6813081926071449639:True:=⟨⟩
theorem tw1748208033114561754:True:=⟨⟩
theorem tw6968582442020304045:True:=⟨⟩
theorem tw11225352539299313358:True:=⟨⟩
theorem tw10871733292719639618:True:=⟨⟩
theorem tw4137735119336362619:True:=⟨⟩
theorem tw9260236665216186855:True:=⟨⟩
theorem tw11039408114854869828:True:=⟨⟩
theorem tw13679129287123201277:True:=⟨⟩
theorem tw10875116481675144818:True:=⟨⟩
theorem tw4337193329467045370:True:=⟨⟩
theorem tw18014936166277427614:True:=⟨⟩
theorem tw17438168644182211321:True:=⟨⟩
theorem tw13318801565651383609:True:=⟨⟩
theorem tw6324808949202892961:True:=⟨⟩
theorem tw16207677882294741885:True:=⟨⟩
theorem tw12316487069452025692:True:=⟨⟩
theorem tw405815461470296417:True:=⟨⟩
theorem tw17373482353590429144:True:=⟨⟩
theorem tw4426459471804121829:True:=⟨⟩
theorem tw9520243577118502642:True:=⟨⟩
theorem tw6684067586269425608:True:=⟨⟩
theorem tw4150988780365581000:True:=⟨⟩
theorem tw2554733221618659900:True:=⟨⟩
theorem tw12520059600711491697:True:=⟨⟩
theorem tw11477056893929701208:True:=⟨⟩
theorem tw15449340689345378235:True:=⟨⟩
theorem tw6118240573253979582:True:=⟨⟩
theorem tw8751997463707730647:True:=⟨⟩
theorem tw8888922349350250631:True:=⟨⟩
theorem tw191971809658326344:True:=⟨⟩
theorem tw11036545815362967467:True:=⟨⟩
theorem tw8017081269553159334:True:=⟨⟩
theorem tw13146943909778946413:True:=⟨⟩
theorem tw8564987967402917784:True:=⟨⟩
theorem tw17073433052014354703:True:=⟨⟩
theorem tw14968695221629749853:True:=⟨⟩
theorem tw5524848445193661788:True:=⟨⟩
theorem tw6898609794329347479:True:=⟨⟩
theorem tw7831312629278376742:True:=⟨⟩
theorem tw17187507646240729718:True:=⟨⟩
theorem tw5071188331225023544:True:=⟨⟩
theorem tw11273421990407761195:True:=⟨⟩
theorem tw16595105520292811622:True:=⟨⟩
theorem tw2128867479931503204:True:=⟨⟩
theorem tw11731323747822626725:True:=⟨⟩
theorem tw1706501869346714096:True:=⟨⟩
theorem tw8807271225043292058:True:=⟨⟩
theorem tw1613342996672838878:True:=⟨⟩
theorem tw6094084472031630130:True:=⟨⟩
theorem tw12915078112751229927:True:=⟨⟩
theorem tw8560170073305509734:True:=⟨⟩
theorem tw2399487657748405385:True:=⟨⟩
theorem tw9326722247349926463:True:=⟨⟩
theorem tw7785760156230320432:True:=⟨⟩
theorem tw11605592544811083464:True:=⟨⟩
theorem tw2526530262283674814:True:=⟨⟩
theorem tw15829730556659928593:True:=⟨⟩
theorem tw10379438152690337968:True:=⟨⟩
theorem tw2546722877176965723:True:=⟨⟩
theorem tw17875889961743545089:True:=⟨⟩
theorem tw9629399318372432300:True:=⟨⟩
theorem tw17885829706630383047:True:=⟨⟩
theorem tw3013304800958210610:True:=⟨⟩
theorem tw11067517633301356296:True:=⟨⟩
theorem tw17249099361132846533:True:=⟨⟩
theorem tw5060378623641068541:True:=⟨⟩
theorem tw6927966068967186983:True:=⟨⟩
theorem tw8738062027744319119:True:=⟨⟩
theorem tw4444319624656109719:True:=⟨⟩
theorem tw5298190663118570150:True:=⟨⟩
theorem tw3168530513046781930:True:=⟨⟩
theorem tw9250473154947010763:True:=⟨⟩
theorem tw8244951793386310220:True:=⟨⟩
theorem tw2335714944754426684:True:=⟨⟩
theorem tw4547787783662434941:True:=⟨⟩
theorem tw7894571049314273055:True:=⟨⟩
theorem tw1485775131736090747:True:=⟨⟩
theorem tw5103993600728823976:True:=⟨⟩
theorem tw9908555084789718244:True:=⟨⟩
theorem tw6875815030612252998:True:=⟨⟩
theorem tw16673447067253443552:True:=⟨⟩
theorem tw3309769056314175446:True:=⟨⟩
theorem tw2403816062234206637:True:=⟨⟩
theorem tw12058848268360353318:True:=⟨⟩
theorem tw13438395783319241922:True:=⟨⟩
theorem tw7162449643080775979:True:=⟨⟩
theorem tw17091886879742924991:True:=⟨⟩
theorem tw4803916809029302374:True:=⟨⟩
theorem tw2417799830753278621:True:=⟨⟩
theorem tw8686341417243309387:True:=⟨⟩
theorem tw13914352751602740919:True:=⟨⟩
theorem tw17088183239185361074:True:=⟨⟩
theorem tw7317799633383179536:True:=⟨⟩
theorem tw11793321661427944563:True:=⟨⟩
theorem tw16043099155970952414:True:=⟨⟩
theorem tw17264172996636835018:True:=⟨⟩
theorem tw8012100872715686198:True:=⟨⟩
theorem tw10776922889774443999:True:=⟨⟩
theorem tw16870551412606647456:True:=⟨⟩
theorem tw14092340837360679029:True:=⟨⟩
theorem tw5238024877694896007:True:=⟨⟩
theorem tw9230618344434935955:True:=⟨⟩
theorem tw14663055104530069484:True:=⟨⟩
theorem tw8475632499389942432:True:=⟨⟩
theorem tw9533703309168680936:True:=⟨⟩
theorem tw11271722205592336181:True:=⟨⟩
theorem tw4182469663857849304:True:=⟨⟩
theorem tw9798871743388915901:True:=⟨⟩
theorem tw3597516818831457567:True:=⟨⟩
theorem tw17371326673380897063:True:=⟨⟩
theorem tw3305448391344746221:True:=⟨⟩
theorem tw15703500081635574027:True:=⟨⟩
theorem tw17667323395521776662:True:=⟨⟩
theorem tw22301271199373658:True:=⟨⟩
theorem tw9219382152011530192:True:=⟨⟩
theorem tw1817623371364193866:True:=⟨⟩
theorem tw12887493634012073352:True:=⟨⟩
theorem tw8504742139390792594:True:=⟨⟩
theorem tw9547120037725042699:True:=⟨⟩
theorem tw17179501174488642738:True:=⟨⟩
theorem tw1460843867769299160:True:=⟨⟩
theorem tw9180294079880430616:True:=⟨⟩
theorem tw14435553480822070730:True:=⟨⟩
theorem tw10806229961890471536:True:=⟨⟩
theorem tw8372337909282892289:True:=⟨⟩
theorem tw1995455988875375641:True:=⟨⟩
theorem tw2918363667643632397:True:=⟨⟩
theorem tw14793924464328658399:True:=⟨⟩
theorem tw17221646176901560197:True:=⟨⟩
theorem tw2307204339253154262:True:=⟨⟩
theorem tw4086397229387429766:True:=⟨⟩
theorem tw269486570496032978:True:=⟨⟩
theorem tw8464462338215871619:True:=⟨⟩
theorem tw3019144932012551700:True:=⟨⟩
theorem tw7376453619086686063:True:=⟨⟩
theorem tw15405469336922938886:True:=⟨⟩
theorem tw14266819755307777128:True:=⟨⟩
theorem tw1928108821242854127:True:=⟨⟩
theorem tw609077777648013379:True:=⟨⟩
theorem tw15239185348902374563:True:=⟨⟩
theorem tw10242220397661995728:True:=⟨⟩
theorem tw5624469536443385202:True:=⟨⟩
theorem tw6867730882720041750:True:=⟨⟩
theorem tw2956619038735552384:True:=⟨⟩
theorem tw1540994377605054367:True:=⟨⟩
theorem tw1114095190871193851:True:=⟨⟩
theorem tw9490399736629396642:True:=⟨⟩
theorem tw5581099144907382420:True:=⟨⟩
theorem tw431999509987417184:True:=⟨⟩
theorem tw922229623381117431:True:=⟨⟩
theorem tw13892949866766714674:True:=⟨⟩
theorem tw1538521772210745380:True:=⟨⟩
theorem tw17616249539273192436:True:=⟨⟩
theorem tw4395206281615581460:True:=⟨⟩
theorem tw14820607987108504671:True:=⟨⟩
theorem tw6195444799256322204:True:=⟨⟩
theorem tw13652828719005998237:True:=⟨⟩
theorem tw9163304943289235805:True:=⟨⟩
theorem tw7769256993436945719:True:=⟨⟩
theorem tw10616627908479558598:True:=⟨⟩
theorem tw10129450603015412367:True:=⟨⟩
theorem tw4053125397349808467:True:=⟨⟩
theorem tw9858277725853859203:True:=⟨⟩
theorem tw7491894173052995748:True:=⟨⟩
theorem tw2981582528794810246:True:=⟨⟩
theorem tw2955192713856357439:True:=⟨⟩
theorem tw10752997177381696884:True:=⟨⟩
theorem tw8349205725211743903:True:=⟨⟩
theorem tw10518991593769772141:True:=⟨⟩
theorem tw7371893128708904356:True:=⟨⟩
theorem tw18203401635348931625:True:=⟨⟩
theorem tw1902626850780758217:True:=⟨⟩
theorem tw234401205464321394:True:=⟨⟩
theorem tw6240478827457103639:True:=⟨⟩
theorem tw1297495759996713550:True:=⟨⟩
theorem tw3946218652793066738:True:=⟨⟩
theorem tw15471004775403821588:True:=⟨⟩
theorem tw18035652766736216383:True:=⟨⟩
theorem tw17206816174215126094:True:=⟨⟩
theorem tw5572699825200511569:True:=⟨⟩
theorem tw654934374321142395:True:=⟨⟩
theorem tw338684969794144741:True:=⟨⟩
theorem tw6529012691041576700:True:=⟨⟩
theorem tw15627799047005107939:True:=⟨⟩
theorem tw14506510989447675323:True:=⟨⟩
theorem tw15129487084820461113:True:=⟨⟩
theorem tw15403068918948406648:True:=⟨⟩
theorem tw17298319093555434127:True:=⟨⟩
theorem tw8699710183751974103:True:=⟨⟩
theorem tw5492312251188527189:True:=⟨⟩
theorem tw3554910392719704871:True:=⟨⟩
theorem tw17942141912032993156:True:=⟨⟩
theorem tw4391588494253537846:True:=⟨⟩
theorem tw12575235335738607273:True:=⟨⟩
theorem tw14538272156046742403:True:=⟨⟩
theorem tw11251674200962840136:True:=⟨⟩
theorem tw169236809441861016:True:=⟨⟩
theorem tw15775261685385562893:True:=⟨⟩
theorem tw3734464295843197988:True:=⟨⟩
theorem tw3247579809598170927:True:=⟨⟩
theorem tw5311291197003106597:True:=⟨⟩
theorem tw16373601409872392388:True:=⟨⟩
theorem tw15572747286950818608:True:=⟨⟩
theorem tw18299762050694267279:True:=⟨⟩
theorem tw11561255251614735713:True:=⟨⟩
theorem tw11773368216352611559:True:=⟨⟩
theorem tw16059278997188544683:True:=⟨⟩
theorem tw10343483702169265453:True:=⟨⟩
theorem tw11601657302699887889:True:=⟨⟩
theorem tw1599655978294089627:True:=⟨⟩
theorem tw5727308009688685386:True:=⟨⟩
theorem tw8232466223876529813:True:=⟨⟩
theorem tw46083687018529542:True:=⟨⟩
theorem tw17297112859503410411:True:=⟨⟩
theorem tw7377355552206711140:True:=⟨⟩
theorem tw6881072440053785718:True:=⟨⟩
theorem tw16804238225614235559:True:=⟨⟩
theorem tw9080232173516923615:True:=⟨⟩
theorem tw11450750313569941119:True:=⟨⟩
theorem tw7356357801324200728:True:=⟨⟩
theorem tw2601241824410796466:True:=⟨⟩
theorem tw12346610203296863430:True:=⟨⟩
theorem tw3914841518316636459:True:=⟨⟩
theorem tw13182262532186317420:True:=⟨⟩
theorem tw11159981353846696053:True:=⟨⟩
theorem tw15167449288137128987:True:=⟨⟩
theorem tw8477344525291901899:True:=⟨⟩
theorem tw4303104476342957339:True:=⟨⟩
theorem tw4323291700096590310:True:=⟨⟩
theorem tw16222216045247830577:True:=⟨⟩
theorem tw9354579442807078062:True:=⟨⟩
theorem tw12677080492246611930:True:=⟨⟩
theorem tw6488164490714616595:True:=⟨⟩
theorem tw3835043850464597445:True:=⟨⟩
theorem tw15988632558439661147:True:=⟨⟩
theorem tw10839803484695957907:True:=⟨⟩
theorem tw3783400156501921373:True:=⟨⟩
theorem tw3054008613367447562:True:=⟨⟩
theorem tw5573257220265718675:True:=⟨⟩
theorem tw13893902869981180781:True:=⟨⟩
theorem tw11915379037970403405:True:=⟨⟩
theorem tw7213457457248191801:True:=⟨⟩
theorem tw963923040354172668:True:=⟨⟩
theorem tw17451934887380401726:True:=⟨⟩
theorem tw2192319672776606926:True:=⟨⟩
theorem tw9356602368646804811:True:=⟨⟩
theorem tw13271669635872367449:True:=⟨⟩
theorem tw12331200290404950041:True:=⟨⟩
theorem tw7063419470283333135:True:=⟨⟩
theorem tw5272986573731977006:True:=⟨⟩
theorem tw1007235525030209711:True:=⟨⟩
theorem tw1937648715812324009:True:=⟨⟩
theorem tw2957578946860057792:True:=⟨⟩
theorem tw2715560658026181395:True:=⟨⟩
theorem tw8327028110295592964:True:=⟨⟩
theorem tw4988525151280337336:True:=⟨⟩
theorem tw1082008995405162396:True:=⟨⟩
theorem tw6123040177247859384:True:=⟨⟩
theorem tw14034401044118263463:True:=⟨⟩
theorem tw11659174710284680411:True:=⟨⟩
theorem tw17405128852493286465:True:=⟨⟩
theorem tw11800798223752179610:True:=⟨⟩
theorem tw12817567635208237222:True:=⟨⟩
theorem tw14077089607663058008:True:=⟨⟩
theorem tw1909614871276294888:True:=⟨⟩
theorem tw17850115114757289085:True:=⟨⟩
theorem tw4308405169831354553:True:=⟨⟩
theorem tw5106104561514981010:True:=⟨⟩
theorem tw625536339641613621:True:=⟨⟩
theorem tw16282718195526917104:True:=⟨⟩
theorem tw5361738294230118089:True:=⟨⟩
theorem tw17938742038214410227:True:=⟨⟩
theorem tw17078099836838247290:True:=⟨⟩
theorem tw9700831869766250639:True:=⟨⟩
theorem tw17259426924465986387:True:=⟨⟩
end PySem.W.Fast
section
set_option Elab.async false
namespace L2
open PySem PySem.Spec PyProof.Rows
noncomputable abbrev Key:=Sum Int Str
noncomputable def XT:Key->Value->Bool
 |.inl k,v=>Value.isInt k v
 |.inr x,v=>Value.isStrOf x v
noncomputable def z2b (w:World):Key->Int
 |.inl k=>hashInt k
 |.inr x=>hashStr w x
theorem zO:∀{k:Key} {v:Value},XT k v=true->(∃i t,k=Sum.inl i/\v=Value.int i t)\/(∃x t,k=Sum.inr x/\v=Value.str x t)
 |.inl i,v,h=>by
  obtain⟨t,e⟩:=Value.isInt_shape (k:=i) (v:=v) h
  exact .inl ⟨i,t,rfl,e⟩
 |.inr x,v,h=>by
  obtain⟨t,e⟩:=Value.isStrOf_shape (x:=x) (v:=v) h
  exact .inr ⟨x,t,rfl,e⟩
theorem z07(a b:Int):decide ((Sum.inl a:Key)=Sum.inl b)=(a == b):=by
 by_cases e:a=b
 ·subst e;simp
 ·have h:¬(Sum.inl a:Key)=Sum.inl b:=λq=>e (Sum.inl.inj q)
  rw[decide_eq_false h]
  exact (beq_eq_false_iff_ne.mpr e).symm
theorem Yt(a b:Str):decide ((Sum.inr a:Key)=Sum.inr b)=decide (a=b):=by
 by_cases e:a=b
 ·subst e;simp
 ·have h:¬(Sum.inr a:Key)=Sum.inr b:=λq=>e (Sum.inr.inj q)
  rw[decide_eq_false h,decide_eq_false e]
theorem z0i(a:Int)(b:Str):decide ((Sum.inl a:Key)=Sum.inr b)=false:=decide_eq_false (λq=>nomatch q)
theorem Yw(a:Str)(b:Int):decide ((Sum.inr a:Key)=Sum.inl b)=false:=decide_eq_false (λq=>nomatch q)
noncomputable def QI(prog:Program)(w:World):PySem.KeyKind prog w Key where
 is:=XT
 hash:=z2b w
 inj:=λv a b ha hb=>by
  rcases zO ha with⟨i,t,rfl,rfl⟩|⟨x,t,rfl,rfl⟩
  ·rcases zO hb with⟨j,u,rfl,e⟩|⟨y,u,rfl,e⟩
   ·injection e with e1 _;rw[e1]
   ·exact nomatch e
  ·rcases zO hb with⟨j,u,rfl,e⟩|⟨y,u,rfl,e⟩
   ·exact nomatch e
   ·injection e with e1 _;rw[e1]
 byValue:=λk v h=>by
  rcases zO h with⟨i,t,rfl,rfl⟩|⟨x,t,rfl,rfl⟩<;>rfl
 pyHash:=λhv h=>by
  rcases zO hv with⟨i,t,rfl,rfl⟩|⟨x,t,rfl,rfl⟩
  ·exact wpAny_pyHash_int h
  ·exact wpAny_pyHash_str h
 eqBool:=λhu hv h=>by
  rcases zO hu with⟨i,t,rfl,rfl⟩|⟨x,t,rfl,rfl⟩
  ·rcases zO hv with⟨j,u,rfl,rfl⟩|⟨y,u,rfl,rfl⟩
   ·rw[z07] at h;exact wpAny_eqBool_int h
   ·rw[z0i] at h;exact SeqAt.EqAt.int_str i t y u _ _ _ _ h
  ·rcases zO hv with⟨j,u,rfl,rfl⟩|⟨y,u,rfl,rfl⟩
   ·rw[Yw] at h;exact SeqAt.EqAt.str_int x t j u _ _ _ _ h
   ·rw[Yt] at h;exact wpAny_eqBool_str h
 «strs»:=λk x t v h=>by
  rcases zO h with⟨i,u,rfl,e⟩|⟨y,u,rfl,e⟩
  ·exact nomatch e
  ·injection e with e1 _
   subst e1
   cases v<;>rfl
end L2
namespace L2
open PySem PySem.Spec PyProof.Rows
inductive V where
 |non|bl (b:Bool)|int (i:Int)|str (x:Str)|byt (b:Array UInt8)|flt (b:UInt64)|ref (a:Addr)|ty (n:String)
 deriving DecidableEq
noncomputable def RelV:V->Value->Prop
 |.non,u=>u=Value.none
 |.bl b,u=>u=Value.bool b
 |.int i,u=>∃t,u=Value.int i t
 |.str x,u=>∃t,u=Value.str x t
 |.byt b,u=>∃t,u=Value.bytes b t
 |.flt b,u=>∃t,u=Value.float b t
 |.ref a,u=>u=Value.ref a
 |.ty n,u=>u=Value.type n
abbrev Vals:List V->List Value->Prop:=Paired RelV
theorem Vals.length{xs:List V}{us:List Value}(r:Vals xs us):xs.length=us.length:=Paired.length r
theorem Vals.get:∀{xs:List V} {us:List Value} {i:Nat} {x:V},Vals xs us->xs[i]?=some x->∃u,us[i]?=some u/\RelV x u
 |_,_,_,_,.nil,e=>by simp at e
 |_,_,0,_,.cons r _,e=>by simp at e;subst e;exact⟨_,rfl,r⟩
 |_,_,i+1,x,.cons _ t,e=>by
  obtain⟨u,h1,h2⟩:=Vals.get (i:=i) (x:=x) t (by simpa using e)
  exact⟨u,by simpa using h1,h2⟩
theorem Vals.set{x:V}{u:Value}(r:RelV x u):∀{xs:List V} {us:List Value} (i:Nat),Vals xs us->Vals (xs.set i x) (us.set i u)
 |_,_,_,.nil=>.nil
 |_,_,0,.cons _ t=>.cons r t
 |_,_,i+1,.cons q t=>.cons q (Vals.set r i t)
theorem Vals.append:∀{xs ys:List V} {us ws:List Value},Vals xs us->Vals ys ws->Vals (xs++ys) (us++ws)
 |_,_,_,_,.nil,s=>s
 |_,_,_,_,.cons r t,s=>.cons r (Vals.append t s)
theorem Vals.take:∀{xs:List V} {us:List Value} (n:Nat),Vals xs us->Vals (xs.take n) (us.take n)
 |_,_,0,_=>.nil
 |_,_,_+1,.nil=>.nil
 |_,_,n+1,.cons r t=>.cons r (Vals.take n t)
theorem Vals.drop:∀{xs:List V} {us:List Value} (n:Nat),Vals xs us->Vals (xs.drop n) (us.drop n)
 |_,_,0,r=>r
 |_,_,_+1,.nil=>.nil
 |_,_,n+1,.cons _ t=>Vals.drop n t
noncomputable def RelO:Option V->Option Value->Prop
 |some v,some u=>RelV v u
 |none,none=>True
 |_,_=>False
noncomputable def KV {κ:Type}:List (κ×V)->List (κ×Value)->Prop:=Paired λ(p:κ×V) (q:κ×Value)=>p.1=q.1/\RelV p.2 q.2
noncomputable def kV:Key->V
 |.inl i=>.int i
 |.inr x=>.str x
inductive HO where
 |lst (xs:List V)
 |tup (xs:List V)
 |dK (kvs:List (Key×V))|dT (kvs:List (List Key×V))
 |set (S:Int->Bool) (n:Nat)
 |ins (C dx:Addr) (fs:List (Str×V))
 |own (x:Addr)
 |xd (fs:List (Str×V))
 |met (f x:Addr)
 |rng (lo hi:Int)
 |frz (o:Obj) (u:HO)
 |tbl (ps:Array Value)
 |ext (φ:Heap->Prop)
noncomputable abbrev Hp:=Addr->Option HO
noncomputable def upd (H:Hp)(a:Addr)(o:HO):Hp:=λb=>if b=a then some o else H b
theorem z8{H:Hp}{a:Addr}{o:HO}:upd H a o a=some o:=by unfold upd;rw[if_pos rfl]
theorem za{H:Hp}{a b:Addr}{o:HO}(h:b≠a):upd H a o b=H b:=by unfold upd;rw[if_neg h]
theorem Q_{H:Hp}{a:Addr}{o u:HO}:upd (upd H a o) a u=upd H a u:=by
 funext b;unfold upd;split<;>rfl
theorem zL{H:Hp}{a b:Addr}{o:HO}(h:H a=some o)(h':H b=none):a≠b:=by
 intro e;subst e;rw[h] at h';cases h'
section
variable (P:Program)(w:World)
noncomputable def ObjOk(H:Hp)(h:Heap)(a:Addr):HO->Prop
 |.lst xs=>xs.length<=sizeLine/\∃(its:List Value) (n:Nat),Vals xs its/\h.get? a=some {cls:=.type "list",data:=.seq its.toArray n}
 |.tup xs=>xs.length<=sizeLine/\∃its:List Value,Vals xs its/\IsTup h a its.toArray
 |.dK kvs=>kvs.length<=sizeLine/\(a == sysModules)=false/\∃vs,KV kvs vs/\h.DictOf (QI P w) a vs
 |.dT kvs=>kvs.length<=sizeLine/\(a == sysModules)=false/\∃xs:List (List Key×Addr×Value),
   Paired (λ(p:List Key×V) (q:List Key×Addr×Value)=>p.1=q.1/\H q.2.1=some (.tup (p.1.map kV))/\RelV p.2 q.2.2) kvs xs/\
   ∃o es ep,h.get? a=some o/\o.ExactDict/\o.data=.dict es ep/\es.toList=xs.map (entryOfKey (tupleKind (QI P w)))/\(xs.map (·.1)).Nodup
 |.set S n=>h.SetOf (intKind P w) a S n
 |.ins C dx fs=>H dx=some (.own a)/\fs.length<=1000/\dx≠a/\h.get? a=some (PySem.W.instObj C dx)/\
   ∃mA,h.Ns1 dx mA/\(∀f,RelO (fs.lookup f) (mA f))/\PySem.Within mA (fs.map (·.1))
 |.own _=>∃o,h.get? a=some o
 |.xd fs=>∃mA,h.Ns1 a mA/\∀f,RelO (fs.lookup f) (mA f)
 |.rng lo hi=>∃t u v,h.get? a=some {cls:=.type "range",data:=.fields #[.int lo t,.int hi u,.int 1 v]}
 |.frz o u=>h.get? a=some o/\ObjOk H h a u
 |.tbl ps=>h.get? a=some {cls:=.none,data:=.fields ps}
 |.met f x=>h.get? a=some (PySem.W.methodObj (.ref f) (.ref x))
 |.ext φ=>φ h/\(∃o,h.get? a=some o)/\∀h1 h2:Heap,φ h1->(∀o,h1.get? a=some o->h2.get? a=some o)->φ h2
noncomputable def HOk (H:Hp)(h:Heap):Prop:=∀a o,H a=some o->ObjOk P w H h a o
end
section
variable {P:Program}{w:World}{H H':Hp}{h h':Heap}{a:Addr}{o:HO}
theorem ObjOk.lt(x:ObjOk P w H h a o):a<h.objs.size:=by
 cases o with
 |lst xs=>obtain⟨_,_,_,_,e⟩:=x;exact Heap.lt_size e
 |tup xs=>obtain⟨_,_,_,p⟩:=x;exact p.lt
 |dK kvs=>obtain⟨_,_,_,_,o,_,_,e,_⟩:=x;exact Heap.lt_size e
 |dT kvs=>obtain⟨_,_,_,_,o,_,_,e,_⟩:=x;exact Heap.lt_size e
 |set S n=>obtain⟨o,_,_,_,e,_⟩:=x;exact Heap.lt_size e
 |ins C dx fs=>obtain⟨_,_,_,e,_⟩:=x;exact Heap.lt_size e
 |own y=>obtain⟨_,e⟩:=x;exact Heap.lt_size e
 |xd fs=>obtain⟨_,⟨_,_,_,e,_⟩,_⟩:=x;exact Heap.lt_size e
 |rng lo hi=>obtain⟨_,_,_,e⟩:=x;exact Heap.lt_size e
 |frz ob u=>obtain⟨e,_⟩:=x;exact Heap.lt_size e
 |tbl ps=>exact Heap.lt_size (show h.get? a=some _ from x)
 |met f y=>exact Heap.lt_size (show h.get? a=some _ from x)
 |ext φ=>obtain⟨_,⟨_,e⟩,_⟩:=x;exact Heap.lt_size e
theorem Paired.mapP{α β:Type}{F G:α->β->Prop}:∀{l₁:List α} {l₂:List β},Paired F l₁ l₂->(∀a b,F a b->G a b)->Paired G l₁ l₂
 |_,_,.nil,_=>.nil
 |_,_,.cons r t,f=>.cons (f _ _ r) (Paired.mapP t f)
theorem ObjOk.stay(x:ObjOk P w H h a o)(k:∀b u,(b=a\/H b=some (.own a))->h.get? b=some u->h'.get? b=some u)
  (ho:∀b,H b=some (.own a)->H' b=some (.own a)) (ht:∀b xs,H b=some (.tup xs)->H' b=some (.tup xs)):ObjOk P w H' h' a o:=by
 induction o with
 |lst xs=>obtain⟨z,its,n,r,e⟩:=x;exact⟨z,its,n,r,k _ _ (.inl rfl) e⟩
 |tup xs=>obtain⟨z,its,r,ob,e,c⟩:=x;exact⟨z,its,r,ob,k _ _ (.inl rfl) e,c⟩
 |dK kvs=>obtain⟨z,y,vs,r,ob,es,ep,e,c⟩:=x;exact⟨z,y,vs,r,ob,es,ep,k _ _ (.inl rfl) e,c⟩
 |dT kvs=>
  obtain⟨z,y,xs,r,ob,es,ep,e,c⟩:=x
  exact⟨z,y,xs,Paired.mapP r λp q z=>⟨z.1,ht _ _ z.2.1,z.2.2⟩,ob,es,ep,k _ _ (.inl rfl) e,c⟩
 |set S n=>obtain⟨ob,es,ep,t,e,c⟩:=x;exact⟨ob,es,ep,t,k _ _ (.inl rfl) e,c⟩
 |ins C dx fs=>
  obtain⟨d,z,ne,e,mA,⟨od,es,ep,e2,c⟩,r⟩:=x
  exact⟨ho _ d,z,ne,k _ _ (.inl rfl) e,mA,⟨od,es,ep,k _ _ (.inr d) e2,c⟩,r⟩
 |own y=>obtain⟨ob,e⟩:=x;exact⟨ob,k _ _ (.inl rfl) e⟩
 |xd fs=>obtain⟨mA,⟨od,es,ep,e,c⟩,r⟩:=x;exact⟨mA,⟨od,es,ep,k _ _ (.inl rfl) e,c⟩,r⟩
 |rng lo hi=>obtain⟨t,u,v,e⟩:=x;exact⟨t,u,v,k _ _ (.inl rfl) e⟩
 |frz ob u ih=>obtain⟨e,q⟩:=x;exact⟨k _ _ (.inl rfl) e,ih q⟩
 |tbl ps=>
  have e:h.get? a=some {cls:=.none,data:=.fields ps}:=x
  show h'.get? a=some {cls:=.none,data:=.fields ps}
  exact k a _ (.inl rfl) e
 |met f y=>
  have e:h.get? a=some (PySem.W.methodObj (.ref f) (.ref y)):=x
  show h'.get? a=some (PySem.W.methodObj (.ref f) (.ref y))
  exact k a _ (.inl rfl) e
 |ext φ=>obtain⟨p,⟨o,e⟩,st⟩:=x;exact⟨st _ _ p λo q=>k _ _ (.inl rfl) q,⟨o,k _ _ (.inl rfl) e⟩,st⟩
theorem HOk.lt(x:HOk P w H h)(e:H a=some o):a<h.objs.size:=(x a o e).lt
theorem HOk.fresh(x:HOk P w H h)(e:h.objs.size<=a):H a=none:=by
 cases q:H a with
 |none=>rfl
 |some u=>exact absurd (Nat.lt_of_lt_of_le (x.lt q) e) (Nat.lt_irrefl _)
theorem HOk.kept(x:HOk P w H h)(k:∀b u,h.get? b=some u->h'.get? b=some u):HOk P w H h':=λa o e=>
 (x a o e).stay (λb u _ q=>k b u q) (λ_ q=>q) λ_ _ q=>q
theorem HOk.laid(x:HOk P w H h)(k:∀b u,h.get? b=some u->h'.get? b=some u)(hp:h.objs.size<=a)(new:ObjOk P w (upd H a o) h' a o):HOk P w (upd H a o) h':=λb u e=>by
 have hn:=x.fresh hp
 by_cases hb:b=a
 ·subst hb;rw[z8] at e;cases e;exact new
 ·rw[za hb] at e
  exact (x b u e).stay (λc v _ q=>k c v q) (λc q=>by rw[za (zL q hn)];exact q) λc xs q=>by rw[za (zL q hn)];exact q
end
noncomputable def Rd (H:Hp)(a:Addr)(u:HO):Prop:=H a=some u\/∃o,H a=some (.frz o u)
theorem Rd.ok{P:Program}{w:World}{H:Hp}{h:Heap}{a:Addr}{u:HO}(r:Rd H a u)(x:HOk P w H h):ObjOk P w H h a u:=by
 rcases r with r|⟨o,r⟩
 ·exact x a u r
 ·obtain⟨_,q⟩:=x a _ r
  exact q
noncomputable def Mut:Option HO->Prop
 |some (.lst _)=>True
 |some (.dK _)=>True
 |some (.dT _)=>True
 |some (.set _ _)=>True
 |some (.ins _ _ _)=>True
 |some (.ext _)=>True
 |_=>False
section
variable {P:Program}{w:World}{H:Hp}{h h':Heap}{x e:Addr}{o':HO}
theorem HOk.write(ok:HOk P w H h)(mu:Mut (H x))(he:e=x\/H e=some (.own x))(k:∀b u,b≠e->h.get? b=some u->h'.get? b=some u)(heo:∃u,h'.get? e=some u)
  (new:ObjOk P w (upd H x o') h' x o'):HOk P w (upd H x o') h':=λb u q=>by
 have nown:∀c y,H c=some (.own y)->c≠x:=λc y r z=>by subst z;rw[r] at mu;exact mu
 have ntup:∀c xs,H c=some (.tup xs)->c≠x:=λc xs r z=>by subst z;rw[r] at mu;exact mu
 by_cases hb:b=x
 ·subst hb;rw[z8] at q;cases q;exact new
 ·rw[za hb] at q
  by_cases hbe:b=e
  ·have q':H b=some (.own x):=by
    rcases he with z|z
    ·exact absurd (hbe.trans z) hb
    ·rw[hbe];exact z
   rw[q] at q';cases q'
   obtain⟨v,hv⟩:=heo
   exact⟨v,by rw[hbe];exact hv⟩
  ·refine (ok b u q).stay (λc v hc r=>k c v ?_ r) (λc r=>by rw[za (nown c b r)];exact r) λc xs r=>by rw[za (ntup c xs r)];exact r
   rcases hc with rfl|hc
   ·exact hbe
   ·rintro rfl
    rcases he with z|z
    ·exact nown c b hc z
    ·rw[hc] at z;cases z;exact hb rfl
end
structure Un(fs ex:List Addr)(H H':Hp)(h h':Heap):Prop where
 keep:∀b o,h.get? b=some o->H b=none->b∉fs->b∉ex->h'.get? b=some o
 slot:∀b o,h.get? b=some o->H b=none->b∈fs->b∉ex->∃sl,h'.get? b=some {o with slots:=sl}
 free:∀b o,h.get? b=some o->H b=none->b∉ex->H' b=none
 there:∀b o,h.get? b=some o->b∉ex->∃o',h'.get? b=some o'
 tups:∀b xs,H b=some (.tup xs)->H' b=some (.tup xs)
 frzs:∀b o u,H b=some (.frz o u)->H' b=some (.frz o u)
 tbls:∀b ps,H b=some (.tbl ps)->∃more,H' b=some (.tbl (ps++more))
section
variable {fs fs' ex ex':List Addr}{H H1 H2:Hp}{h h1 h2 h':Heap}{a x e:Addr}{o:HO}
theorem Un.any(u:Un fs ex H H1 h h1){b:Addr}{ob:Obj}(q:h.get? b=some ob)(n:H b=none)(hx:b∉ex):∃sl,h1.get? b=some {ob with slots:=sl}:=by
 by_cases hb:b∈fs
 ·exact u.slot b ob q n hb hx
 ·exact⟨ob.slots,u.keep b ob q n hb hx⟩
theorem Un.kept(k:∀b u,h.get? b=some u->h'.get? b=some u):Un fs ex H H h h':=
 ⟨λb ob q _ _ _=>k b ob q,λb ob q _ _ _=>⟨ob.slots,k b ob q⟩,λ_ _ _ n _=>n,λb ob q _=>⟨ob,k b ob q⟩,λ_ _ q=>q,λ_ _ _ q=>q,λ_ ps q=>⟨#[],by rw[q];simp⟩⟩
theorem Un.refl:Un fs ex H H h h:=Un.kept λ_ _ q=>q
theorem Un.laid(k:∀b u,h.get? b=some u->h'.get? b=some u)(hp:h.objs.size<=a)(hn:H a=none):Un fs ex H (upd H a o) h h' where
 keep:=λb u q _ _ _=>k b u q
 slot:=λb u q _ _ _=>⟨u.slots,k b u q⟩
 free:=λb u q n _=>by rw[za (Nat.ne_of_lt (Nat.lt_of_lt_of_le (Heap.lt_size q) hp))];exact n
 there:=λb u q _=>⟨u,k b u q⟩
 tups:=λb xs q=>by rw[za (zL q hn)];exact q
 frzs:=λb u xs q=>by rw[za (zL q hn)];exact q
 tbls:=λb ps q=>⟨#[],by rw[za (zL q hn),q];simp⟩
theorem Un.write(mu:Mut (H x))(he:e=x\/H e=some (.own x))(k:∀b u,b≠e->h.get? b=some u->h'.get? b=some u)(heo:∃u,h'.get? e=some u):Un fs ex H (upd H x o) h h':=by
 have hx:∀b,H b=none->b≠x:=λb n z=>by subst z;rw[n] at mu;exact mu
 have hb:∀b,H b=none->b≠e:=λb n z=>by
  subst z
  rcases he with r|r
  ·exact hx b n r
  ·rw[n] at r;cases r
 have hm:∀b u,H b=some u->¬Mut (some u)->b≠x:=λb u q nm z=>by subst z;rw[q] at mu;exact nm mu
 refine⟨λb u q n _ _=>k b u (hb b n) q,λb u q n _ _=>⟨u.slots,k b u (hb b n) q⟩,λb u q n _=>by rw[za (hx b n)];exact n,λb u q _=>?_,
  λb xs q=>by rw[za (hm b _ q λz=>z)];exact q,λb u xs q=>by rw[za (hm b _ q λz=>z)];exact q,λb ps q=>⟨#[],by rw[za (hm b _ q λz=>z),q];simp⟩⟩
 by_cases hbe:b=e
 ·subst hbe;exact heo
 ·exact⟨u,k b u hbe q⟩
end
noncomputable def trk (h:Heap)(H:Hp):List Addr:=(List.range h.objs.size).filter λa=>(H a).isSome
noncomputable def xY (h:Heap)(H:Hp):Heap:=PySem.W.hideAll h (trk h H)
theorem Wj(h:Heap)(H:Hp):(xY h H).objs.size=h.objs.size:=PySem.W.hideAll_size _ _
theorem VO{h:Heap}{H:Hp}{b:Addr}{o:Obj}(e:h.get? b=some o)(n:H b=none):(xY h H).get? b=some o:=
 PySem.W.hideAll_get _ e λhm=>by
  have q:(H b).isSome=true:=(List.mem_filter.mp hm).2
  rw[n] at q;simp at q
theorem Kr{h:Heap}{H:Hp}{b:Addr}{o:Obj}(e:(xY h H).get? b=some o):h.get? b=some o/\H b=none:=by
 have e':h.get? b=some o:=PySem.W.of_hideAll (trk h H) e
 refine⟨e',?_⟩
 cases q:H b with
 |none=>rfl
 |some x=>
  have hm:b∈trk h H:=List.mem_filter.mpr ⟨List.mem_range.mpr (Heap.lt_size e'),by simp[q]⟩
  have z:(xY h H).get? b=none:=PySem.W.hideAll_none (trk h H) hm
  rw[z] at e;cases e
noncomputable def X8(g h:Heap)(L:Addr):List (Addr×Obj):=(List.range h.objs.size).filterMap λa=>if a=L\/(g.get? a).isSome=true then none else (h.get? a).map λo=>(a,o)
noncomputable def rest (g h:Heap)(L d:Addr):List (Addr×Obj):=(X8 g h L).filter λp=>decide (p.1≠d)
end L2
namespace L2
open PySem PySem.Spec PyProof.Rows
structure Mod(K:PySem.W.Frag)(mg:Str->Option Value)(base:Heap):Prop where
 kin:K.In base
 glob:base.Ns mainGlobals mg
 blt:∃mb,base.Ns builtinsNs mb/\∀x:Str,x≠"__name__"->mb x=bootBuiltins x
 nolimit:base.NoLimit
structure Cx where
 prog:Program
 w:World
 K:PySem.W.Frag
 mg:Str->Option Value
 base:Heap
 A:Around
 N:List Str
 s₀:Shared
 H₀:Hp
 env:Env
 outer:List Env
 stack:List Env
 ex:List Addr
 fn:Str->Bool
 calm:Bool
 pn:List (Addr×Obj)
 xe:Value->Shared->Prop
noncomputable def frs(l:List Env):List Addr:=l.filterMap (·.frame)
noncomputable abbrev Cx.fs(X:Cx):List Addr:=frs X.outer
noncomputable def Vis(sc:Scope)(x:Str):Prop:=sc.names.lookup x=some .local\/sc.names.lookup x=some .cell\/sc.names.lookup x=some .free
noncomputable def Loc(sc:Scope)(x:Str):Prop:=sc.names.lookup x=some .local\/sc.names.lookup x=some .cell
noncomputable def Look(env:Env)(h:Heap)(m:Str->Option Value)(x:Str)(u:Value):Prop:=
 (env.kindOf x=some .local/\m x=some u)\/((env.kindOf x=some .cell\/env.kindOf x=some .free)/\∃c,env.cells.lookup x=some c/\h.IsCell c (some u))
structure Cx.Ok(X:Cx):Prop where
 mod:Mod X.K X.mg X.base
 kind:X.env.scope.kind=.function
 glob:X.env.globals=mainGlobals
 blt:X.env.builtins=builtinsNs
 above:X.s₀.heap.objs.size<=X.env.locals
 inj:∀x y c,X.env.cells.lookup x=some c->X.env.cells.lookup y=some c->x=y
 has:∀x,(X.env.kindOf x=some .cell\/X.env.kindOf x=some .free)->∃c,X.env.cells.lookup x=some c
 cab:∀x c,X.fn x=true->X.env.cells.lookup x=some c->X.s₀.heap.objs.size<=c
 hd:X.calm=true->X.A.handled=none
 frames:X.A.frames=some X.stack
 stk:X.stack=X.outer\/(X.stack=X.env::X.outer/\X.env.frame=some X.env.locals)
 exf:∀b∈X.ex,b≠X.env.locals/\∀x c,X.env.cells.lookup x=some c->c≠b
 bs:∀b o,X.base.get? b=some o->X.s₀.heap.get? b=some o/\X.H₀ b=none
 bsz:X.base.objs.size<=X.s₀.heap.objs.size
 noex:∀b o,X.base.get? b=some o->b∉X.ex
 exfs:∀b∈X.ex,b∉X.fs
 funs:X.s₀.heap.FunFrames X.base X.outer
 frf:∀b∈X.fs,X.H₀ b=none
structure Inv(X:Cx)(pins:List (Addr×Obj))(σ:List (Option V))(H:Hp)(s:Shared):Prop where
 ok:X.Ok
 os:s.os=X.s₀.os
 bare:AllBare s.gens
 base:Un X.fs X.ex X.H₀ H X.s₀.heap s.heap
 loc:∃m,s.heap.Ns X.env.locals m/\∀(i:Nat) (x:Str) (v:V),X.N[i]?=some x->σ[i]?=some (some v)->Vis X.env.scope x->∃u,RelV v u/\Look X.env s.heap m x u
 cell:∀x c,X.env.cells.lookup x=some c->∃v,s.heap.IsCell c v
 free:H X.env.locals=none
 freeC:∀x c,X.env.cells.lookup x=some c->H c=none\/(X.fn x=false/\∃o u,H c=some (.frz o u))
 pin:∀p∈X.pn++pins,s.heap.get? p.1=some p.2/\H p.1=none/\p.1≠X.env.locals/\p.1∉X.fs/\∀v,p.2.data≠.cell v
 hok:HOk X.prog X.w H s.heap
 len:σ.length=X.N.length
section
variable {X:Cx}{pins:List (Addr×Obj)}{σ:List (Option V)}{H H':Hp}{s:Shared}{h':Heap}
theorem Cx.Ok.nofr(ok:X.Ok){b:Addr}{o:Obj}(e:X.base.get? b=some o):b∉X.fs:=λhb=>by
 have:=(ok.funs.mem hb).1
 rw[e] at this;cases this
theorem Inv.bs(I:Inv X pins σ H s):∀b o,X.base.get? b=some o->s.heap.get? b=some o/\H b=none:=λb o e=>
 ⟨I.base.keep b o (I.ok.bs b o e).1 (I.ok.bs b o e).2 (I.ok.nofr e) (I.ok.noex b o e),I.base.free b o (I.ok.bs b o e).1 (I.ok.bs b o e).2 (I.ok.noex b o e)⟩
theorem Inv.bk(I:Inv X pins σ H s):∀b o,X.base.get? b=some o->s.heap.get? b=some o:=λb o e=>(I.bs b o e).1
theorem Inv.mod(I:Inv X pins σ H s):Mod X.K X.mg X.base:=I.ok.mod
theorem Inv.kIn(I:Inv X pins σ H s):X.K.In s.heap:=I.ok.mod.kin.keeps I.bk
theorem Inv.lt(I:Inv X pins σ H s):X.env.locals<s.heap.objs.size:=let ⟨_,hn,_⟩:=I.loc;hn.lt
theorem Inv.sz(I:Inv X pins σ H s):X.s₀.heap.objs.size<=s.heap.objs.size:=Nat.le_trans I.ok.above (Nat.le_of_lt I.lt)
theorem Inv.nofs(I:Inv X pins σ H s){a:Addr}(h:s.heap.objs.size<=a):a∉X.fs:=λhb=>by
 obtain⟨_,o,ho,_⟩:=I.ok.funs.mem hb
 exact absurd (Nat.lt_of_lt_of_le (Heap.lt_size ho) (Nat.le_trans I.sz h)) (Nat.lt_irrefl _)
theorem Inv.cne(I:Inv X pins σ H s):∀x c,X.env.cells.lookup x=some c->c≠X.env.locals:=λx c e z=>by
 obtain⟨v,o,ho,hd⟩:=I.cell x c e
 obtain⟨m,⟨o',es,ep,ho',hd',_⟩,_⟩:=I.loc
 rw[z,ho'] at ho;cases ho;rw[hd'] at hd;cases hd
theorem Inv.funs(I:Inv X pins σ H s):s.heap.FunFrames X.base X.outer:=by
 have all:∀(l:List Env),(∀b∈frs l,b∈X.fs)->X.s₀.heap.FunFrames X.base l->s.heap.FunFrames X.base l:=by
  intro l
  induction l with
  |nil=>intro _ _;trivial
  |cons env r ih=>
   intro hs hl
   obtain⟨hk,⟨L,o,hf,hn,ho,hd⟩,hr⟩:=hl
   have hL:L∈X.fs:=hs L (by unfold frs;rw[List.filterMap_cons,hf];exact List.mem_cons_self)
   obtain⟨sl,e⟩:=I.base.slot L o ho (I.ok.frf L hL) hL λz=>I.ok.exfs L z hL
   exact⟨hk,⟨L,_,hf,hn,e,hd⟩,ih (λb hb=>hs b (by unfold frs;rw[List.filterMap_cons,hf];exact List.mem_cons_of_mem _ hb)) hr⟩
 exact all X.outer (λ_ hb=>hb) I.ok.funs
theorem Inv.stack(I:Inv X pins σ H s):s.heap.FunFrames X.base X.stack:=by
 rcases I.ok.stk with e|⟨e,hf⟩
 ·rw[e];exact I.funs
 ·rw[e]
  obtain⟨m,hn,_⟩:=I.loc
  refine .cons (by rw[I.ok.kind];decide) hf hn ?_ I.funs
  exact Heap.get?_none_of_le (Nat.le_trans I.ok.bsz I.ok.above)
theorem Inv.stkSub(I:Inv X pins σ H s):∀b∈frs X.stack,b∈X.env.locals::X.fs:=λb hb=>by
 rcases I.ok.stk with e|⟨e,hf⟩
 ·rw[e] at hb;exact List.mem_cons_of_mem _ hb
 ·rw[e] at hb
  unfold frs at hb
  rw[List.filterMap_cons,hf] at hb
  exact hb
theorem Inv.stkFree(I:Inv X pins σ H s):∀b∈frs X.stack,H b=none:=λb hb=>by
 rcases List.mem_cons.mp (I.stkSub b hb) with e|hb
 ·rw[e];exact I.free
 ·obtain⟨_,o,ho,_⟩:=I.ok.funs.mem hb
  exact I.base.free b o ho (I.ok.frf b hb) λz=>I.ok.exfs b z hb
theorem Inv.step{g':Array GenState}{t':Nat}{d':Drawn}{ch:List Addr}(I:Inv X pins σ H s)
  (hch:∀b∈ch,(b∈X.ex\/X.s₀.heap.objs.size<=b)/\b≠X.env.locals/\(∀x c,X.env.cells.lookup x=some c->c≠b)/\∀p∈X.pn++pins,p.1≠b)
  (keep:∀b o,b≠X.env.locals->b∉X.fs->b∉ch->s.heap.get? b=some o->H b=none->h'.get? b=some o)
  (slot:∀b o,b≠X.env.locals->b∈X.fs->b∉ch->s.heap.get? b=some o->H b=none->∃sl,h'.get? b=some {o with slots:=sl}) (free:∀b o,b∉ch->s.heap.get? b=some o->H b=none->H' b=none)
  (there:∀b o,b∉ch->s.heap.get? b=some o->∃o',h'.get? b=some o')
  (tups:∀b xs,H b=some (.tup xs)->H' b=some (.tup xs)) (frzs:∀b o u,H b=some (.frz o u)->H' b=some (.frz o u)) (tbls:∀b ps,H b=some (.tbl ps)->∃more,H' b=some (.tbl (ps++more)))
  (ns:∀m,s.heap.Ns X.env.locals m->h'.Ns X.env.locals m) (hok:HOk X.prog X.w H' h') (hg:AllBare g') :
  Inv X pins σ H' {s with heap:=h',gens:=g',drawn:=d',toks:=t'}:=by
 have neL:∀b o,X.s₀.heap.get? b=some o->b≠X.env.locals:=λb o e=>Nat.ne_of_lt (Nat.lt_of_lt_of_le (Heap.lt_size e) I.ok.above)
 have neC:∀b o,X.s₀.heap.get? b=some o->b∉X.ex->b∉ch:=λb o e hx hb=>by
  rcases (hch b hb).1 with z|z
  ·exact hx z
  ·exact absurd (Nat.lt_of_lt_of_le (Heap.lt_size e) z) (Nat.lt_irrefl _)
 have cellK:∀x c,X.env.cells.lookup x=some c->∀v,s.heap.IsCell c v->h'.IsCell c v:=λx c e v ⟨o,ho,hd⟩=>by
  have nch:c∉ch:=λz=>(hch c z).2.2.1 x c e rfl
  rcases I.freeC x c e with f|⟨_,ob,u,f⟩
  ·by_cases hc:c∈X.fs
   ·obtain⟨sl,q⟩:=slot c o (I.cne x c e) hc nch ho f
    exact⟨_,q,hd⟩
   ·exact⟨o,keep c o (I.cne x c e) hc nch ho f,hd⟩
  ·have h1:=(I.hok c _ f).1
   rw[ho] at h1;cases h1
   exact⟨o,(hok c _ (frzs c _ u f)).1,hd⟩
 refine⟨I.ok,I.os,hg,⟨λb o e n hb hx=>?_,λb o e n hb hx=>?_,λb o e n hx=>?_,λb o e hx=>?_,λb xs e=>tups b xs (I.base.tups b xs e),λb o xs e=>frzs b o xs (I.base.frzs b o xs e),λb ps e=>?_⟩,?_,λx c e=>?_,?_,λx c e=>?_,λp hp=>?_,hok,I.len⟩
 ·exact keep b o (neL b o e) hb (neC b o e hx) (I.base.keep b o e n hb hx) (I.base.free b o e n hx)
 ·obtain⟨sl,e1⟩:=I.base.slot b o e n hb hx
  obtain⟨sl',e2⟩:=slot b _ (neL b o e) hb (neC b o e hx) e1 (I.base.free b o e n hx)
  exact⟨sl',e2⟩
 ·obtain⟨o',e1⟩:=I.base.there b o e hx
  exact free b o' (neC b o e hx) e1 (I.base.free b o e n hx)
 ·obtain⟨o',e1⟩:=I.base.there b o e hx
  exact there b o' (neC b o e hx) e1
 ·obtain⟨m1,e1⟩:=I.base.tbls b ps e
  obtain⟨m2,e2⟩:=tbls b _ e1
  exact⟨m1++m2,by rw[e2,Array.append_assoc]⟩
 ·obtain⟨m,hn,hl⟩:=I.loc
  refine⟨m,ns m hn,λi x v e1 e2 e3=>?_⟩
  obtain⟨u,r,l⟩:=hl i x v e1 e2 e3
  refine⟨u,r,?_⟩
  rcases l with l|⟨k,c,e,z⟩
  ·exact .inl l
  ·exact .inr ⟨k,c,e,cellK x c e _ z⟩
 ·obtain⟨v,z⟩:=I.cell x c e
  exact⟨v,cellK x c e v z⟩
 ·obtain⟨m,⟨o,_,_,ho,_⟩,_⟩:=I.loc
  exact free _ o (λz=>(hch _ z).2.1 rfl) ho I.free
 ·obtain⟨v,o,ho,hd⟩:=I.cell x c e
  exact (I.freeC x c e).imp (free c o (λz=>(hch c z).2.2.1 x c e rfl) ho) λ⟨n,ob,u,f⟩=>⟨n,ob,u,frzs c ob u f⟩
 ·obtain⟨e,n,ne,nf,d⟩:=I.pin p hp
  have nch:p.1∉ch:=λz=>(hch p.1 z).2.2.2 p hp rfl
  exact⟨keep p.1 p.2 ne nf nch e n,free p.1 p.2 nch e n,ne,nf,d⟩
theorem Inv.un{t':Nat}(I:Inv X pins σ H s)(u:Un X.fs [] H H' s.heap h')(hok:HOk X.prog X.w H' h'):Inv X pins σ H' {s with heap:=h',toks:=t'}:=by
 obtain⟨m,⟨o,es,ep,ho,r⟩,_⟩:=id I.loc
 obtain⟨sl,hL⟩:=u.any ho I.free (by simp)
 exact I.step (g':=s.gens) (d':=s.drawn) (ch:=[]) (λ_ z=>nomatch z) (λb o _ hb _ e n=>u.keep b o e n hb (by simp)) (λb o _ hb _ e n=>u.slot b o e n hb (by simp)) (λb o _ e n=>u.free b o e n (by simp)) (λb o _ e=>u.there b o e (by simp)) u.tups u.frzs u.tbls (λm' hm=>by
  obtain⟨o',es',ep',ho',r'⟩:=hm
  rw[ho] at ho';cases ho'
  exact⟨_,es',ep',hL,r'⟩) hok I.bare
theorem Inv.call{g':Array GenState}{t':Nat}{d':Drawn}{ch:List Addr}(I:Inv X pins σ H s)(u:Un (frs X.stack) ch H H' s.heap h')(hok:HOk X.prog X.w H' h')(hg:AllBare g')
  (hch:∀b∈ch,(b∈X.ex\/X.s₀.heap.objs.size<=b)/\b≠X.env.locals/\(∀x c,X.env.cells.lookup x=some c->c≠b)/\∀p∈X.pn++pins,p.1≠b) :
  Inv X pins σ H' {s with heap:=h',gens:=g',drawn:=d',toks:=t'}:=by
 obtain⟨m,⟨o,es,ep,ho,r⟩,_⟩:=id I.loc
 obtain⟨sl,hL⟩:=u.any ho I.free λz=>(hch _ z).2.1 rfl
 exact I.step (ch:=ch) hch (λb o hL hb hc e n=>u.keep b o e n (λz=>(List.mem_cons.mp (I.stkSub b z)).elim hL hb) hc) (λb o _ _ hc e n=>u.any e n hc) (λb o hc e n=>u.free b o e n hc) (λb o hc e=>u.there b o e hc) u.tups u.frzs u.tbls (λm' hm=>by
  obtain⟨o',es',ep',ho',r'⟩:=hm
  rw[ho] at ho';cases ho'
  exact⟨_,es',ep',hL,r'⟩) hok hg
theorem Inv.turned{t':Nat}{it:Addr}(I:Inv X pins σ H s)(k:∀b o,b≠it->s.heap.get? b=some o->h'.get? b=some o)(hn:H it=none)(hL:it≠X.env.locals)
  (h1:it∈X.ex\/X.s₀.heap.objs.size<=it) (h2:∀x c,X.env.cells.lookup x=some c->c≠it) (h3:∀p∈X.pn++pins,p.1≠it):Inv X pins σ H {s with heap:=h',toks:=t'}:=by
 have nit:∀b u,H b=some u->b≠it:=λb u e z=>by rw[z,hn] at e;cases e
 refine I.step (g':=s.gens) (d':=s.drawn) (ch:=[it]) (λb hb=>?_) (λb o _ _ hc e _=>k b o (λz=>hc (by simp[z])) e) (λb o _ _ hc e _=>⟨o.slots,k b o (λz=>hc (by simp[z])) e⟩) (λ_ _ _ _ n=>n)
  (λb o hc e=>⟨o,k b o (λz=>hc (by simp[z])) e⟩) (λ_ _ e=>e) (λ_ _ _ e=>e) (λb ps e=>⟨#[],by rw[e];simp⟩) (λm hm=>?_) (λb u e=>?_) I.bare
 ·have e:b=it:=by simpa using hb
  subst e
  exact⟨h1,hL,h2,h3⟩
 ·obtain⟨o,es,ep,ho,r⟩:=hm
  exact⟨o,es,ep,k _ o (Ne.symm hL) ho,r⟩
 ·refine (I.hok b u e).stay (λc v hc q=>k c v ?_ q) (λ_ q=>q) λ_ _ q=>q
  rcases hc with z|z
  ·rw[z];exact nit b u e
  ·exact nit c _ z
theorem Inv.tok(I:Inv X pins σ H s)(t:Nat):Inv X pins σ H {s with toks:=t}:=I.un (h':=s.heap) (t':=t) Un.refl I.hok
theorem Inv.kept{t':Nat}(I:Inv X pins σ H s)(k:∀b u,s.heap.get? b=some u->h'.get? b=some u):Inv X pins σ H {s with heap:=h',toks:=t'}:=I.un (Un.kept k) (I.hok.kept k)
theorem Inv.laid{a:Addr}{o:HO}{t':Nat}(I:Inv X pins σ H s)(k:∀b u,s.heap.get? b=some u->h'.get? b=some u)(hp:s.heap.objs.size<=a)(new:ObjOk X.prog X.w (upd H a o) h' a o) :
  Inv X pins σ (upd H a o) {s with heap:=h',toks:=t'}:=I.un (Un.laid k hp (I.hok.fresh hp)) (I.hok.laid k hp new)
theorem Inv.write{x e:Addr}{o:HO}{t':Nat}(I:Inv X pins σ H s)(mu:Mut (H x))(he:e=x\/H e=some (.own x))(k:∀b u,b≠e->s.heap.get? b=some u->h'.get? b=some u)(heo:∃u,h'.get? e=some u)
  (new:ObjOk X.prog X.w (upd H x o) h' x o):Inv X pins σ (upd H x o) {s with heap:=h',toks:=t'}:=I.un (Un.write mu he k heo) (I.hok.write mu he k heo new)
theorem Inv.pins_of{pins':List (Addr×Obj)}(I:Inv X pins σ H s)(h:∀p∈pins',s.heap.get? p.1=some p.2/\H p.1=none/\p.1≠X.env.locals/\p.1∉X.fs/\∀v,p.2.data≠.cell v):Inv X pins' σ H s:=
 ⟨I.ok,I.os,I.bare,I.base,I.loc,I.cell,I.free,I.freeC,λp hp=>(List.mem_append.mp hp).elim (λz=>I.pin p (List.mem_append_left _ z)) (h p),I.hok,I.len⟩
theorem kH{N:List Str}(hN:N.Nodup){i j:Nat}{x:Str}(a:N[i]?=some x)(b:N[j]?=some x):i=j:=by
 obtain⟨h1,e1⟩:=List.getElem?_eq_some_iff.mp a
 obtain⟨h2,e2⟩:=List.getElem?_eq_some_iff.mp b
 exact (List.getElem_inj hN).mp (e1.trans e2.symm)
theorem WK{M:Model}{A:Around}{E:Value->Shared->Prop}{i:Nat}{x:Str}{v:V}{u:Value}{Q:Unit->Shared->Prop}(I:Inv X pins σ H s)(hN:X.N.Nodup)(hi:X.N[i]?=some x)(hx:Loc X.env.scope x)(r:RelV v u)
  (h:∀s',Inv X pins (σ.set i (some v)) H s'->(∃a,Heap.SameBut a s.heap s'.heap/\(a=X.env.locals\/X.env.cells.lookup x=some a))->Q () s') (hf:X.fn x=true\/X.env.scope.names.lookup x=some .local:=by first|exact .inl rfl|exact .inr rfl|assumption):wpAny M A (storeName X.env x u) Q E s:=by
 obtain⟨m,hn,hl⟩:=id I.loc
 have hcls:(X.env.scope.kind == .class || (X.env.scope.kind == .module&&X.env.locals != X.env.globals))=false:=by rw[I.ok.kind];rfl
 have hiσ:i<σ.length:=by rw[I.len];exact (List.getElem?_eq_some_iff.mp hi).1
 have cne:=I.cne
 have tracked:∀{a:Addr} {h':Heap},(∃o,s.heap.get? a=some o/\H a=none)->Heap.SameBut a s.heap h'->HOk X.prog X.w H h':=λ{a h'} ha hs b ob e=>by
  obtain⟨_,_,hfree⟩:=ha
  refine (I.hok b ob e).stay (λc w' hc q=>(hs.2 c ?_).trans q) (λ_ q=>q) λ_ _ q=>q
  rintro rfl
  rcases hc with rfl|hc
  ·rw[hfree] at e;cases e
  ·rw[hfree] at hc;cases hc
 rcases hx with hk|hk
 ·refine wpAny_storeName_local hk hn (λh' hn' hs=>?_) hcls
  obtain⟨oL,_,_,hoL,_⟩:=id hn
  refine h _ ⟨I.ok,I.os,I.bare,⟨λb o e n hb hx=>?_,λb o e n hb hx=>?_,I.base.free,λb o e hx=>?_,I.base.tups,I.base.frzs,I.base.tbls⟩,⟨_,hn',λj y v' e1 e2 e3=>?_⟩,λy c e=>?_,I.free,I.freeC,λp hp=>?_,tracked ⟨oL,hoL,I.free⟩ hs,by simpa using I.len⟩ ⟨_,hs,.inl rfl⟩
  ·exact (hs.2 b (Nat.ne_of_lt (Nat.lt_of_lt_of_le (Heap.lt_size e) I.ok.above))).trans (I.base.keep b o e n hb hx)
  ·obtain⟨sl,e1⟩:=I.base.slot b o e n hb hx
   exact⟨sl,(hs.2 b (Nat.ne_of_lt (Nat.lt_of_lt_of_le (Heap.lt_size e) I.ok.above))).trans e1⟩
  ·obtain⟨o',e1⟩:=I.base.there b o e hx
   exact⟨o',(hs.2 b (Nat.ne_of_lt (Nat.lt_of_lt_of_le (Heap.lt_size e) I.ok.above))).trans e1⟩
  ·by_cases hj:j=i
   ·subst hj
    rw[hi] at e1;cases e1
    rw[List.getElem?_set_self hiσ] at e2
    cases e2
    exact⟨u,r,.inl ⟨hk,by simp⟩⟩
   ·rw[List.getElem?_set_ne (Ne.symm hj)] at e2
    obtain⟨u',r',q⟩:=hl j y v' e1 e2 e3
    refine⟨u',r',?_⟩
    rcases q with⟨k,e⟩|⟨k,c,e,z⟩
    ·refine .inl ⟨k,?_⟩
     have:y≠x:=λe=>hj (kH hN e1 (e▸hi))
     simp[this,e]
    ·exact .inr ⟨k,c,e,z.sameBut hs (cne y c e)⟩
  ·obtain⟨w',z⟩:=I.cell y c e
   exact⟨w',z.sameBut hs (cne y c e)⟩
  ·obtain⟨e,n,ne,nf,d⟩:=I.pin p hp
   exact⟨(hs.2 p.1 ne).trans e,n,ne,nf,d⟩
 ·have hfn:X.fn x=true:=by
   rcases hf with z|z
   ·exact z
   ·rw[z] at hk;cases hk
  obtain⟨c,hc⟩:=I.ok.has x (.inl hk)
  obtain⟨w',z⟩:=I.cell x c hc
  refine wpAny_storeName_cell I.ok.kind hk hc z (λh' hc' hs=>?_)
  obtain⟨oc,hoc,hocd⟩:=id z
  refine h {s with heap:=h'} ⟨I.ok,I.os,I.bare,⟨λb o e n hb hx=>?_,λb o e n hb hx=>?_,I.base.free,λb o e hx=>?_,I.base.tups,I.base.frzs,I.base.tbls⟩,⟨m,hn.sameBut hs (Ne.symm (cne x c hc)),λj y v' e1 e2 e3=>?_⟩,λy c' e=>?_,I.free,I.freeC,λp hp=>?_,tracked ⟨oc,hoc,(I.freeC x c hc).resolve_right λz=>by rw[hfn] at z;cases z.1⟩ hs,by simpa using I.len⟩ ⟨c,hs,.inr hc⟩
  ·exact (hs.2 b (Nat.ne_of_lt (Nat.lt_of_lt_of_le (Heap.lt_size e) (I.ok.cab x c hfn hc)))).trans (I.base.keep b o e n hb hx)
  ·obtain⟨sl,e1⟩:=I.base.slot b o e n hb hx
   exact⟨sl,(hs.2 b (Nat.ne_of_lt (Nat.lt_of_lt_of_le (Heap.lt_size e) (I.ok.cab x c hfn hc)))).trans e1⟩
  ·obtain⟨o',e1⟩:=I.base.there b o e hx
   exact⟨o',(hs.2 b (Nat.ne_of_lt (Nat.lt_of_lt_of_le (Heap.lt_size e) (I.ok.cab x c hfn hc)))).trans e1⟩
  ·by_cases hj:j=i
   ·subst hj
    rw[hi] at e1;cases e1
    rw[List.getElem?_set_self hiσ] at e2
    cases e2
    exact⟨u,r,.inr ⟨.inl hk,c,hc,hc'⟩⟩
   ·rw[List.getElem?_set_ne (Ne.symm hj)] at e2
    obtain⟨u',r',q⟩:=hl j y v' e1 e2 e3
    refine⟨u',r',?_⟩
    rcases q with q|⟨k,c',e,z'⟩
    ·exact .inl q
    ·refine .inr ⟨k,c',e,z'.sameBut hs ?_⟩
     rintro rfl
     exact hj (kH hN e1 (I.ok.inj _ _ _ e hc▸hi))
  ·by_cases hcc:c'=c
   ·subst hcc;exact⟨_,hc'⟩
   ·obtain⟨w2,z2⟩:=I.cell y c' e
    exact⟨w2,z2.sameBut hs hcc⟩
  ·obtain⟨e,n,ne,nf,d⟩:=I.pin p hp
   refine⟨(hs.2 p.1 ?_).trans e,n,ne,nf,d⟩
   intro q
   rw[q,hoc] at e
   have q':oc=p.2:=Option.some.inj e
   exact d w' (by rw[←q'];exact hocd)
theorem uK{M:Model}{A:Around}{E:Value->Shared->Prop}{i:Nat}{x:Str}{v:V}{u:Value}{Q:Unit->Shared->Prop}(I:Inv X pins σ H s)(hN:X.N.Nodup)(hi:X.N[i]?=some x)(hx:Loc X.env.scope x)(r:RelV v u)
  (h:∀s',Inv X pins (σ.set i (some v)) H s'->Q () s') (hf:X.fn x=true\/X.env.scope.names.lookup x=some .local:=by first|exact .inl rfl|exact .inr rfl|assumption):wpAny M A (storeName X.env x u) Q E s:=
 WK I hN hi hx r (λs' I' _=>h s' I') hf
theorem Inv.call'{s':Shared}{ch:List Addr}(I:Inv X pins σ H s)(ho:s'.os=s.os)(u:Un (frs X.stack) ch H H' s.heap s'.heap)(hok:HOk X.prog X.w H' s'.heap)(hg:AllBare s'.gens)
  (hch:∀b∈ch,(b∈X.ex\/X.s₀.heap.objs.size<=b)/\b≠X.env.locals/\(∀x c,X.env.cells.lookup x=some c->c≠b)/\∀p∈X.pn++pins,p.1≠b):Inv X pins σ H' s':=by
 obtain⟨h',g',d',t',o'⟩:=s'
 have e:o'=s.os:=ho
 subst e
 exact I.call (g':=g') (t':=t') (d':=d') u hok hg hch
end
noncomputable abbrev XK:=Value->Option Addr->Hp->Prop
noncomputable abbrev St:=List (Option V)
noncomputable abbrev VK:=V->Hp->Prop
noncomputable abbrev TE:=St->Hp->VK->Prop
noncomputable abbrev TT:=St->Hp->(Bool->Hp->Prop)->Prop
noncomputable abbrev TA:=St->Hp->(List V->Hp->Prop)->Prop
structure Ends where
 nx:St->Hp->Prop
 rt:VK
 bk:St->Hp->Prop:=λ_ _=>False
 ct:St->Hp->Prop:=λ_ _=>False
noncomputable abbrev TS:=Ends->St->Hp->Prop
inductive EP(X:Cx)(pins:List (Addr×Obj))(σ:St)(Q:VK)(u:Value)(s':Shared):Prop where
 |mk (v:V) (H':Hp) (i:Inv X pins σ H' s') (r:RelV v u) (q:Q v H')
inductive TP(X:Cx)(pins:List (Addr×Obj))(σ:St)(Q:Bool->Hp->Prop)(b:Bool)(s':Shared):Prop where
 |mk (H':Hp) (i:Inv X pins σ H' s') (q:Q b H')
inductive AP(X:Cx)(pins:List (Addr×Obj))(σ:St)(Q:List V->Hp->Prop)(us:List Value)(s':Shared):Prop where
 |mk (vs:List V) (H':Hp) (i:Inv X pins σ H' s') (r:Vals vs us) (q:Q vs H')
noncomputable def SP (X:Cx)(pins:List (Addr×Obj))(D:Ends)(f:Flow)(s':Shared):Prop:=
 match f with
 |.next=>∃σ' H',Inv X pins σ' H' s'/\D.nx σ' H'
 |.brk=>∃σ' H',Inv X pins σ' H' s'/\D.bk σ' H'
 |.cont=>∃σ' H',Inv X pins σ' H' s'/\D.ct σ' H'
 |.ret u=>∃v σ' H',Inv X pins σ' H' s'/\RelV v u/\D.rt v H'
noncomputable def PE (X:Cx)(e:Expr)(t:TE):Prop:=
 ∀(pins:List (Addr×Obj)) (s:Shared) (σ:St) (H:Hp) (Q:VK),Inv X pins σ H s->t σ H Q->wpAny (model X.prog X.w) X.A (eval e X.env) (EP X pins σ Q) X.xe s
noncomputable def PT (X:Cx)(e:Expr)(t:TT):Prop:=
 ∀(pins:List (Addr×Obj)) (s:Shared) (σ:St) (H:Hp) (Q:Bool->Hp->Prop),Inv X pins σ H s->t σ H Q->wpAny (model X.prog X.w) X.A (isTrue e X.env (eval e X.env)) (TP X pins σ Q) X.xe s
noncomputable def PW (X:Cx)(e:Expr)(t:TT):Prop:=
 ∀(whole:Sem Value) (pins:List (Addr×Obj)) (s:Shared) (σ:St) (H:Hp) (Q:Bool->Hp->Prop),Inv X pins σ H s->t σ H Q->wpAny (model X.prog X.w) X.A (isTrue e X.env whole) (TP X pins σ Q) X.xe s
theorem PW.pt{X:Cx}{e:Expr}{t:TT}(h:PW X e t):PT X e t:=h _
noncomputable def PA (X:Cx)(es:List Expr)(t:TA):Prop:=
 ∀(pos:Pos) (pins:List (Addr×Obj)) (s:Shared) (σ:St) (H:Hp) (Q:List V->Hp->Prop),Inv X pins σ H s->t σ H Q->wpAny (model X.prog X.w) X.A (spliced (backTo pos (starEach es X.env))) (AP X pins σ Q) X.xe s
noncomputable def PS (X:Cx)(st:Stmt)(t:TS):Prop:=
 ∀(pins:List (Addr×Obj)) (s:Shared) (σ:St) (H:Hp) (D:Ends),Inv X pins σ H s->t D σ H->wpAny (model X.prog X.w) X.A (exec st X.env) (SP X pins D) X.xe s
noncomputable def PSs (X:Cx)(st:List Stmt)(t:TS):Prop:=
 ∀(pins:List (Addr×Obj)) (s:Shared) (σ:St) (H:Hp) (D:Ends),Inv X pins σ H s->t D σ H->wpAny (model X.prog X.w) X.A (execs st X.env) (SP X pins D) X.xe s
theorem thn{α:Type}{t:Sem α}{Q Q':α->Shared->Prop}{M:Model}{A:Around}{E:Value->Shared->Prop}{s:Shared}(h:wpAny M A t Q E s)(hQ:∀a s,Q a s->Q' a s):wpAny M A t Q' E s:=wpAny_mono h hQ λ_ _ x=>x
end L2
namespace L2
open PySem PySem.Spec PyProof.Rows
section
variable {X:Cx}
noncomputable def z1U (i:Nat):TE:=λσ H Q=>∃v,σ[i]?=some (some v)/\Q v H
noncomputable def tC (v:V):TE:=λ_ H Q=>Q v H
theorem jF {i:Nat} {x:Str} {pos:Pos} (hN:X.N[i]?=some x) (hv:Vis X.env.scope x) (hd:(x == ("__debug__":Str))=false:=by decide) (hcd:(x == ("__classdict__":Str))=false:=by decide):PE X (.Name x pos) (z1U i):=by
 intro pins s σ H Q I h
 obtain⟨v,e,h⟩:=h
 obtain⟨m,hn,hl⟩:=I.loc
 obtain⟨u,r,l⟩:=hl i x v hN e hv
 have fin:EP X pins σ Q u s:=⟨v,H,I,r,h⟩
 rcases l with⟨hk,hm⟩|⟨hk,c,hc,hcell⟩
 ·exact wpAny_Name (wpAny_loadName_local I.ok.kind hk hn hm fin) hd
 ·rcases hk with hk|hk
  ·exact wpAny_Name (wpAny_loadName_cell I.ok.kind hk hc hcell fin) hd
  ·exact wpAny_Name (wpAny_loadName_free I.ok.kind hk hc hcell fin hcd) hd
theorem Us{i j pos}:PE X (.Constant (.int i) j pos) (tC (.int i)):=λ_ _ _ H _ I h=>wpAny_Constant_int ⟨.int i,H,I.tok _,⟨_,rfl⟩,h⟩
theorem z0P{b j pos}:PE X (.Constant (.bool b) j pos) (tC (.bl b)):=λ_ _ _ H _ I h=>Constant_bool ⟨.bl b,H,I,rfl,h⟩
theorem UL{j pos}:PE X (.Constant .none j pos) (tC .non):=λ_ _ _ H _ I h=>Constant_none ⟨.non,H,I,rfl,h⟩
theorem yY{x j pos}:PE X (.Constant (.str x) j pos) (tC (.str x)):=λ_ _ _ H _ I h=>Calls.Constant_str ⟨.str x,H,I.tok _,⟨_,rfl⟩,h⟩
noncomputable def Gl(X:Cx)(x:Str):Prop:=X.env.kindOf x=some .globalImplicit
theorem wN{E:Value->Shared->Prop}{pins:List (Addr×Obj)}{s:Shared}{σ:St}{H:Hp}{x:Str}{u:Value}{pos:Pos}{Q:Value->Shared->Prop}(I:Inv X pins σ H s)(hg:Gl X x)(hm:X.mg x=some u)(h:Q u s)
  (hd:(x == ("__debug__":Str))=false:=by decide):wpAny (model X.prog X.w) X.A (eval (.Name x pos) X.env) Q E s:=
 Calls.Name_function_global I.ok.kind hg (Calls.loadGlobal_global (by rw[I.ok.glob];exact I.mod.glob.keeps I.bk) hm h) hd
theorem vS{E:Value->Shared->Prop}{pins:List (Addr×Obj)}{s:Shared}{σ:St}{H:Hp}{x:Str}{u:Value}{pos:Pos}{Q:Value->Shared->Prop}(I:Inv X pins σ H s)(hg:Gl X x)(hm:X.mg x=none)(hv:bootBuiltins x=some u)(h:Q u s)
  (hn:x≠"__name__":=by decide) (hd:(x == ("__debug__":Str))=false:=by decide):wpAny (model X.prog X.w) X.A (eval (.Name x pos) X.env) Q E s:=by
 obtain⟨mb,h1,h2⟩:=I.mod.blt
 exact Calls.Name_function_global I.ok.kind hg (Calls.loadGlobal_builtin (by rw[I.ok.glob];exact I.mod.glob.keeps I.bk) hm (by rw[I.ok.blt];exact h1.keeps I.bk) ((h2 x hn).trans hv) h) hd
theorem W6 {x:Str} {v:V} {u:Value} {pos:Pos} (hg:Gl X x) (hm:X.mg x=some u) (r:RelV v u) (hd:(x == ("__debug__":Str))=false:=by decide):PE X (.Name x pos) (tC v):=
 λ_ _ _ H _ I h=>wN I hg hm ⟨v,H,I,r,h⟩ hd
theorem Kv {x:Str} {v:V} {u:Value} {pos:Pos} (hg:Gl X x) (hm:X.mg x=none) (hv:bootBuiltins x=some u) (r:RelV v u) (hn:x≠"__name__":=by decide) (hd:(x == ("__debug__":Str))=false:=by decide):PE X (.Name x pos) (tC v):=
 λ_ _ _ H _ I h=>vS I hg hm hv ⟨v,H,I,r,h⟩ hn hd
variable {a b:Expr}{ta tb:TE}{pos:Pos}
variable {tA tB':TT}{rest:List Expr}
noncomputable def vx (t u:TT):TT:=λσ H Q=>t σ H λc H1=>if c=true then u σ H1 Q else Q false H1
noncomputable def tOr (t u:TT):TT:=λσ H Q=>t σ H λc H1=>if c=true then Q true H1 else u σ H1 Q
noncomputable def vd (t:TT):TT:=λσ H Q=>t σ H λc H1=>Q (!c) H1
theorem Xj(ha:PT X a tA):PW X (.BoolOp .And [a] pos) tA:=by
 intro wh pins s σ H Q I h
 refine isTrue_and (thn (ha pins s σ H Q I h) λc s1 e=>?_)
 cases c with
 |true=>exact isTrue_and_nil e
 |false=>exact e
theorem Uw(ha:PT X a tA):PW X (.BoolOp .Or [a] pos) tA:=by
 intro wh pins s σ H Q I h
 refine isTrue_or (thn (ha pins s σ H Q I h) λc s1 e=>?_)
 cases c with
 |false=>exact isTrue_or_nil e
 |true=>exact e
theorem z0k(ha:PT X a tA)(hb:PW X (.BoolOp .And (b::rest) pos) tB'):PW X (.BoolOp .And (a::b::rest) pos) (vx tA tB'):=by
 intro wh pins s σ H Q I h
 refine isTrue_and (thn (ha pins s σ H _ I h) λc s1 ⟨H1,I1,q1⟩=>?_)
 cases c with
 |true=>exact hb wh pins s1 σ H1 Q I1 q1
 |false=>exact⟨H1,I1,q1⟩
theorem z0E(ha:PT X a tA)(hb:PW X (.BoolOp .Or (b::rest) pos) tB'):PW X (.BoolOp .Or (a::b::rest) pos) (tOr tA tB'):=by
 intro wh pins s σ H Q I h
 refine isTrue_or (thn (ha pins s σ H _ I h) λc s1 ⟨H1,I1,q1⟩=>?_)
 cases c with
 |true=>exact⟨H1,I1,q1⟩
 |false=>exact hb wh pins s1 σ H1 Q I1 q1
theorem Uk(ha:PT X a tA):PT X (.UnaryOp .Not a pos) (vd tA):=by
 intro pins s σ H Q I h
 exact isTrue_not (thn (ha pins s σ H (λc H1=>Q (!c) H1) I h) λc s' ⟨H',i,q⟩=>⟨H',i,q⟩)
theorem Ya{op}{t:TE}(h:PE X a t):PE X (.BoolOp op [a] pos) t:=λpins s σ H Q I hw=>BoolOp_one (h pins s σ H Q I hw)
end
end L2
namespace L2
open PySem PySem.Spec PyProof.Rows
noncomputable def SqL (K:PySem.W.Frag)(H:Hp)(a:Addr)(xs:List V):Prop:=
 Rd H a (.lst xs)\/
  ∃(o:Obj) (its:Array Value) (n:Nat),K.lookup a=some o/\o.cls=.type "list"/\o.dict=none/\o.data=.seq its n/\its.size<=sizeLine/\Vals xs its.toList
noncomputable def SqT (K:PySem.W.Frag)(H:Hp)(a:Addr)(xs:List V):Prop:=
 Rd H a (.tup xs)\/
  ∃(o:Obj) (its:Array Value) (n:Nat),K.lookup a=some o/\o.cls=.type "tuple"/\o.data=.seq its n/\its.size<=sizeLine/\Vals xs its.toList
noncomputable def z21:Value->Option V
 |.none=>some .non
 |.bool b=>some (.bl b)
 |.int i _=>some (.int i)
 |.str x _=>some (.str x)
 |.bytes b _=>some (.byt b)
 |.float b _=>some (.flt b)
 |.ref a=>some (.ref a)
 |.type n=>some (.ty n)
 |_=>none
theorem RelV.abs{x:V}{u:Value}(r:RelV x u):z21 u=some x:=by
 cases x with
 |non=>cases r;rfl
 |bl _=>cases r;rfl
 |int _=>obtain⟨t,rfl⟩:=r;rfl
 |str _=>obtain⟨t,rfl⟩:=r;rfl
 |byt _=>obtain⟨t,rfl⟩:=r;rfl
 |flt _=>obtain⟨t,rfl⟩:=r;rfl
 |ref _=>cases r;rfl
 |ty _=>cases r;rfl
theorem RelV.inj{x y:V}{u:Value}(r:RelV x u)(q:RelV y u):x=y:=Option.some.inj (r.abs.symm.trans q.abs)
theorem Vals.inj:∀{xs ys:List V} {us:List Value},Vals xs us->Vals ys us->xs=ys
 |_,_,_,.nil,.nil=>rfl
 |_,_,_,.cons r t,.cons r' t'=>by rw[r.inj r',Vals.inj t t']
section
variable {X:Cx}{pins:List (Addr×Obj)}{σ:St}{H:Hp}{s:Shared}{a:Addr}{xs ys:List V}
theorem Inv.list(I:Inv X pins σ H s)(h:SqL X.K H a xs):∃its:List Value,Vals xs its/\PlainL s.heap a its.toArray/\xs.length<=sizeLine:=by
 rcases h with h|⟨o,its,n,hk,hc,hd,hs,hz,r⟩
 ·obtain⟨z,its,n,r,e⟩:=h.ok I.hok
  exact⟨its,r,⟨_,n,e,rfl,rfl,rfl⟩,z⟩
 ·refine⟨its.toList,r,⟨o,n,I.kIn a o hk,hc,hd,by simpa using hs⟩,?_⟩
  have e:=r.length
  simp only[Array.length_toList] at e
  omega
theorem Inv.tuple(I:Inv X pins σ H s)(h:SqT X.K H a xs):∃its:List Value,Vals xs its/\IsTup s.heap a its.toArray/\xs.length<=sizeLine:=by
 rcases h with h|⟨o,its,n,hk,hc,hs,hz,r⟩
 ·obtain⟨z,its,r,p⟩:=h.ok I.hok
  exact⟨its,r,p,z⟩
 ·refine⟨its.toList,r,⟨o,I.kIn a o hk,hc,n,by simpa using hs⟩,?_⟩
  have e:=r.length
  simp only[Array.length_toList] at e
  omega
theorem Inv.list_inj(I:Inv X pins σ H s)(h:SqL X.K H a xs)(h':SqL X.K H a ys):xs=ys:=by
 obtain⟨its,r,⟨o,n,e,_,_,d⟩,_⟩:=I.list h
 obtain⟨its',r',⟨o',n',e',_,_,d'⟩,_⟩:=I.list h'
 rw[e] at e';cases e'
 rw[d] at d'
 injection d' with d1 _
 have:its=its':=by simpa using congrArg Array.toList d1
 subst this
 exact r.inj r'
theorem Inv.tuple_inj(I:Inv X pins σ H s)(h:SqT X.K H a xs)(h':SqT X.K H a ys):xs=ys:=by
 obtain⟨its,r,⟨o,e,_,n,d⟩,_⟩:=I.tuple h
 obtain⟨its',r',⟨o',e',_,n',d'⟩,_⟩:=I.tuple h'
 rw[e] at e';cases e'
 rw[d] at d'
 injection d' with d1 _
 have:its=its':=by simpa using congrArg Array.toList d1
 subst this
 exact r.inj r'
end
noncomputable abbrev Cx.wish(X:Cx)(E:Value->Shared->Prop):Cx:={X with xe:=E}
theorem Cx.Ok.wish{X:Cx}(ok:X.Ok)(E:Value->Shared->Prop):(X.wish E).Ok:=
 ⟨ok.mod,ok.kind,ok.glob,ok.blt,ok.above,ok.inj,ok.has,ok.cab,ok.hd,ok.frames,ok.stk,ok.exf,ok.bs,ok.bsz,ok.noex,ok.exfs,ok.funs,ok.frf⟩
theorem Cx.Ok.unwish{X:Cx}{E:Value->Shared->Prop}(ok:(X.wish E).Ok):X.Ok:=
 ⟨ok.mod,ok.kind,ok.glob,ok.blt,ok.above,ok.inj,ok.has,ok.cab,ok.hd,ok.frames,ok.stk,ok.exf,ok.bs,ok.bsz,ok.noex,ok.exfs,ok.funs,ok.frf⟩
section
variable {X:Cx}{pins:List (Addr×Obj)}{σ:St}{H:Hp}{s:Shared}{E:Value->Shared->Prop}
theorem Inv.wish(I:Inv X pins σ H s)(E:Value->Shared->Prop):Inv (X.wish E) pins σ H s:=⟨I.ok.wish E,I.os,I.bare,I.base,I.loc,I.cell,I.free,I.freeC,I.pin,I.hok,I.len⟩
theorem Inv.unwish(I:Inv (X.wish E) pins σ H s):Inv X pins σ H s:=⟨I.ok.unwish,I.os,I.bare,I.base,I.loc,I.cell,I.free,I.freeC,I.pin,I.hok,I.len⟩
theorem SP.unwish{D:Ends}{f:Flow}{s':Shared}(h:SP (X.wish E) pins D f s'):SP X pins D f s':=by
 cases f with
 |next=>obtain⟨σ',H',I,q⟩:=h;exact⟨σ',H',I.unwish,q⟩
 |brk=>obtain⟨σ',H',I,q⟩:=h;exact⟨σ',H',I.unwish,q⟩
 |cont=>obtain⟨σ',H',I,q⟩:=h;exact⟨σ',H',I.unwish,q⟩
 |ret u=>obtain⟨v,σ',H',I,r,q⟩:=h;exact⟨v,σ',H',I.unwish,r,q⟩
end
section
variable {X:Cx}{st:Stmt}{rest:List Stmt}{t u:TS}{e:Expr}{te:TE}{pos:Pos}
noncomputable def z1i:TS:=λD σ H=>D.nx σ H
noncomputable def z1M (t u:TS):TS:=λD σ H=>t {D with nx:=u D} σ H
theorem Xq:PSs X [] z1i:=λ_ _ σ H _ I h=>wpAny_execs_nil ⟨σ,H,I,h⟩
theorem uJ(h1:PS X st t)(h2:PSs X rest u):PSs X (st::rest) (z1M t u):=by
 intro pins s σ H D I h
 refine wpAny_execs_cons (thn (h1 pins s σ H {D with nx:=u D} I h) λf s1 q=>?_)
 cases f with
 |next=>
  obtain⟨σ',H',I',q⟩:=q
  exact h2 pins s1 σ' H' D I' q
 |ret v=>exact q
 |brk=>exact q
 |cont=>exact q
theorem Xg(h1:PS X st t):PSs X [st] t:=by
 intro pins s σ H D I h
 refine wpAny_execs_cons (thn (h1 pins s σ H D I h) λf s1 q=>?_)
 cases f with
 |next=>exact wpAny_execs_nil q
 |ret v=>exact q
 |brk=>exact q
 |cont=>exact q
theorem Inv.quiet{pins:List (Addr×Obj)}{σ:St}{H:Hp}{s:Shared}(I:Inv X pins σ H s):interactive X.env=false:=by simp[interactive,I.ok.kind]
noncomputable def z1x(te:TE):TS:=λD σ H=>te σ H λ_ H1=>D.nx σ H1
theorem Qr(he:PE X e te)(hs:swapsWith e none pos.line X.env=pure false:=by rfl):PS X (.Expr e pos) (z1x te):=by
 intro pins s σ H D I h
 exact wpAny_Expr_any (thn (he pins s σ H _ I h) λv s1 ⟨x,H1,I1,r1,q1⟩=>⟨σ,H1,I1,q1⟩) I.quiet hs
noncomputable def z1Z (te:TE):TS:=λD σ H=>te σ H D.rt
theorem Ud(he:PE X e te):PS X (.Return (some e) pos) (z1Z te):=by
 intro pins s σ H D I h
 exact wpAny_Return_some (thn (he pins s σ H _ I h) λv s1 ⟨x,H1,I1,r1,q1⟩=>⟨x,σ,H1,I1,r1,q1⟩)
noncomputable def z11:TS:=λD _ H=>D.rt .non H
theorem KW:PS X (.Return none pos) z11:=λ_ _ σ H _ I h=>wpAny_Return_none ⟨.non,σ,H,I,rfl,h⟩
noncomputable def z1T (c:TT)(t u:TS):TS:=λD σ H=>c σ H λb H1=>if b=true then t D σ H1 else u D σ H1
theorem z0B{c:Expr}{a b:List Stmt}{tc:TT}(hc:PT X c tc)(ha:PSs X a t)(hb:PSs X b u):PS X (.If c a b pos) (z1T tc t u):=by
 intro pins s σ H D I h
 refine wpAny_If (thn (hc pins s σ H _ I h) λd s1 ⟨H1,I1,q1⟩=>?_)
 cases d with
 |true=>exact ha pins s1 σ H1 D I1 q1
 |false=>exact hb pins s1 σ H1 D I1 q1
end
noncomputable abbrev TG:=V->St->Hp->(St->Hp->Prop)->Prop
noncomputable abbrev TGs:=List V->St->Hp->(St->Hp->Prop)->Prop
noncomputable def PG (X:Cx)(target:Expr)(t:TG):Prop:=
 ∀(pins:List (Addr×Obj)) (s:Shared) (σ:St) (H:Hp) (v:V) (u:Value) (Q:St->Hp->Prop),Inv X pins σ H s->RelV v u->t v σ H Q->
  wpAny (model X.prog X.w) X.A (assign target X.env u) (λ_ s'=>∃σ' H',Inv X pins σ' H' s'/\Q σ' H') X.xe s
noncomputable def PGs (X:Cx)(ts:List Expr)(t:TGs):Prop:=
 ∀(pins:List (Addr×Obj)) (s:Shared) (σ:St) (H:Hp) (vs:List V) (us:List Value) (Q:St->Hp->Prop),Inv X pins σ H s->Vals vs us->t vs σ H Q->
  wpAny (model X.prog X.w) X.A (assignInOrder ((assignEach ts X.env).map (·.2)) us) (λ_ s'=>∃σ' H',Inv X pins σ' H' s'/\Q σ' H') X.xe s
noncomputable abbrev z0j:=V->V->V->Hp->(Hp->Prop)->Prop
noncomputable def z1t (X:Cx)(t:z0j):Prop:=
 ∀(pins:List (Addr×Obj)) (s:Shared) (σ:St) (H:Hp) (o i v:V) (ov iv u:Value) (Q:Hp->Prop),Inv X pins σ H s->RelV o ov->RelV i iv->RelV v u->t o i v H Q->
  wpAny (model X.prog X.w) X.A (setItem ov iv u) (λ_ s'=>∃H',Inv X pins σ H' s'/\Q H') X.xe s
section
variable {X:Cx}{pos:Pos}
noncomputable def QF(i:Nat):TG:=λv σ H Q=>Q (σ.set i (some v)) H
theorem QM{i:Nat}{x:Str}(hN:X.N.Nodup)(hi:X.N[i]?=some x)(hx:Loc X.env.scope x)(hf:X.fn x=true\/X.env.scope.names.lookup x=some .local:=by first|exact .inl rfl|exact .inr rfl|assumption):PG X (.Name x pos) (QF i):=by
 intro pins s σ H v u Q I r h
 exact wpAny_assign_Name (uK I hN hi hx r (λs' I'=>⟨_,H,I',h⟩) hf)
noncomputable def z0T:TGs:=λvs σ H Q=>vs=[]/\Q σ H
noncomputable def Y1(t:TG)(u:TGs):TGs:=λvs σ H Q=>∃v r,vs=v::r/\t v σ H λσ' H'=>u r σ' H' Q
theorem Xl:PGs X [] z0T:=by
 intro pins s σ H vs us Q I r h
 obtain⟨e,h⟩:=h
 subst e
 cases r
 exact assignInOrder_nil ⟨σ,H,I,h⟩
theorem Vg{e:Expr}{es:List Expr}{t:TG}{u:TGs}(h1:PG X e t)(h2:PGs X es u)
  (hs:(assignEach (e::es) X.env).map (·.2)=assign e X.env::(assignEach es X.env).map (·.2):=by rfl):PGs X (e::es) (Y1 t u):=by
 intro pins s σ H vs us Q I r h
 obtain⟨v,vr,e1,h⟩:=h
 subst e1
 cases r with
 |cons r rr=>
  rw[hs]
  refine assignInOrder_cons (thn (h1 pins s σ H _ _ _ I r h) λ_ s1 ⟨σ1,H1,I1,q1⟩=>?_)
  exact h2 pins s1 σ1 H1 _ _ Q I1 rr q1
noncomputable def z1I (K:PySem.W.Frag)(n:Nat)(t:TGs):TG:=λv σ H Q=>∃a xs,v=.ref a/\SqT K H a xs/\xs.length=n/\t xs σ H Q
theorem YB{es:List Expr}{k:Nat}{t:TGs}{n:Nat}(hc:X.calm=true)(h:PGs X es t)
  (hn:(assignEach es X.env).length=n:=by rfl) (hst:(assignEach es X.env).findIdx? (·.1)=none:=by rfl):PG X (.Tuple es k pos) (z1I X.K n t):=by
 intro pins s σ H v u Q I r hw
 obtain⟨a,xs,e1,hq,hl,hw⟩:=hw
 subst e1
 cases r
 obtain⟨its,rv,ht,hz⟩:=I.tuple hq
 refine assign_Tuple_tuple (I.ok.hd hc) ht (by simp[hn,←hl,rv.length]) hst λh' hx=>?_
 have I1:Inv X pins σ H {s with heap:=h'}:=I.kept (t':=s.toks) λb o e=>hx b o (Nat.ne_of_lt (Heap.lt_size e)) e
 exact h pins _ σ H xs _ Q I1 (by simpa using rv) hw
noncomputable def z1Y (to ti:TE)(t:z0j):TG:=λv σ H Q=>to σ H λo H1=>ti σ H1 λi H2=>t o i v H2 λH3=>Q σ H3
theorem Ua{o i:Expr}{to ti:TE}{t:z0j}(ho:PE X o to)(hi:PE X i ti)(hs:z1t X t)
  (ha:∀v,assign (.Subscript o i pos) X.env v=(do
   let ov ←holding [v] (eval o X.env)
   let iv ←holding [v,ov] (eval i X.env)
   standAt pos
   holding [v,ov,iv] (setItem ov iv v)
   release [v,ov,iv] []):=by intro _;rfl):PG X (.Subscript o i pos) (z1Y to ti t):=by
 intro pins s σ H v u Q I r h
 rw[ha]
 refine wpAny_bind (wpAny_holding (thn (ho pins s σ H _ I h) λov s1 ⟨x,H1,I1,r1,q1⟩=>?_))
 refine wpAny_bind (wpAny_holding (thn (hi pins s1 σ H1 _ I1 q1) λiv s2 ⟨y,H2,I2,r2,q2⟩=>?_))
 refine wpAny_bind (wpAny_standAt (wpAny_bind (wpAny_holding (thn (hs pins s2 σ H2 x y v ov iv u _ I2 r1 r2 r q2) λ_ s3 ⟨H3,I3,q3⟩=>?_))))
 exact wpAny_release ⟨σ,H3,I3,q3⟩
noncomputable def z1a (te:TE)(g:TG):TS:=λD σ H=>te σ H λx H1=>g x σ H1 D.nx
theorem V5{tg e:Expr}{te:TE}{g:TG}(he:PE X e te)(hg:PG X tg g)(hs:swapsWithSole [tg] e pos.line X.env=pure false:=by rfl)(hw:swappedStores [tg] e X.env=pure none:=by rfl)
  (h1:(assignEach [tg] X.env).map (·.2)=[assign tg X.env]:=by rfl):PS X (.Assign [tg] e pos) (z1a te g):=by
 intro pins s σ H D I h
 refine wpAny_Assign_stores (thn (he pins s σ H _ I h) λv s1 ⟨x,H1,I1,r1,q1⟩=>?_) hs hw
 rw[h1]
 exact thn (hg pins s1 σ H1 x v _ I1 r1 q1) λ_ s2 q=>q
theorem YR{i:Nat}{x:Str}{e:Expr}{te:TE}{pos':Pos}(hN:X.N.Nodup)(hi:X.N[i]?=some x)(hx:Loc X.env.scope x)(he:PE X e te)(hs:swapsWith e (some (.Name x pos')) pos.line X.env=pure false:=by rfl)(hf:X.fn x=true\/X.env.scope.names.lookup x=some .local:=by first|exact .inl rfl|exact .inr rfl|assumption) :
  PS X (.Assign [.Name x pos'] e pos) (z1a te (QF i)):=by
 intro pins s σ H D I h
 refine wpAny_Assign_Name (thn (he pins s σ H _ I h) λv s1 ⟨y,H1,I1,r1,q1⟩=>?_) hs
 exact uK I1 hN hi hx r1 (λs2 I2=>⟨_,H1,I2,q1⟩) hf
end
structure It where
 go:Nat->Hp->Prop
 yld:Nat->Hp->V->Hp->Prop
 stop:Nat->Hp->Prop
noncomputable def yS (X:Cx)(pins:List (Addr×Obj))(H:Hp)(b:Addr):Prop:=
 H b=none/\b≠X.env.locals/\b∉X.fs/\(b∈X.ex\/X.s₀.heap.objs.size<=b)/\(∀x c,X.env.cells.lookup x=some c->c≠b)/\∀p∈X.pn++pins,p.1≠b
theorem Inv.fpOk{X:Cx}{pins:List (Addr×Obj)}{σ:St}{H H':Hp}{s:Shared}{b:Addr}(I:Inv X pins σ H s)(hb:s.heap.objs.size<=b)(hn:H' b=none):yS X pins H' b:=by
 refine⟨hn,Nat.ne_of_gt (Nat.lt_of_lt_of_le I.lt hb),I.nofs hb,.inr (Nat.le_trans I.sz hb),λx c e z=>?_,λp hp z=>?_⟩
 ·obtain⟨v,q⟩:=I.cell x c e
  exact absurd (Nat.lt_of_lt_of_le q.lt (by rw[z];exact hb)) (Nat.lt_irrefl _)
 ·exact absurd (Nat.lt_of_lt_of_le (Heap.lt_size (I.pin p hp).1) (by rw[z];exact hb)) (Nat.lt_irrefl _)
structure Turn(P:Program)(w:World)(K:PySem.W.Frag)(tg:Expr)(J:It)(fp:List Addr)(it:Addr)(tn:Nat->Heap->Prop):Prop where
 mem:it∈fp
 obj:∀i h,tn i h->∀b∈fp,∃o,h.get? b=some o/\∀v,o.data≠.cell v
 keep:∀i h h',tn i h->(∀b∈fp,∀o,h.get? b=some o->h'.get? b=some o)->tn i h'
 item:∀(X:Cx),X.prog=P->X.w=w->X.K=K->X.calm=true->∀(i:Nat) (pins:List (Addr×Obj)) (s:Shared) (σ:St) (H:Hp) (E:Value->Shared->Prop),Inv X pins σ H s->(∀b∈fp,yS X pins H b)->tn i s.heap->J.go i H->
  wpAny (model P w) X.A (pyNext (.ref it)) (λr s1=>∃u,r=some u/\
   wpAny (model P w) X.A (letOwnedTupleGo tg (.ref it) u) (λ_ s2=>∃x H',Inv X pins σ H' s2/\RelV x u/\J.yld i H x H'/\tn (i+1) s2.heap/\∀b∈fp,H' b=none) E s1) E s
 done:∀(X:Cx),X.prog=P->X.w=w->X.K=K->X.calm=true->∀(i:Nat) (pins:List (Addr×Obj)) (s:Shared) (σ:St) (H:Hp) (E:Value->Shared->Prop),Inv X pins σ H s->(∀b∈fp,yS X pins H b)->tn i s.heap->J.stop i H->
  wpAny (model P w) X.A (pyNext (.ref it)) (λr s1=>r=none/\Inv X pins σ H s1) E s
 self:∀(A:Around) (i:Nat) (s:Shared) (Q:Value->Shared->Prop) (E:Value->Shared->Prop),tn i s.heap->Q (.ref it) s->wpAny (model P w) A (pyIter (.ref it)) Q E s
noncomputable abbrev TI:=St->Hp->(It->Hp->Prop)->Prop
noncomputable def PIE (X:Cx)(pins:List (Addr×Obj))(σ:St)(tg:Expr)(R:It->Hp->Prop)(itv:Value)(s2:Shared):Prop:=
 ∃(it:Addr) (fp:List Addr) (tn:Nat->Heap->Prop) (J:It) (H':Hp),itv=.ref it/\Inv X pins σ H' s2/\Turn X.prog X.w X.K tg J fp it tn/\tn 0 s2.heap/\(∀b∈fp,yS X pins H' b)/\R J H'
noncomputable def PI (X:Cx)(tg iter:Expr)(wi:TI):Prop:=
 ∀(pins:List (Addr×Obj)) (s:Shared) (σ:St) (H:Hp) (R:It->Hp->Prop),Inv X pins σ H s->wi σ H R->
  wpAny (model X.prog X.w) X.A (eval iter X.env) (λv s1=>wpAny (model X.prog X.w) X.A (pyIter v) (PIE X pins σ tg R) X.xe s1) X.xe s
theorem yE{M:Model}{A:Around}{E:Value->Shared->Prop}{s:Shared}{tg:Expr}{it:Addr}{u:Value}{o:Obj}{n:String}{vs:Array Value}{Q:Unit->Shared->Prop}(ho:s.heap.get? it=some o)(hc:o.cls=.type n)(hd:o.data=.fields vs)
    (hn:["enumerate", "zip", "dict_itemiterator", "dict_reverseitemiterator", "odict_iterator", "itertools.zip_longest", "itertools.pairwise"].contains n=false) (hQ:Q () s):wpAny M A (letOwnedTupleGo tg (.ref it) u) Q E s:=by
  unfold letOwnedTupleGo
  cases tg <;> first
    |exact wpAny_pure hQ
    | (cases u <;> first
        |exact wpAny_pure hQ
        | (refine wpAny_bind (wpAny_load ho ?_)
           rw[hc, hd]
           show wpAny M A (if (["enumerate", "zip", "dict_itemiterator", "dict_reverseitemiterator", "odict_iterator", "itertools.zip_longest", "itertools.pairwise"].contains n&&vs[0]? == some (rawInt _))=true then _ else _) Q E s
           rw[if_neg (by intro h;rw[hn, Bool.false_and] at h;cases h)]
           exact wpAny_pure hQ))
noncomputable def Itl (K:PySem.W.Frag)(a:Addr):It:=
 ⟨λi H=>∃xs x,SqL K H a xs/\xs[i]?=some x,λi H x H'=>H'=H/\∀xs,SqL K H a xs->xs[i]?=some x,λi H=>∃xs,SqL K H a xs/\xs.length<=i⟩
noncomputable def Itt (K:PySem.W.Frag)(a:Addr):It:=
 ⟨λi H=>∃xs x,SqT K H a xs/\xs[i]?=some x,λi H x H'=>H'=H/\∀xs,SqT K H a xs->xs[i]?=some x,λi H=>∃xs,SqT K H a xs/\xs.length<=i⟩
noncomputable def Itr(lo:Int)(n:Nat):It:=⟨λi _=>i<n,λi H x H'=>H'=H/\x=.int (lo+i),λi _=>n<=i⟩
theorem yg{P:Program}{w:World}{K:PySem.W.Frag}{tg:Expr}(a it:Addr):Turn P w K tg (Itl K a) [it] it (λi h=>h.IsListIter it a i) where
 mem:=by simp
 obj:=λi h st b hb=>by
  have e:b=it:=by simpa using hb
  subst e
  obtain⟨o,e,c,d⟩:=st
  exact⟨o,e,λv z=>by rw[d] at z;cases z⟩
 keep:=λi h h' st k=>st.at λo e=>k it (by simp) o e
 item:=by
  intro X hP hw hK hc i pins s σ H E I hf st hg
  subst hP hw hK
  obtain⟨xs,x,hq,hx⟩:=hg
  obtain⟨its,rv,p,hz⟩:=I.list hq
  obtain⟨u,hu,ru⟩:=rv.get hx
  obtain⟨f0,f1,f2,f3,f4,f5⟩:=hf it (by simp)
  refine wpAny_pyNext_list_item st p.isList (x:=u) (by simpa using hu) λh' st' sb=>?_
  have I1:Inv X pins σ H {s with heap:=h'}:=I.turned (t':=s.toks) (λb o hb e=>(sb.2 b hb).trans e) f0 f1 f3 f4 f5
  obtain⟨o,e,c,d⟩:=id st'
  exact⟨u,rfl,yE (s:={s with heap:=h'}) e c d (by decide) ⟨x,H,I1,ru,⟨rfl,λys hy=>by rw[I.list_inj hy hq];exact hx⟩,st',λb hb=>(hf b hb).1⟩⟩
 done:=by
  intro X hP hw hK hc i pins s σ H E I hf st hg
  subst hP hw hK
  obtain⟨xs,hq,hx⟩:=hg
  obtain⟨its,rv,p,hz⟩:=I.list hq
  obtain⟨f0,f1,f2,f3,f4,f5⟩:=hf it (by simp)
  have hl:=rv.length
  exact wpAny_pyNext_list_end (I.ok.hd hc) st p.isList (by simp;omega) λh' eb=>⟨rfl,I.turned (t':=s.toks) (λb o hb e=>eb b o hb e) f0 f1 f3 f4 f5⟩
 self:=λ_ _ _ _ _ st h=>wpAny_pyIter_listiter st h
theorem Qe{P:Program}{w:World}{K:PySem.W.Frag}{tg:Expr}(a it:Addr):Turn P w K tg (Itt K a) [it] it (λi h=>h.IsTupleIter it a i) where
 mem:=by simp
 obj:=λi h st b hb=>by
  have e:b=it:=by simpa using hb
  subst e
  obtain⟨o,e,c,d⟩:=st
  exact⟨o,e,λv z=>by rw[d] at z;cases z⟩
 keep:=λi h h' st k=>st.at λo e=>k it (by simp) o e
 item:=by
  intro X hP hw hK hc i pins s σ H E I hf st hg
  subst hP hw hK
  obtain⟨xs,x,hq,hx⟩:=hg
  obtain⟨its,rv,p,hz⟩:=I.tuple hq
  obtain⟨u,hu,ru⟩:=rv.get hx
  obtain⟨f0,f1,f2,f3,f4,f5⟩:=hf it (by simp)
  refine wpAny_pyNext_tuple_item st (show s.heap.IsTuple a its.toArray from p) (x:=u) (by simpa using hu) λh' st' sb=>?_
  have I1:Inv X pins σ H {s with heap:=h'}:=I.turned (t':=s.toks) (λb o hb e=>(sb.2 b hb).trans e) f0 f1 f3 f4 f5
  obtain⟨o,e,c,d⟩:=id st'
  exact⟨u,rfl,yE (s:={s with heap:=h'}) e c d (by decide) ⟨x,H,I1,ru,⟨rfl,λys hy=>by rw[I.tuple_inj hy hq];exact hx⟩,st',λb hb=>(hf b hb).1⟩⟩
 done:=by
  intro X hP hw hK hc i pins s σ H E I hf st hg
  subst hP hw hK
  obtain⟨xs,hq,hx⟩:=hg
  obtain⟨its,rv,p,hz⟩:=I.tuple hq
  obtain⟨f0,f1,f2,f3,f4,f5⟩:=hf it (by simp)
  have hl:=rv.length
  exact wpAny_pyNext_tuple_end (I.ok.hd hc) st (show s.heap.IsTuple a its.toArray from p) (by simp;omega) λh' eb=>⟨rfl,I.turned (t':=s.toks) (λb o hb e=>eb b o hb e) f0 f1 f3 f4 f5⟩
 self:=λ_ _ _ _ _ st h=>wpAny_pyIter_tupleiter st h
end L2
namespace L2
open PySem PySem.Spec PyProof.Rows
section
variable {X:Cx}{tg:Expr}
noncomputable def Qt(ta:TA):TI:=λσ H R=>ta σ H λvs H1=>∃i j:Int,vs=[.int i,.int j]/\(-(2 ^ 62)<=i/\i<2 ^ 62 /\ -(2 ^ 62)<=j/\j<2 ^ 62)/\R (Itr i (j-i).toNat) H1
noncomputable def z1P (wi:TI)(g:TG)(tb:TS):TS:=λD σ H=>wi σ H λJ H1=>∃W:Nat->Nat->St->Hp->Prop,(∃m,W 0 m σ H1)/\∀i m σ H,W i m σ H->
 (J.stop i H/\D.nx σ H)\/(J.go i H/\∃N:St->Hp->Prop,(∀σ' H',N σ' H'->∃m',m'<m/\W (i+1) m' σ' H')/\∀x H',J.yld i H x H'->g x σ H' λσ2 H2=>tb {D with nx:=N,ct:=N,bk:=D.nx} σ2 H2)
noncomputable def xr(fp:List Addr)(h:Heap):List (Addr×Obj):=fp.filterMap λb=>(h.get? b).map λo=>(b,o)
theorem wG{fp:List Addr}{h:Heap}{b:Addr}{o:Obj}(hb:b∈fp)(e:h.get? b=some o):(b,o)∈xr fp h:=List.mem_filterMap.mpr ⟨b,hb,by rw[e];rfl⟩
theorem WO{fp:List Addr}{h:Heap}{p:Addr×Obj}(hp:p∈xr fp h):p.1∈fp/\h.get? p.1=some p.2:=by
 obtain⟨b,hb,e⟩:=List.mem_filterMap.mp hp
 cases q:h.get? b with
 |none=>rw[q] at e;cases e
 |some o=>
  rw[q] at e
  have e':(b,o)=p:=Option.some.inj e
  subst e'
  exact⟨hb,q⟩
theorem Inv.pinned{pins:List (Addr×Obj)}{σ:St}{H:Hp}{s:Shared}{fp:List Addr}(I:Inv X pins σ H s)(hf:∀b∈fp,yS X pins H b)(ho:∀b∈fp,∃o,s.heap.get? b=some o/\∀v,o.data≠.cell v):Inv X (pins++xr fp s.heap) σ H s:=
 I.pins_of λp hp=>(List.mem_append.mp hp).elim (λz=>I.pin p (List.mem_append_right _ z)) λz=>by
  obtain⟨hb,e⟩:=WO z
  obtain⟨f0,f1,f2,_⟩:=hf p.1 hb
  obtain⟨o,e',d⟩:=ho p.1 hb
  rw[e] at e';cases e'
  exact⟨e,f0,f1,f2,d⟩
theorem Inv.unpinned{pins pl:List (Addr×Obj)}{σ:St}{H:Hp}{s:Shared}(I:Inv X (pins++pl) σ H s):Inv X pins σ H s:=I.pins_of λp hp=>I.pin p (List.mem_append_right _ (List.mem_append_left _ hp))
theorem Uj{iter:Expr}{body:List Stmt}{wi:TI}{g:TG}{tb:TS}{pos:Pos}(hp:PassesOwn (model X.prog X.w) X.A X.env X.xe)(hc:X.calm=true)(hi:PI X tg iter wi)(hg:PG X tg g)(hb:PSs X body tb)
  (hs:∀x,foldedSetIterable iter X.env x=pure x:=by intro _;rfl):PS X (.For tg iter body [] pos) (z1P wi g tb):=by
 intro pins s σ H D I h
 refine wpAny_For (thn (hi pins s σ H _ I h) λv s1 h1=>thn h1 λitv s2 h2=>?_) hs
 obtain⟨it,fp,tn,J,H2,e,I2,T,st2,f2,W,⟨m0,w0⟩,turn⟩:=h2
 subst e
 have stat:∀{H':Hp},(∀b∈fp,H' b=none)->∀b∈fp,yS X pins H' b:=λhn b hb=>⟨hn b hb,(f2 b hb).2⟩
 refine codeAny_forLoop_any (λn s'=>∃i σ' H',Inv X pins σ' H' s'/\tn i s'.heap/\(∀b∈fp,H' b=none)/\W i n σ' H') ?_ m0 ⟨0,σ,H2,I2,st2,λb hb=>(f2 b hb).1,w0⟩
 rintro n s3 ⟨i,σ3,H3,I3,st3,fr3,w3⟩
 rcases turn i n σ3 H3 w3 with⟨stop,qn⟩|⟨go,N,hN,step⟩
 ·refine wpAny_passesOwn hp (thn (T.done X rfl rfl rfl hc i pins s3 σ3 H3 X.xe I3 (stat fr3) st3 stop) λr s4 ⟨hr,I4⟩=>?_)
  subst hr
  exact wpAny_execs_nil ⟨σ3,H3,I4,qn⟩
 ·refine wpAny_passesOwn hp (thn (T.item X rfl rfl rfl hc i pins s3 σ3 H3 X.xe I3 (stat fr3) st3 go) λr s4 ⟨u,hr,h4⟩=>?_)
  subst hr
  refine wpAny_passesOwn hp (thn h4 λ_ s5 ⟨x,H5,I5,r5,y5,st5,fr5⟩=>?_)
  have I5':=I5.pinned (stat fr5) (T.obj _ _ st5)
  refine wpAny_passesOwn hp (thn (hg _ s5 σ3 H5 x u _ I5' r5 (step x H5 y5)) λ_ s6 ⟨σ6,H6,I6,q6⟩=>?_)
  refine wpAny_passesOwn hp (thn (hb _ s6 σ6 H6 _ I6 q6) λf s7 q7=>?_)
  have again:∀{σ7:St} {H7:Hp},Inv X (pins++xr fp s5.heap) σ7 H7 s7->N σ7 H7->∃m,m<n/\∃i σ' H',Inv X pins σ' H' s7/\tn i s7.heap/\(∀b∈fp,H' b=none)/\W i m σ' H':=λ{σ7 H7} I7 n7=>by
   obtain⟨m',hm,w7⟩:=hN σ7 H7 n7
   refine⟨m',hm,i+1,σ7,H7,I7.unpinned,T.keep _ _ _ st5 λb hb o e=>(I7.pin (b,o) (List.mem_append_right _ (List.mem_append_right _ (wG hb e)))).1,λb hb=>?_,w7⟩
   obtain⟨o,e,d⟩:=T.obj _ _ st5 b hb
   exact (I7.pin (b,o) (List.mem_append_right _ (List.mem_append_right _ (wG hb e)))).2.1
  cases f with
  |next=>obtain⟨σ7,H7,I7,n7⟩:=q7;exact again I7 n7
  |cont=>obtain⟨σ7,H7,I7,n7⟩:=q7;exact again I7 n7
  |brk=>obtain⟨σ7,H7,I7,q7⟩:=q7;exact⟨σ7,H7,I7.unpinned,q7⟩
  |ret v=>obtain⟨x7,σ7,H7,I7,r7,q7⟩:=q7;exact⟨x7,σ7,H7,I7.unpinned,r7,q7⟩
end
end L2
namespace L2
open PySem PySem.Spec PyProof.Rows
noncomputable abbrev R2:=V->V->Hp->VK->Prop
noncomputable def OpR (X:Cx)(f:Value->Value->Sem Value)(r:R2):Prop:=
 ∀(pins:List (Addr×Obj)) (s:Shared) (σ:St) (H:Hp) (x y:V) (v u:Value) (Q:VK),Inv X pins σ H s->RelV x v->RelV y u->r x y H Q->
  wpAny (model X.prog X.w) X.A (f v u) (EP X pins σ Q) X.xe s
noncomputable def UnR (X:Cx)(f:Value->Sem Value)(r:V->Hp->VK->Prop):Prop:=
 ∀(pins:List (Addr×Obj)) (s:Shared) (σ:St) (H:Hp) (x:V) (v:Value) (Q:VK),Inv X pins σ H s->RelV x v->r x H Q->
  wpAny (model X.prog X.w) X.A (f v) (EP X pins σ Q) X.xe s
noncomputable def XM(X:Cx)(f:Value)(r:List V->Hp->VK->Prop):Prop:=
 ∀(pins:List (Addr×Obj)) (s:Shared) (σ:St) (H:Hp) (xs:List V) (us:List Value) (Q:VK),Inv X pins σ H s->Vals xs us->r xs H Q->
  wpAny (model X.prog X.w) X.A (call f us) (EP X pins σ Q) X.xe s
noncomputable def rI (C:Int->Int->Prop)(g:Int->Int->V):R2:=λx y H Q=>∃i j,x=.int i/\y=.int j/\C i j/\Q (g i j) H
noncomputable def rI0 (g:Int->Int->V):R2:=λx y H Q=>∃i j,x=.int i/\y=.int j/\Q (g i j) H
noncomputable def rU (g:Int->V):V->Hp->VK->Prop:=λx H Q=>∃i,x=.int i/\Q (g i) H
section
variable {X:Cx}{a b c:Expr}{ta tb tc:TE}{pos:Pos}
theorem opI{f:Value->Value->Sem Value}{C:Int->Int->Prop}{g:Int->Int->Int}
  (rule:∀(i j:Int) (t u:Tok) (s:Shared) (Q:Value->Shared->Prop) (E:Value->Shared->Prop),C i j->Q (.int (g i j) s.toks) {s with toks:=s.toks+1}->wpAny (model X.prog X.w) X.A (f (.int i t) (.int j u)) Q E s) :
  OpR X f (rI C λi j=>.int (g i j)):=by
 intro pins s σ H x y v u Q I rx ry h
 obtain⟨i,j,rfl,rfl,hc,q⟩:=h
 obtain⟨t,rfl⟩:=rx
 obtain⟨t',rfl⟩:=ry
 exact rule i j t t' s _ _ hc ⟨.int (g i j),H,I.tok _,⟨_,rfl⟩,q⟩
theorem YN{f:Value->Value->Sem Value}{g:Int->Int->Int}
  (rule:∀(i j:Int) (t u:Tok) (s:Shared) (Q:Value->Shared->Prop) (E:Value->Shared->Prop),Q (.int (g i j) s.toks) {s with toks:=s.toks+1}->wpAny (model X.prog X.w) X.A (f (.int i t) (.int j u)) Q E s) :
  OpR X f (rI0 λi j=>.int (g i j)):=by
 intro pins s σ H x y v u Q I rx ry h
 obtain⟨i,j,rfl,rfl,q⟩:=h
 obtain⟨t,rfl⟩:=rx
 obtain⟨t',rfl⟩:=ry
 exact rule i j t t' s _ _ ⟨.int (g i j),H,I.tok _,⟨_,rfl⟩,q⟩
theorem K9{f:Value->Value->Sem Value}{g:Int->Int->Bool}
  (rule:∀(i j:Int) (t u:Tok) (s:Shared) (Q:Value->Shared->Prop) (E:Value->Shared->Prop),Q (.bool (g i j)) s->wpAny (model X.prog X.w) X.A (f (.int i t) (.int j u)) Q E s) :
  OpR X f (rI0 λi j=>.bl (g i j)):=by
 intro pins s σ H x y v u Q I rx ry h
 obtain⟨i,j,rfl,rfl,q⟩:=h
 obtain⟨t,rfl⟩:=rx
 obtain⟨t',rfl⟩:=ry
 exact rule i j t t' s _ _ ⟨.bl (g i j),H,I,rfl,q⟩
noncomputable def z24(i j:Int):Prop:=0<=j/\j<=1000000/\i.natAbs<2 ^ 64
noncomputable def CMul(i j:Int):Prop:=(-(2 ^ 64)<i/\i<2 ^ 64)\/(-(2 ^ 64)<j/\j<2 ^ 64)
theorem CMul.ok{i j:Int}(h:CMul i j):IntMulOk i j:=by
 rcases h with⟨h1,h2⟩|⟨h1,h2⟩
 ·exact .of_left (intBits_le_64 h1 h2)
 ·exact .of_right (intBits_le_64 h1 h2)
theorem ZG(k:Nat):(0:Int)<=2 ^ k:=by
 rw[two_pow_cast]
 exact Int.natCast_nonneg _
theorem Um:OpR X (binaryOp .Add) (rI0 λi j=>.int (i+j)):=YN λ_ _ _ _ _ _ _ q=>add_int q
theorem Ul:OpR X (binaryOp .Sub) (rI0 λi j=>.int (i-j)):=YN λ_ _ _ _ _ _ _ q=>sub_int q
theorem Yh:OpR X (binaryOp .Mult) (rI CMul λi j=>.int (i * j)):=opI λ_ _ _ _ _ _ _ hc q=>mul_int q hc.ok
theorem z02:OpR X (binaryOp .Mod) (rI (λ_ j=>0<j) λi j=>.int (i % j)):=opI λi j _ _ _ _ _ hc q=>by
 have h1:(0:Int)<j:=hc
 exact mod_int' (by omega) (by rw[Int.fmod_eq_emod_of_nonneg i (by omega)];exact q)
theorem Uy:OpR X (binaryOp .Pow) (rI z24 λi j=>.int (i ^ j.toNat)):=opI λ_ _ _ _ _ _ _ hc q=>pow_int_small hc.1 hc.2.1 hc.2.2 q
theorem Uz:OpR X (binaryOp .RShift) (rI (λ_ j=>0<=j) λi j=>.int (i / 2 ^ j.toNat)):=opI λi j _ _ _ _ _ hc q=>
 rshift_int hc (by rw[Int.fdiv_eq_ediv_of_nonneg i (ZG _)];exact q)
theorem YK:OpR X (binaryOp .BitAnd) (rI0 λi j=>.int (Builtin.bitAnd i j)):=YN λ_ _ _ _ _ _ _ q=>and_int q
theorem unI{f:Value->Sem Value}{g:Int->Int}
  (rule:∀(i:Int) (t:Tok) (s:Shared) (Q:Value->Shared->Prop) (E:Value->Shared->Prop),Q (.int (g i) s.toks) {s with toks:=s.toks+1}->wpAny (model X.prog X.w) X.A (f (.int i t)) Q E s) :
  UnR X f (rU λi=>.int (g i)):=by
 intro pins s σ H x v Q I rx h
 obtain⟨i,rfl,q⟩:=h
 obtain⟨t,rfl⟩:=rx
 exact rule i t s _ _ ⟨.int (g i),H,I.tok _,⟨_,rfl⟩,q⟩
theorem U1:UnR X (unaryOp .USub) (rU λi=>.int (-i)):=unI λ_ _ _ _ _ q=>neg_int q
end
noncomputable def K6:V->V->Bool
 |.non,.non=>true|.non,.int _=>true|.int _,.non=>true|.non,.bl _=>true|.bl _,.non=>true|.non,.str _=>true|.str _,.non=>true
 |.int _,.int _=>true|.bl _,.bl _=>true|.str _,.str _=>true|.byt _,.byt _=>true
 |.int _,.str _=>true|.str _,.int _=>true|.bl _,.str _=>true|.str _,.bl _=>true
 |_,_=>false
noncomputable def rEq:R2:=λx y H Q=>K6 x y=true/\Q (.bl (decide (x=y))) H
noncomputable def rNe:R2:=λx y H Q=>K6 x y=true/\Q (.bl (!decide (x=y))) H
theorem QL{i j:Int}:decide (V.int i=V.int j)=(i == j):=by
 rw[Bool.eq_iff_iff]
 simp
theorem V3{i j:Bool}:decide (V.bl i=V.bl j)=(i == j):=by
 rw[Bool.eq_iff_iff]
 simp
theorem W3{i j:Str}:decide (V.str i=V.str j)=(i == j):=by
 rw[Bool.eq_iff_iff]
 simp
theorem QB{i j:Array UInt8}:decide (V.byt i=V.byt j)=(i.toList == j.toList):=by
 rw[Bool.eq_iff_iff]
 cases i
 cases j
 simp
section
variable {X:Cx}{a b c:Expr}{ta tb tc:TE}{pos:Pos}
theorem zp{pins:List (Addr×Obj)}{σ:St}{H:Hp}{s:Shared}{Q:VK}{k k':Bool}(I:Inv X pins σ H s)(q:Q (.bl k) H)(e:k=k'):EP X pins σ Q (.bool k') s:=by
 subst e
 exact⟨.bl k,H,I,rfl,q⟩
theorem z1h:OpR X (compareOp .Eq) rEq:=by
 intro pins s σ H x y v u Q I rx ry h
 obtain⟨hs,q⟩:=h
 cases x with
 |non=>
  cases rx
  cases y with
  |non=>cases ry;exact PySem.EqNone.eq_none_none (zp I q (by simp))
  |bl j=>cases ry;exact PySem.EqNone.eq_none_bool (zp I q (by simp))
  |int j=>obtain⟨t',rfl⟩:=ry;exact PySem.EqNone.eq_none_int (zp I q (by simp))
  |str j=>obtain⟨t',rfl⟩:=ry;exact PySem.EqNone.eq_none_str (zp I q (by simp))
  |_=>exact absurd (show false=true from hs) Bool.false_ne_true
 |bl i=>
  cases rx
  cases y with
  |non=>cases ry;exact PySem.EqNone.eq_bool_none (zp I q (by simp))
  |bl j=>cases ry;exact eq_bool (zp I q V3)
  |str j=>obtain⟨t',rfl⟩:=ry;exact PySem.EqMixed.eq_bool_str (zp I q (by simp))
  |_=>exact absurd (show false=true from hs) Bool.false_ne_true
 |int i=>
  obtain⟨t,rfl⟩:=rx
  cases y with
  |non=>cases ry;exact PySem.EqNone.eq_int_none (zp I q (by simp))
  |int j=>obtain⟨t',rfl⟩:=ry;exact eq_int (zp I q QL)
  |str j=>obtain⟨t',rfl⟩:=ry;exact PySem.EqMixed.eq_int_str (zp I q (by simp))
  |_=>exact absurd (show false=true from hs) Bool.false_ne_true
 |str i=>
  obtain⟨t,rfl⟩:=rx
  cases y with
  |non=>cases ry;exact PySem.EqNone.eq_str_none (zp I q (by simp))
  |bl j=>cases ry;exact PySem.EqMixed.eq_str_bool (zp I q (by simp))
  |int j=>obtain⟨t',rfl⟩:=ry;exact PySem.EqMixed.eq_str_int (zp I q (by simp))
  |str j=>obtain⟨t',rfl⟩:=ry;exact eq_str (zp I q W3)
  |_=>exact absurd (show false=true from hs) Bool.false_ne_true
 |byt i=>
  obtain⟨t,rfl⟩:=rx
  cases y with
  |byt j=>obtain⟨t',rfl⟩:=ry;exact PySem.W.eq_bytes (zp I q QB)
  |_=>exact absurd (show false=true from hs) Bool.false_ne_true
 |_=>cases y<;>exact absurd (show false=true from hs) Bool.false_ne_true
theorem z0H:OpR X (compareOp .NotEq) rNe:=by
 intro pins s σ H x y v u Q I rx ry h
 obtain⟨hs,q⟩:=h
 cases x with
 |non=>
  cases rx
  cases y with
  |non=>cases ry;exact PySem.EqNone.ne_none_none (zp I q (by simp))
  |bl j=>cases ry;exact PySem.EqNone.ne_none_bool (zp I q (by simp))
  |int j=>obtain⟨t',rfl⟩:=ry;exact PySem.EqNone.ne_none_int (zp I q (by simp))
  |str j=>obtain⟨t',rfl⟩:=ry;exact PySem.EqNone.ne_none_str (zp I q (by simp))
  |_=>exact absurd (show false=true from hs) Bool.false_ne_true
 |bl i=>
  cases rx
  cases y with
  |non=>cases ry;exact PySem.EqNone.ne_bool_none (zp I q (by simp))
  |bl j=>cases ry;exact ne_bool (zp I q (congrArg not V3))
  |str j=>obtain⟨t',rfl⟩:=ry;exact PySem.EqMixed.ne_bool_str (zp I q (by simp))
  |_=>exact absurd (show false=true from hs) Bool.false_ne_true
 |int i=>
  obtain⟨t,rfl⟩:=rx
  cases y with
  |non=>cases ry;exact PySem.EqNone.ne_int_none (zp I q (by simp))
  |int j=>obtain⟨t',rfl⟩:=ry;exact ne_int (zp I q (congrArg not QL))
  |str j=>obtain⟨t',rfl⟩:=ry;exact PySem.EqMixed.ne_int_str (zp I q (by simp))
  |_=>exact absurd (show false=true from hs) Bool.false_ne_true
 |str i=>
  obtain⟨t,rfl⟩:=rx
  cases y with
  |non=>cases ry;exact PySem.EqNone.ne_str_none (zp I q (by simp))
  |bl j=>cases ry;exact PySem.EqMixed.ne_str_bool (zp I q (by simp))
  |int j=>obtain⟨t',rfl⟩:=ry;exact PySem.EqMixed.ne_str_int (zp I q (by simp))
  |str j=>obtain⟨t',rfl⟩:=ry;exact ne_str (zp I q (congrArg not W3))
  |_=>exact absurd (show false=true from hs) Bool.false_ne_true
 |byt i=>
  obtain⟨t,rfl⟩:=rx
  cases y with
  |byt j=>obtain⟨t',rfl⟩:=ry;exact PySem.W.ne_bytes (zp I q (congrArg not QB))
  |_=>exact absurd (show false=true from hs) Bool.false_ne_true
 |_=>cases y<;>exact absurd (show false=true from hs) Bool.false_ne_true
theorem z0M:OpR X (compareOp .Lt) (rI0 λi j=>.bl (decide (i<j))):=K9 λ_ _ _ _ _ _ _ q=>lt_int q
theorem z0z:OpR X (compareOp .LtE) (rI0 λi j=>.bl (decide (i<=j))):=K9 λ_ _ _ _ _ _ _ q=>le_int q
theorem z1p:OpR X (compareOp .Gt) (rI0 λi j=>.bl (decide (j<i))):=K9 λ_ _ _ _ _ _ _ q=>gt_int q
theorem z0J:OpR X (compareOp .GtE) (rI0 λi j=>.bl (decide (j<=i))):=K9 λ_ _ _ _ _ _ _ q=>ge_int q
theorem Wx:OpR X (compareOp .In) (λx y H Q=>∃i j,x=.str i/\y=.str j/\Q (.bl (!(Builtin.Str.occurrences j i 0 j.length 1).isEmpty)) H):=by
 intro pins s σ H x y v u Q I rx ry h
 obtain⟨i,j,rfl,rfl,q⟩:=h
 obtain⟨t,rfl⟩:=rx
 obtain⟨t',rfl⟩:=ry
 exact in_str (zp I q rfl)
theorem Yl:OpR X (compareOp .Is) (λx y H Q=>y=.non/\Q (.bl (decide (x=.non))) H):=by
 intro pins s σ H x y v u Q I rx ry h
 obtain⟨rfl,q⟩:=h
 cases ry
 refine is_none_gen (zp I q ?_)
 cases x<;>first
  |(cases rx;rfl)
  |(obtain⟨t,rfl⟩:=rx;rfl)
theorem Kn:OpR X (compareOp .IsNot) (λx y H Q=>y=.non/\Q (.bl (!decide (x=.non))) H):=by
 intro pins s σ H x y v u Q I rx ry h
 obtain⟨rfl,q⟩:=h
 cases ry
 refine isnot_none_gen (zp I q ?_)
 cases x<;>first
  |(cases rx;rfl)
  |(obtain⟨t,rfl⟩:=rx;rfl)
theorem ur:OpR X (compareOp .NotIn) (λx y H Q=>∃i j,x=.str i/\y=.str j/\Q (.bl (!(!(Builtin.Str.occurrences j i 0 j.length 1).isEmpty))) H):=by
 intro pins s σ H x y v u Q I rx ry h
 obtain⟨i,j,rfl,rfl,q⟩:=h
 obtain⟨t,rfl⟩:=rx
 obtain⟨t',rfl⟩:=ry
 exact notIn_str (zp I q rfl)
theorem V9(b:Expr){op:CmpOp}(h:op≠.In:=by decide)(h2:op≠.NotIn:=by decide):behindInMarks op b=false:=by
 have e1:(op == CmpOp.In)=false:=by cases op<;>first|rfl|exact absurd rfl h
 have e2:(op == CmpOp.NotIn)=false:=by cases op<;>first|rfl|exact absurd rfl h2
 cases b<;>simp[behindInMarks,e1,e2]
theorem xE:(sizeLine:Nat)<2 ^ 63:=by rw[sizeLine_eq];decide
theorem ZH:OpR X (binaryOp .Add) (λx y H Q=>∃i j,x=.str i/\y=.str j/\i.length+j.length<=sizeLine/\Q (.str (i++j)) H):=by
 intro pins s σ H x y v u Q I rx ry h
 obtain⟨i,j,rfl,rfl,hz,q⟩:=h
 obtain⟨t,rfl⟩:=rx
 obtain⟨t',rfl⟩:=ry
 exact add_str (λt' tk=>⟨.str (i++j),H,I.tok _,⟨_,rfl⟩,q⟩) hz
theorem vals1{x:V}{us:List Value}(r:Vals [x] us):∃u,us=[u]/\RelV x u:=by
 cases r with
 |cons r1 r2=>cases r2;exact⟨_,rfl,r1⟩
theorem vals2{x y:V}{us:List Value}(r:Vals [x,y] us):∃u w',us=[u,w']/\RelV x u/\RelV y w':=by
 cases r with
 |cons r1 r2=>
  cases r2 with
  |cons r3 r4=>cases r4;exact⟨_,_,rfl,r1,r3⟩
end
end L2
namespace L2
open PySem PySem.Spec PyProof.Rows
structure ObjM(h:Heap)(x dx C:Addr)(mA:Str->Option Value):Prop where
 obj:h.get? x=some (PySem.W.instObj C dx)
 ns:h.Ns1 dx mA
 ne:dx≠x
theorem W9{h:Heap}{dx:Addr}{mA:Str->Option Value}(n:h.Ns1 dx mA):∃od,h.get? dx=some od/\∀name,PySem.W.lookIn name od=some (mA name):=by
 obtain⟨o,es,ep,ho,hd,hk,_,hm⟩:=n
 refine⟨o,ho,λname=>?_⟩
 have e:=hm name
 unfold nsFind findBy at e
 rw[←Array.find?_toList] at e
 unfold PySem.W.lookIn
 rw[hd]
 dsimp only
 split
 ·rename_i y q
  rw[q] at e
  exact congrArg some e
 ·rename_i q
  rw[q] at e
  have a:es.toList.any (·.refKey)=false:=by
   rw[List.any_eq_false]
   intro y hy
   obtain⟨z,t,hkey⟩:=hk y (Array.mem_toList_iff.mp hy)
   simp[DictEntry.refKey,hkey]
  have a':¬es.toList.any (·.refKey)=true:=by rw[a];exact Bool.false_ne_true
  rw[if_neg a']
  exact congrArg some e
theorem ObjM.look{h:Heap}{x dx C:Addr}{mA:Str->Option Value}(I:ObjM h x dx C mA):∃od,PySem.W.InstAt h x (PySem.W.instObj C dx) C (some od)/\∀name,PySem.W.lookIn name od=some (mA name):=
 let ⟨od,ho,hl⟩:=W9 I.ns
 ⟨od,⟨I.obj,rfl,rfl,ho⟩,hl⟩
section
variable {prog:Program}{w:World}{A:Around}{E:Value->Shared->Prop}{s:Shared}{K:PySem.W.Frag}{x dx C f:Addr}{mA:Str->Option Value}{name:Str}{v:Value}
theorem get_map{expr:Bool}{Q:Value->Shared->Prop}(X:K.In s.heap)(I:ObjM s.heap x dx C mA)(hg:PySem.W.plainGet K C name=true)(hh:PySem.W.hasDictIn K C=true)
  (ha:PySem.W.findIn K (.ref C) name=some none) (hv:mA name=some v) (hv':PySem.W.handedIn v=true) (h:Q v {s with toks:=s.toks+1}) :
  wpAny (model prog w) A (getAttr (.ref x) name expr) Q E s:=by
 obtain⟨od,J,hl⟩:=I.look
 exact PySem.W.get_value X J (PySem.W.plainGet_of hg).1 (PySem.W.findObj_own hh ha rfl (by rw[hl,hv])) hv' h
theorem VL{pl:Sem Bool}{Q:Value×List Value->Shared->Prop}(X:K.In s.heap)(I:ObjM s.heap x dx C mA)(hg:PySem.W.plainGet K C name=true)
  (hf:PySem.W.findIn K (.ref C) name=some (some (.ref f))) (ht:PySem.W.isFn K (.ref f)=true) (hv:mA name=none) (h:Q (.ref f,[.ref x]) s) :
  wpAny (model prog w) A (getMethod (.ref x) name pl) Q E s:=by
 obtain⟨od,J,hl⟩:=I.look
 exact PySem.W.method_fn X J (PySem.W.plainGet_of hg).1 (PySem.W.plainGet_of hg).2 hf (beq_iff_eq.mp ht) (by show (PySem.W.lookIn name od).map (·.isSome)=some false;rw[hl,hv];rfl) h
theorem X9{ns:List Str}{Q:Unit->Shared->Prop}(X:K.In s.heap)(I:ObjM s.heap x dx C mA)
  (hs:PySem.W.findIn K (.ref C) "__setattr__"=some (some (.builtin "object.__setattr__"))) (hp:PySem.W.plainOver K C=true) (ht:PySem.W.takerIn K C name=some none) (hh:PySem.W.hasDictIn K C=true)
  (hw:PySem.Within mA ns) (hsz:ns.length<=sizeLine)
  (h:∀h',ObjM h' x dx C (λy=>if y=name then some v else mA y)->Heap.SameBut dx s.heap h'->Q () {s with heap:=h',toks:=s.toks+2}) :
  wpAny (model prog w) A (setAttr (.ref x) name v) Q E s:=by
 obtain⟨od,J,hl⟩:=I.look
 refine PySem.W.set_plain X J hs (PySem.W.osa_open (s:={s with toks:=s.toks+1}) (r:=none) X J hp ht λb=>?_)
 obtain⟨cd,hc,hd'⟩:=PySem.W.any_some hh
 have hx:s.heap.get? x=some ⟨.ref C,some dx,.plain,#[]⟩:=I.obj
 refine wpAny_bind (wpAny_pure (wpAny_bind (wpAny_bind (wpAny_loadPart hx (wpAny_bind (PySem.W.Looks.here (s:={s with toks:=s.toks+1}) (PySem.W.looks_clsIn X hc) ?_))))))
 rw[hd']
 refine wpAny_pure (a:=some dx) (wpAny_bind (wpAny_pure (wpAny_bind ?_)))
 refine wpAny_nsSet1 (s:={s with toks:=s.toks+1}) I.ns λh' hn2 hs2=>?_
 obtain⟨oD,esD,epD,hoD,hdD,hcD⟩:=hn2.count (PySem.Within.cons name v hw)
 refine wpAny_bind (wpAny_lookBehind hoD (by rw[hdD];exact pastItsLine_dict (Nat.le_trans hcD (by rw[List.length_cons];omega))) ?_)
 exact wpAny_pure (h _ ⟨(hs2.2 _ (Ne.symm I.ne)).trans I.obj,hn2,I.ne⟩ hs2)
theorem u_{R:Result->Shared->Prop}{vs:List Value}{kw:List (Str×Value)}(X:K.In s.heap)(hm:PySem.W.makesIn K C=true)
  (hi:PySem.W.findIn K (.ref C) "__init__"=some (some (.ref f))) (hf:PySem.W.typeIn K (.ref f)=some (.type "function"))
  (h:codeAny (model prog w) (A.under (.builtin "type.__call__" ⟨.ref C::vs,kw⟩)) (.call (.ref f) ⟨.ref (s.heap.objs.size+1)::vs,kw⟩) (PySem.W.InitBack (s.heap.objs.size+1) R)
   {s with heap:=(s.heap.push PySem.W.emptyDict).push (PySem.W.instObj C s.heap.objs.size)}) :
  codeAny (model prog w) A (.call (.ref C) ⟨vs,kw⟩) R s:=by
 obtain⟨hh,g,d,t,os⟩:=s
 exact PySem.W.make_core (PySem.W.makes_of X hm) (PySem.W.looks_findIn X hi) (λself=>PySem.W.bind_fn X self hf) (.inl rfl) h
end
noncomputable def wa(f:Str)(v:V):List (Str×V)->List (Str×V)
 |[]=>[(f,v)]
 |(g,x)::r=>if g=f then (g,v)::r else (g,x)::wa f v r
theorem jW(f g:Str)(v:V):∀fs:List (Str×V),(wa f v fs).lookup g=if g=f then some v else fs.lookup g
 |[]=>by
  show List.lookup g [(f,v)]=_
  by_cases h:g=f
  ·have hb:(g == f)=true:=beq_iff_eq.mpr h
   simp only[List.lookup,hb,if_pos h]
  ·have hb:(g == f)=false:=beq_eq_false_iff_ne.mpr h
   simp only[List.lookup,hb,if_neg h]
 |(k,x)::r=>by
  have ih:=jW f g v r
  rw[show wa f v ((k,x)::r)=(if k=f then (k,v)::r else (k,x)::wa f v r) from rfl]
  by_cases hk:k=f
  ·rw[if_pos hk]
   by_cases h:g=k
   ·have hb:(g == k)=true:=beq_iff_eq.mpr h
    simp only[List.lookup,hb,if_pos (h.trans hk)]
   ·have hb:(g == k)=false:=beq_eq_false_iff_ne.mpr h
    simp only[List.lookup,hb,if_neg (λe:g=f=>h (e.trans hk.symm))]
  ·rw[if_neg hk]
   by_cases h:g=k
   ·have hb:(g == k)=true:=beq_iff_eq.mpr h
    simp only[List.lookup,hb,if_neg (λe:g=f=>hk (h.symm.trans e))]
   ·have hb:(g == k)=false:=beq_eq_false_iff_ne.mpr h
    simp only[List.lookup,hb]
    exact ih
theorem jz(f:Str)(v:V):∀fs:List (Str×V),f∈(wa f v fs).map (·.1)/\∀g,g∈fs.map (·.1)->g∈(wa f v fs).map (·.1)
 |[]=>⟨by simp[wa],λg h=>by simp at h⟩
 |(k,x)::r=>by
  obtain⟨i1,i2⟩:=jz f v r
  rw[show wa f v ((k,x)::r)=(if k=f then (k,v)::r else (k,x)::wa f v r) from rfl]
  by_cases hk:k=f
  ·rw[if_pos hk]
   subst hk
   exact⟨by simp,λg h=>by simpa using h⟩
  ·rw[if_neg hk]
   refine⟨?_,λg h=>?_⟩
   ·rw[List.map_cons]
    exact List.mem_cons_of_mem _ i1
   ·rw[List.map_cons] at h ⊢
    rcases List.mem_cons.mp h with e|e
    ·exact List.mem_cons.mpr (.inl e)
    ·exact List.mem_cons_of_mem _ (i2 g e)
theorem jR(f:Str)(v:V):∀fs:List (Str×V),(wa f v fs).length<=fs.length+1
 |[]=>by simp[wa]
 |(k,x)::r=>by
  have ih:=jR f v r
  rw[show wa f v ((k,x)::r)=(if k=f then (k,v)::r else (k,x)::wa f v r) from rfl]
  by_cases hk:k=f
  ·rw[if_pos hk,List.length_cons,List.length_cons];omega
  ·rw[if_neg hk,List.length_cons,List.length_cons];omega
theorem RelO.some_of{v:V}{o:Option Value}(r:RelO (some v) o):∃u,o=some u/\RelV v u:=by
 cases o with
 |none=>exact (show False from r).elim
 |some u=>exact⟨u,rfl,r⟩
theorem RelO.none_of{o:Option Value}(r:RelO none o):o=none:=by
 cases o with
 |none=>rfl
 |some u=>exact (show False from r).elim
theorem Wz{v:V}{u:Value}(r:RelV v u):PySem.W.handedIn u=true:=by
 cases v with
 |non=>cases (show u=Value.none from r);rfl
 |bl b=>cases (show u=Value.bool b from r);rfl
 |int i=>obtain⟨t,e⟩:=(show ∃t,u=Value.int i t from r);cases e;rfl
 |str x=>obtain⟨t,e⟩:=(show ∃t,u=Value.str x t from r);cases e;rfl
 |byt b=>obtain⟨t,e⟩:=(show ∃t,u=Value.bytes b t from r);cases e;rfl
 |flt b=>obtain⟨t,e⟩:=(show ∃t,u=Value.float b t from r);cases e;rfl
 |ref a=>cases (show u=Value.ref a from r);rfl
 |ty n=>cases (show u=Value.type n from r);rfl
section
variable {P:Program}{w:World}{H H':Hp}{h h':Heap}{a C dx:Addr}{fs fs':List (Str×V)}
theorem vX(hok:HOk P w H h)(e:H a=some (.ins C dx fs)):∃mA,ObjM h a dx C mA/\(∀f,RelO (fs.lookup f) (mA f))/\PySem.Within mA (fs.map (·.1))/\fs.length<=1000/\H dx=some (.own a):=by
 obtain⟨d,z,ne,ob,mA,n,r,q⟩:=(show ObjOk P w H h a (.ins C dx fs) from hok a _ e)
 exact⟨mA,⟨ob,n,ne⟩,r,q,z,d⟩
end
structure Cls(K:PySem.W.Frag)(C:Addr):Prop where
 pg:PySem.W.plainGet K C Str.empty=true
 hd:PySem.W.hasDictIn K C=true
 po:PySem.W.plainOver K C=true
 sa:PySem.W.findIn K (.ref C) "__setattr__"=some (some (.builtin "object.__setattr__"))
theorem Cls.get{K:PySem.W.Frag}{C:Addr}(c:Cls K C)(f:Str):PySem.W.plainGet K C f=true:=c.pg
noncomputable def NoAttr(K:PySem.W.Frag)(C:Addr)(f:Str):Prop:=PySem.W.findIn K (.ref C) f=some none
theorem NoAttr.taker{K:PySem.W.Frag}{C:Addr}{f:Str}(n:NoAttr K C f):PySem.W.takerIn K C f=some none:=by
 unfold PySem.W.takerIn
 rw[show PySem.W.findIn K (.ref C) f=some none from n]
 rfl
structure Meth(K:PySem.W.Frag)(C:Addr)(m:Str)(f:Addr):Prop where
 at_:PySem.W.findIn K (.ref C) m=some (some (.ref f))
 fn:PySem.W.isFn K (.ref f)=true
 kp:PySem.W.keepIn K (.ref f)=true
section
variable {X:Cx}{pins:List (Addr×Obj)}{σ:St}{H:Hp}{s:Shared}{a C dx:Addr}{fs:List (Str×V)}{f:Str}{v:V}{A:Around}{E:Value->Shared->Prop}
theorem kD{b:Bool}{Q:Value->Shared->Prop}(I:Inv X pins σ H s)(e:H a=some (.ins C dx fs))(c:Cls X.K C)(n:NoAttr X.K C f)(l:fs.lookup f=some v)
  (h:∀u s',Inv X pins σ H s'->RelV v u->Q u s'):wpAny (model X.prog X.w) A (getAttr (.ref a) f b) Q E s:=by
 obtain⟨mA,O,r,_,_,_⟩:=vX I.hok e
 obtain⟨u,hu,ru⟩:=RelO.some_of (v:=v) (o:=mA f) (by rw[←l];exact r f)
 exact get_map I.kIn O (c.get f) c.hd n hu (Wz ru) (h u _ (I.tok _) ru)
theorem Ql{m:Str}{g:Addr}{pl:Sem Bool}{Q:Value×List Value->Shared->Prop}(I:Inv X pins σ H s)(e:H a=some (.ins C dx fs))(c:Cls X.K C)(k:Meth X.K C m g)(l:fs.lookup m=none)
  (h:Q (.ref g,[.ref a]) s):wpAny (model X.prog X.w) A (getMethod (.ref a) m pl) Q E s:=by
 obtain⟨mA,O,r,_,_,_⟩:=vX I.hok e
 have hn:mA m=none:=RelO.none_of (by rw[←l];exact r m)
 exact VL I.kIn O (c.get m) k.at_ k.fn hn h
theorem Q0{y:V}{u:Value}{Q:Unit->Shared->Prop}(I:Inv X pins σ H s)(e:H a=some (.ins C dx fs))(c:Cls X.K C)(n:NoAttr X.K C f)(hl:fs.length<1000)(ry:RelV y u)
  (h:∀s',Inv X pins σ (upd H a (.ins C dx (wa f y fs))) s'->Q () s'):wpAny (model X.prog X.w) A (setAttr (.ref a) f u) Q E s:=by
 obtain⟨mA,O,r,wi,_,ho⟩:=vX I.hok e
 have hz:(fs.map (·.1)).length<=sizeLine:=by rw[List.length_map,sizeLine_eq];omega
 refine X9 I.kIn O c.sa c.po n.taker c.hd wi hz λh' O' sb=>h _ ?_
 have hd:∃o,h'.get? dx=some o:=let ⟨o,_,_,e',_⟩:=O'.ns;⟨o,e'⟩
 refine I.write (x:=a) (e:=dx) (by rw[e];exact True.intro) (.inr ho) (λb q hb z=>(sb.2 b hb).trans z) hd ?_
 refine⟨by rw[za O.ne];exact ho,?_,O.ne,O'.obj,_,O'.ns,λg=>?_,λg hg=>?_⟩
 ·have:=jR f y fs;omega
 ·show RelO ((wa f y fs).lookup g) (if g=f then some u else mA g)
  rw[jW]
  by_cases q:g=f
  ·rw[if_pos q,if_pos q];exact ry
  ·rw[if_neg q,if_neg q];exact r g
 ·by_cases q:g=f
  ·rw[q];exact (jz f y fs).1
  ·refine (jz f y fs).2 g (wi g λz=>hg ?_)
   show (if g=f then some u else mA g)=none
   rw[if_neg q];exact z
theorem Inv.made(I:Inv X pins σ H s):Inv X pins σ (upd (upd H s.heap.objs.size (.own (s.heap.objs.size+1))) (s.heap.objs.size+1) (.ins C s.heap.objs.size []))
  {s with heap:=(s.heap.push PySem.W.emptyDict).push (PySem.W.instObj C s.heap.objs.size)}:=by
 have e1:(s.heap.push PySem.W.emptyDict).get? s.heap.objs.size=some PySem.W.emptyDict:=Heap.get?_push_size s.heap rfl
 have e2:((s.heap.push PySem.W.emptyDict).push (PySem.W.instObj C s.heap.objs.size)).get? (s.heap.objs.size+1)=some (PySem.W.instObj C s.heap.objs.size):=by
  have:=Heap.get?_push_size (s.heap.push PySem.W.emptyDict) (o:=PySem.W.instObj C s.heap.objs.size) rfl
  rwa[Heap.size_push] at this
 have e3:(s.heap.push PySem.W.emptyDict).Ns s.heap.objs.size (λ_=>none):=⟨PySem.W.emptyDict,#[],_,e1,rfl,(λe he=>absurd he (by simp)),λ_=>rfl⟩
 have I1:=I.laid (a:=s.heap.objs.size) (o:=.own (s.heap.objs.size+1)) (h':=s.heap.push PySem.W.emptyDict) (t':=s.toks) (λb u q=>Heap.get?_push_of_some _ q) (Nat.le_refl _) ⟨_,e1⟩
 refine I1.laid (a:=s.heap.objs.size+1) (o:=.ins C s.heap.objs.size []) (t':=s.toks) (λb u q=>Heap.get?_push_of_some _ q) (Nat.le_of_eq (Heap.size_push _ _)) ?_
 have ne:s.heap.objs.size≠s.heap.objs.size+1:=Nat.ne_of_lt (Nat.lt_succ_self _)
 refine⟨by rw[za ne,z8],Nat.zero_le _,ne,e2,λ_=>none,(Heap.Ns1.of_empty e3).at λo q=>Heap.get?_push_of_some _ q,λ_=>True.intro,λy hy=>absurd rfl hy⟩
theorem X6{prog:Program}{w:World}{env:Env}{e:Expr}{f:Str}{pos:Pos}{s:Shared}{Q:Value->Shared->Prop}(hb:attributeBase e f env (eval e env)=eval e env)
  (h:wpAny (model prog w) A (eval e env) (λo s₁=>wpAny (model prog w) A (getAttr o f true) Q E s₁) E s):wpAny (model prog w) A (eval (.Attribute e f pos) env) Q E s:=
 Attribute_any_ h (by rw[arm_eval_Attribute,hb])
end
noncomputable def z22 (K:PySem.W.Frag)(ta:TE)(f:Str):TE:=λσ H Q=>ta σ H λx H1=>∃a C dx fs v,x=.ref a/\H1 a=some (.ins C dx fs)/\Cls K C/\NoAttr K C f/\fs.lookup f=some v/\Q v H1
noncomputable def qq (K:PySem.W.Frag)(ta tv:TE)(f:Str):TS:=λD σ H=>tv σ H λy H1=>ta σ H1 λx H2=>∃a C dx fs,x=.ref a/\H2 a=some (.ins C dx fs)/\Cls K C/\NoAttr K C f/\fs.length<1000/\
 D.nx σ (upd H2 a (.ins C dx (wa f y fs)))
section
variable {X:Cx}{o e value:Expr}{f:Str}{pos pos' tpos:Pos}{ta tv:TE}
theorem z05(he:PE X e ta)(hb:attributeBase e f X.env (eval e X.env)=eval e X.env):PE X (.Attribute e f pos) (z22 X.K ta f):=by
 intro pins s σ H Q I h
 refine X6 hb (thn (he pins s σ H _ I h) λu s1 ⟨x,H1,I1,rx,a,C,dx,fs,v,ex,ea,c,n,l,q⟩=>?_)
 subst ex
 obtain rfl:u=Value.ref a:=rx
 exact kD I1 ea c n l λu' s2 I2 ru=>⟨v,H1,I2,ru,q⟩
theorem z04(ha:PE X o ta)(hv:PE X value tv)(hs:swapsWith value (some (.Attribute o f pos')) pos.line X.env=pure false):PS X (.Assign [.Attribute o f pos'] value pos) (qq X.K ta tv f):=by
 intro pins s σ H D I h
 refine plainObj_wpAny_Assign_Attribute (thn (hv pins s σ H _ I h) λu s1 ⟨y,H1,I1,ry,q⟩=>thn (ha pins s1 σ H1 _ I1 q) λov s2 ⟨x,H2,I2,rx,a,C,dx,fs,ex,ea,c,n,l,q2⟩=>?_) hs
 subst ex
 obtain rfl:ov=Value.ref a:=rx
 exact Q0 I2 ea c n l ry λs3 I3=>⟨σ,_,I3,q2⟩
noncomputable def UE:V->V->Hp->VK->Prop:=λx y H Q=>∃i j,x=.int i/\y=.int j/\Q (.int (i-j)) H
end
end L2
namespace L2
open PySem PySem.Spec PyProof.Rows
structure Room(k:Nat)(A:Around):Prop where
 hd:A.handled=none
 dp:A.depth+3 * k+5<recursionLimit
 un:A.units+16 * k+200<cLine
theorem Room.mono{j k:Nat}{A:Around}(r:Room k A)(h:j<=k):Room j A:=⟨r.hd,by have:=r.dp;omega,by have:=r.un;omega⟩
theorem Room.deeper{k:Nat}{A:Around}(r:Room (k+1) A)(env:Env):Room k (A.deeper env):=
 ⟨r.hd,by have:=r.dp;show A.depth+1+3 * k+5<_;omega,by have:=r.un;show A.units+3+16 * k+200<_;omega⟩
theorem Q1{A:Around}{C:Addr}{us:List Value}{kw:List (Str×Value)}:(A.under (.builtin "type.__call__" ⟨.ref C::us,kw⟩)).depth=A.depth+1:=by
 first|rfl|simp[Around.under,Code.weight,Code.isCreation,Code.isGuard,Code.isCaller,Code.frames,Code.isFrame,guardIds]
theorem Qn{A:Around}{C:Addr}{us:List Value}{kw:List (Str×Value)}:(A.under (.builtin "type.__call__" ⟨.ref C::us,kw⟩)).units=A.units+1:=by
 first|rfl|simp[Around.under,Code.cUnits,Code.frames,Code.isFrame]
theorem Room.make{k:Nat}{A:Around}(r:Room (k+1) A)(C:Addr)(us:List Value)(kw:List (Str×Value)):Room k (A.under (.builtin "type.__call__" ⟨.ref C::us,kw⟩)):=
 ⟨r.hd,by have:=r.dp;rw[Q1];omega,by have:=r.un;rw[Qn];omega⟩
theorem Room.depth{k:Nat}{A:Around}(r:Room k A):A.depth<recursionLimit:=by have:=r.dp;omega
noncomputable def z29:TA:=λ_ H Q=>Q [] H
noncomputable def z0W(ta:TE)(tr:TA):TA:=λσ H Q=>ta σ H λx H1=>tr σ H1 λxs H2=>Q (x::xs) H2
section
variable {X:Cx}{e:Expr}{es:List Expr}{te:TE}{t:TA}{pos:Pos}
theorem qp:PA X [] z29:=λ_ _ _ _ H Q I h=>Calls.spliced_nil ⟨[],H,I,.nil,h⟩
theorem zI(ha:PE X e te)(hr:PA X es t)(hs:starEach (e::es) X.env=(false,eval e X.env)::starEach es X.env:=by rfl):PA X (e::es) (z0W te t):=by
 intro pos pins s σ H Q I h
 rw[hs]
 show wpAny _ _ (spliced ((false,eval e X.env)::backTo pos (starEach es X.env))) _ _ s
 refine Calls.spliced_cons (thn (ha pins s σ H _ I h) λu s1 ⟨x,H1,I1,r1,q1⟩=>?_)
 exact thn (hr pos pins s1 σ H1 _ I1 q1) λus s2 ⟨xs,H2,I2,r2,q2⟩=>⟨x::xs,H2,I2,.cons r1 r2,q2⟩
noncomputable def z27 (t:TA):TE:=λσ H Q=>t σ H λxs H1=>xs.length<=sizeLine/\∀p,H1 p=none->Q (.ref p) (upd H1 p (.tup xs))
noncomputable def z1L (t:TA):TE:=λσ H Q=>t σ H λxs H1=>xs.length<=sizeLine/\∀p,H1 p=none->Q (.ref p) (upd H1 p (.lst xs))
theorem Vr{x1}(h:PA X es t):PE X (.Tuple es x1 pos) (z27 t):=by
 intro pins s σ H Q I hq
 refine wpAny_Tuple_spliced (thn (h pos pins s σ H _ I hq) λus s1 ⟨xs,H1,I1,r,z,q⟩=>⟨by rw[←r.length];exact z,?_⟩)
 have hf:H1 s1.heap.objs.size=none:=I1.hok.fresh (Nat.le_refl _)
 refine⟨.ref s1.heap.objs.size,upd H1 s1.heap.objs.size (.tup xs),I1.laid (t':=s1.toks) (λb u e=>Heap.get?_push_of_some _ e) (Nat.le_refl _) ?_,rfl,q _ hf⟩
 exact⟨z,us,r,⟨_,Heap.get?_push_size _ rfl,rfl,_,rfl⟩⟩
theorem Vy(h:PA X es t):PE X (.List es pos) (z1L t):=by
 intro pins s σ H Q I hq
 refine wpAny_List_spliced (thn (h pos pins s σ H _ I hq) λus s1 ⟨xs,H1,I1,r,z,q⟩=>⟨by rw[←r.length];exact z,?_⟩)
 have hf:H1 s1.heap.objs.size=none:=I1.hok.fresh (Nat.le_refl _)
 refine⟨.ref s1.heap.objs.size,upd H1 s1.heap.objs.size (.lst xs),I1.laid (t':=s1.toks) (λb u e=>Heap.get?_push_of_some _ e) (Nat.le_refl _) ?_,rfl,q _ hf⟩
 exact⟨z,us,0,r,Heap.get?_push_size _ rfl⟩
end
noncomputable abbrev Sp:=List V->Hp->VK->XK->Prop
noncomputable abbrev CXT:=List Env->Hp->Shared->XK->Value->Shared->Prop
structure Env0(P:Program)(w:World)(K:PySem.W.Frag)(mg:Str->Option Value)(base:Heap)(A:Around)(outer:List Env)(s:Shared)(H:Hp):Prop where
 frames:A.frames=some outer
 mod:Mod K mg base
 bs:∀b o,base.get? b=some o->s.heap.get? b=some o/\H b=none
 bsz:base.objs.size<=s.heap.objs.size
 funs:s.heap.FunFrames base outer
 frf:∀b∈frs outer,H b=none
 hok:HOk P w H s.heap
 bare:AllBare s.gens
inductive CE(outer:List Env)(P:Program)(w:World)(H:Hp)(s:Shared)(Q:VK)(u:Value)(s':Shared):Prop where
 |mk (v:V) (H':Hp) (o:s'.os=s.os) (b:AllBare s'.gens) (n:Un (frs outer) [] H H' s.heap s'.heap) (k:HOk P w H' s'.heap) (r:RelV v u) (q:Q v H')
noncomputable def CR (CX:CXT)(outer:List Env)(P:Program)(w:World)(H:Hp)(s:Shared)(Q:VK)(E:XK)(r:Result)(s':Shared):Prop:=
 match r with
 |.ok (.ret u)=>CE outer P w H s Q u s'
 |.ok _=>False
 |.error e=>CX outer H s E e s'
structure FnOk(P:Program)(w:World)(K:PySem.W.Frag)(mg:Str->Option Value)(base:Heap)(CX:CXT)(k:Nat)(f:Addr)(fd:FuncData)(ps:List Str)(sp:Sp):Prop where
 len:∀vs H Q E,sp vs H Q E->vs.length=ps.length
 run:∀(A:Around) (outer:List Env) (s:Shared) (H:Hp) (args:Args) (us:List Value) (vs:List V) (Q:VK) (E:XK),Room k A->Env0 P w K mg base A outer s H->BindsTo s fd args (ps.zip us)->Vals vs us->sp vs H Q E->
  codeAny (model P w) A (.call (.ref f) args) (CR CX outer P w H s Q E) s
theorem FnOk.imp{P:Program}{w:World}{K:PySem.W.Frag}{mg:Str->Option Value}{base:Heap}{CX:CXT}{k:Nat}{f:Addr}{fd:FuncData}{ps:List Str}{sp sp':Sp}(F:FnOk P w K mg base CX k f fd ps sp)
  (h:∀vs H Q E,sp' vs H Q E->sp vs H Q E):FnOk P w K mg base CX k f fd ps sp':=
 ⟨λvs H Q E q=>F.len vs H Q E (h _ _ _ _ q),λA outer s H args us vs Q E hr he hb hv hs=>F.run A outer s H args us vs Q E hr he hb hv (h _ _ _ _ hs)⟩
theorem Env0.make{P:Program}{w:World}{K:PySem.W.Frag}{mg:Str->Option Value}{base:Heap}{A:Around}{outer:List Env}{s:Shared}{H:Hp}(e:Env0 P w K mg base A outer s H)(C:Addr)(us:List Value)(kw:List (Str×Value)) :
  Env0 P w K mg base (A.under (.builtin "type.__call__" ⟨.ref C::us,kw⟩)) outer s H:=⟨by first|exact e.frames|(simpa[Around.under,Code.envs,Code.isFrame,pushEnvs] using e.frames),e.mod,e.bs,e.bsz,e.funs,e.frf,e.hok,e.bare⟩
section
variable {X:Cx}{pins:List (Addr×Obj)}{σ:St}{H:Hp}{s s':Shared}
theorem Inv.env0(I:Inv X pins σ H s):Env0 X.prog X.w X.K X.mg X.base X.A X.stack s H:=
 ⟨I.ok.frames,I.ok.mod,I.bs,Nat.le_trans I.ok.bsz I.sz,I.stack,I.stkFree,I.hok,I.bare⟩
theorem Inv.after{Q:VK}{u:Value}(I:Inv X pins σ H s)(h:CE X.stack X.prog X.w H s Q u s'):EP X pins σ Q u s':=by
 obtain⟨v,H',os,bare,un,hok,r,q⟩:=h
 obtain⟨hh,g,d,t,os'⟩:=s'
 obtain rfl:os'=s.os:=os
 exact⟨v,H',I.call (h':=hh) (g':=g) (d':=d) (t':=t) (ch:=[]) un hok bare (λb z=>absurd z (by simp)),r,q⟩
end
noncomputable def Binds(K:PySem.W.Frag)(fd:FuncData)(ps:List Str)(ds:List Value):Prop:=
 ∀(s:Shared) (us:List Value),K.In s.heap->(us++ds).length=ps.length->BindsTo s fd ⟨us,[]⟩ (ps.zip (us++ds))
theorem Binds.all{K:PySem.W.Frag}{fd:FuncData}{ps:List Str}(h:∀us:List Value,us.length=ps.length->bindArgs fd ⟨us,[]⟩=pure (ps.zip us)):Binds K fd ps []:=λs us _ hl=>by
 rw[List.append_nil] at hl ⊢
 exact .of_eq (h us hl)
section
variable {X:Cx}{CX:CXT}{k:Nat}{f C:Addr}{fd:FuncData}{ps:List Str}{sp:Sp}{dvs:List V}{ds:List Value}{E:XK}{x m:Str}{p pos apos:Pos}{e o:Expr}{es:List Expr}{ta:TE}{t:TA}
structure Mk(K:PySem.W.Frag)(C f:Addr):Prop where
 makes:PySem.W.makesIn K C=true
 init:PySem.W.findIn K (.ref C) "__init__"=some (some (.ref f))
 fn:PySem.W.isFn K (.ref f)=true
 kp:PySem.W.keepIn K (.ref C)=true
end
structure FnScope(N P:List Str)(sc:Scope):Prop where
 kind:sc.kind=.function
 co:sc.isCoroutine=false
 gen:sc.isGenerator=false
 nd:N.Nodup
 pre:N.take P.length=P
 par:∀x∈P,sc.names.lookup x=some .local\/sc.names.lookup x=some .cell
 nofree:∀y∈sc.names,y.2≠.free
theorem y3{kindOf:Str->Option NameKind}{x:Str}:∀{binds:List (Str×Value)} {m:Str->Option Value},(∀v,(x,v)∉binds)->bindL kindOf binds m x=m x
 |[],_,_=>rfl
 |(n,v)::r,m,h=>by
  unfold bindL
  rw[y3 λw hw=>h w (List.mem_cons_of_mem _ hw)]
  split
  ·have:x≠n:=by rintro rfl;exact h v List.mem_cons_self
   simp[this]
  ·rfl
theorem yc{kindOf:Str->Option NameKind}{x:Str}:∀{binds:List (Str×Value)} {m:Str->Option Value},(∀v,(x,v)∉binds)->bindC kindOf binds m x=m x
 |[],_,_=>rfl
 |(n,v)::r,m,h=>by
  unfold bindC
  rw[yc λw hw=>h w (List.mem_cons_of_mem _ hw)]
  split
  ·rfl
  ·have:x≠n:=by rintro rfl;exact h v List.mem_cons_self
   simp[this]
theorem yF{kindOf:Str->Option NameKind}{x:Str}{v:Value}:∀{P:List Str} {vs:List Value} {i:Nat} {m:Str->Option Value},P.Nodup->P[i]?=some x->vs[i]?=some v->kindOf x=some .local->
  bindL kindOf (P.zip vs) m x=some v
 |[],_,_,_,_,h,_,_=>by simp at h
 |_::_,[],_,_,_,_,h,_=>by simp at h
 |p::P,w::vs,0,m,nd,h1,h2,hk=>by
  simp at h1 h2;subst h1;subst h2
  show bindL kindOf ((p,w)::P.zip vs) m p=_
  unfold bindL
  rw[y3 λv hv=>(List.nodup_cons.mp nd).1 (List.of_mem_zip hv).1,if_pos hk]
  simp
 |p::P,w::vs,i+1,m,nd,h1,h2,hk=>by
  show bindL kindOf ((p,w)::P.zip vs) m x=_
  unfold bindL
  exact yF (i:=i) (List.nodup_cons.mp nd).2 (by simpa using h1) (by simpa using h2) hk
theorem yu{kindOf:Str->Option NameKind}{x:Str}{v:Value}:∀{P:List Str} {vs:List Value} {i:Nat} {m:Str->Option Value},P.Nodup->P[i]?=some x->vs[i]?=some v->kindOf x≠some .local->
  bindC kindOf (P.zip vs) m x=some v
 |[],_,_,_,_,h,_,_=>by simp at h
 |_::_,[],_,_,_,_,h,_=>by simp at h
 |p::P,w::vs,0,m,nd,h1,h2,hk=>by
  simp at h1 h2;subst h1;subst h2
  show bindC kindOf ((p,w)::P.zip vs) m p=_
  unfold bindC
  rw[yc λv hv=>(List.nodup_cons.mp nd).1 (List.of_mem_zip hv).1,if_neg hk]
  simp
 |p::P,w::vs,i+1,m,nd,h1,h2,hk=>by
  show bindC kindOf ((p,w)::P.zip vs) m x=_
  unfold bindC
  exact yu (i:=i) (List.nodup_cons.mp nd).2 (by simpa using h1) (by simpa using h2) hk
noncomputable def start(N:List Str)(vs:List V):St:=vs.map some++List.replicate (N.length-vs.length) none
noncomputable def Wt (CX:CXT)(P:Program)(w:World)(K:PySem.W.Frag)(mg:Str->Option Value)(base:Heap)(N:List Str)(qual:Str)(scope:Scope)(f:Addr)(cd:Value)(A:Around)(outer:List Env)(s:Shared)(H:Hp)(E:XK)(fnb:Str->Bool:=λ_=>true):Cx where
 prog:=P
 w:=w
 K:=K
 mg:=mg
 base:=base
 A:=A.deeper (envOfC qual scope s.heap.objs.size f cd)
 N:=N
 s₀:=s
 H₀:=H
 env:=envOfC qual scope s.heap.objs.size f cd
 outer:=outer
 stack:=envOfC qual scope s.heap.objs.size f cd::outer
 ex:=[]
 calm:=true
 fn:=fnb
 pn:=[]
 xe:=λe s'=>wpAny (model P w) (A.deeper (envOfC qual scope s.heap.objs.size f cd)) (leaving (envOfC qual scope s.heap.objs.size f cd) e) (λ_ s''=>CX outer H s E e s'') (λe' s''=>CX outer H s E e' s'') s'
theorem Zm{sc:Scope}{n:Nat}{x:Str}(h:sc.names.lookup x=some .cell):∃c,(cellsFrom n sc.names []).lookup x=some c:=by
 have q:=PySem.W.cellsFrom_some sc.names n [] (.inl h)
 exact Option.isSome_iff_exists.mp q
theorem Wn{CX:CXT}{P:Program}{w:World}{K:PySem.W.Frag}{mg:Str->Option Value}{base:Heap}{N ps:List Str}{qual:Str}{scope:Scope}{f:Addr}{cd:Value}{A:Around}{outer:List Env}{s s1:Shared}{H:Hp}{E:XK}{us:List Value}{vs:List V}{fnb:Str->Bool}
  (S:FnScope N ps scope) (hd:A.handled=none) (e0:Env0 P w K mg base A outer s H) (hl:vs.length=ps.length) (r:Vals vs us)
  (x:InCallC s s.heap.objs.size (bindL (envOfC qual scope s.heap.objs.size f cd).kindOf (ps.zip us) λ_=>none) (cellsFrom (s.heap.objs.size+1) scope.names []) (bindC (envOfC qual scope s.heap.objs.size f cd).kindOf (ps.zip us) λ_=>none) s1) :
  Inv (Wt CX P w K mg base N qual scope f cd A outer s H E fnb) [] (start N vs) H s1:=by
 have hpl:ps.length<=N.length:=by have:=congrArg List.length S.pre;rw[List.length_take] at this;omega
 obtain⟨h1,tk,rfl,hk⟩:=x.done
 have noA:∀b:Addr,b∉(Wt CX P w K mg base N qual scope f cd A outer s H E fnb).ex:=λb z=>absurd (show b∈([]:List Addr) from z) (by simp)
 refine⟨⟨e0.mod,S.kind,rfl,rfl,Nat.le_refl _,λy z c h1 h2=>?_,λy hy=>?_,λy c _ h=>?_,λ_=>hd,Around.frames_deeper e0.frames,.inr ⟨rfl,rfl⟩,λb z=>absurd z (noA b),e0.bs,e0.bsz,λb _ _=>noA b,λb z=>absurd z (noA b),e0.funs,e0.frf⟩,
  rfl,e0.bare,Un.kept hk,⟨_,x.toInCall.ns,λi y v h1 h2 h3=>?_⟩,λy c h=>⟨_,x.cell y c h⟩,e0.hok.fresh (Nat.le_refl _),λy c h=>?_,λp hp=>absurd (show p∈([]:List (Addr×Obj)) from hp) (by simp),e0.hok.kept hk,?_⟩
 ·exact name_of_addr x.apart (PySem.mem_of_lookup h1) (PySem.mem_of_lookup h2)
 ·have hy:scope.names.lookup y=some .cell\/scope.names.lookup y=some .free:=hy
  rcases hy with hy|hy
  ·exact Zm hy
  ·exact absurd rfl (S.nofree _ (PySem.mem_of_lookup hy))
 ·exact Nat.le_of_lt (x.above y c (PySem.mem_of_lookup h))
 ·have hi:i<vs.length:=by
   unfold start at h2
   by_cases hi:i<vs.length
   ·exact hi
   ·rw[List.getElem?_append_right (by simpa using hi)] at h2
    rw[List.getElem?_replicate] at h2
    split at h2<;>cases h2
  have ha:vs[i]?=some v:=by
   unfold start at h2
   rw[List.getElem?_append_left (by simpa using hi),List.getElem?_map] at h2
   cases e:vs[i]? with
   |none=>rw[e] at h2;cases h2
   |some a=>rw[e] at h2;cases h2;rfl
  obtain⟨u,hu,rv⟩:=r.get ha
  have hp:ps[i]?=some y:=by
   rw[←S.pre,List.getElem?_take_of_lt (by omega)];exact h1
  have ndP:ps.Nodup:=by rw[←S.pre];exact S.nd.sublist (List.take_sublist _ _)
  refine⟨u,rv,?_⟩
  rcases S.par y (List.mem_of_getElem? hp) with k|k
  ·exact .inl ⟨k,yF ndP hp hu k⟩
  ·obtain⟨c,e⟩:=Zm (n:=s.heap.objs.size+1) k
   refine .inr ⟨.inl k,c,e,?_⟩
   have q:=x.cell y c e
   rw[yu ndP hp hu (by show scope.names.lookup y≠_;rw[k];decide)] at q
   exact q
 ·exact .inl (e0.hok.fresh (Nat.le_of_lt (x.above y c (PySem.mem_of_lookup h))))
 ·unfold start
  show _=N.length
  rw[List.length_append,List.length_map,List.length_replicate]
  omega
theorem XJ{CX:CXT}{P:Program}{w:World}{K:PySem.W.Frag}{mg:Str->Option Value}{base:Heap}{k:Nat}{f:Addr}{name qual:Str}{params:Arguments}{body:List Stmt}{scope:Scope}{dV kV doc pm cdv ct oc:Value}{an od:Option Addr}
  {osl:Array (Option Value)} {N ps:List Str} {sp:Sp} {fnb:Str->Bool} (lk:K.lookup f=some ⟨oc,od,.func (PySem.W.fnOf name qual params body scope dV kV doc pm an cdv ct),osl⟩) (hcd:PySem.W.codeIn K cdv qual=true) (S:FnScope N ps scope)
  (len:∀vs H Q E,sp vs H Q E->vs.length=ps.length)
  (hbody:∀(A:Around) (outer:List Env) (s:Shared) (H:Hp) (vs:List V) (Q:VK) (E:XK),Room k (A.deeper (envOfC qual scope s.heap.objs.size f cdv))->sp vs H Q E->(∀y c,(envOfC qual scope s.heap.objs.size f cdv).cells.lookup y=some c->s.heap.objs.size<=c/\H c=none)->
   ∃t,PSs (Wt CX P w K mg base N qual scope f cdv A outer s H E fnb) body t/\t {nx:=λ_ H'=>Q .non H',rt:=Q} (start N vs) H) :
  FnOk P w K mg base CX (k+1) f (PySem.W.fnOf name qual params body scope dV kV doc pm an cdv ct) ps sp:=by
 refine⟨len,λA outer s H args us vs Q E hr e0 hb r hsp=>?_⟩
 have hl:=len _ _ _ _ hsp
 have KX:K.In s.heap:=e0.mod.kin.keeps λb o e=>(e0.bs b o e).1
 have lim:s.heap.NoLimit:=e0.mod.nolimit.keeps λb o e=>(e0.bs b o e).1
 have hkind:∀y∈ps.zip us,scope.names.lookup y.1=some .local\/(scope.names.lookup y.1=some .cell/\((cellsFrom (s.heap.objs.size+1) scope.names []).lookup y.1).isSome=true):=λ⟨n,v⟩ hy=>by
  rcases S.par n (List.of_mem_zip hy).1 with q|q
  ·exact .inl q
  ·exact .inr ⟨q,PySem.W.cellsFrom_some _ _ _ (.inl q)⟩
 refine codeAny_call_function hr.depth (KX _ _ lk) rfl S.co S.gen rfl (PySem.W.codeRec_of KX hcd) (hb _ _ _ _ ?_)
 refine wpAny_newFunctionEnv_cells S.kind hkind λenv he s1 x=>?_
 subst he
 refine⟨lim.keeps x.toInCall.keep,codeAny_func ?_⟩
 obtain⟨t,ht,hq⟩:=hbody A outer s H vs Q E (hr.deeper _) hsp λy c h=>have l:=Nat.le_of_lt (x.above y c (PySem.mem_of_lookup h));⟨l,e0.hok.fresh l⟩
 have I:Inv (Wt CX P w K mg base N qual scope f cdv A outer s H E fnb) [] (start N vs) H s1:=Wn S hr.hd e0 hl r x
 refine wpAny_mono (ht [] s1 (start N vs) H _ I hq) (λfl s' hs=>?_) λe s' hs=>hs
 have fin:∀{σ':St} {H':Hp} {v:V} {u:Value},Inv (Wt CX P w K mg base N qual scope f cdv A outer s H E fnb) [] σ' H' s'->RelV v u->Q v H'->CE outer P w H s Q u s':=
  λ{σ' H' v u} J rv q=>⟨v,H',J.os,J.bare,J.base,J.hok,rv,q⟩
 cases fl with
 |ret u=>
  obtain⟨v,σ',H',J,rv,q⟩:=hs
  exact fin J rv q
 |next=>
  obtain⟨σ',H',J,q⟩:=hs
  exact fin (v:=V.non) (u:=Value.none) J rfl q
 |brk=>
  obtain⟨_,_,_,q⟩:=hs
  exact False.elim q
 |cont=>
  obtain⟨_,_,_,q⟩:=hs
  exact False.elim q
end L2
namespace HT
open PySem PyProof.Rows
noncomputable def lexLt:List Int->List Int->Bool
 |[],[]=>false
 |[],_::_=>true
 |_::_,[]=>false
 |x::xs,y::ys=>if x=y then lexLt xs ys else decide (x<y)
theorem Zx(x y:Int)(xs ys:List Int):lexLt (x::xs) (y::ys)=if x=y then lexLt xs ys else decide (x<y):=rfl
theorem xS:lexLt [] []=false:=rfl
theorem kM(y:Int)(ys:List Int):lexLt [] (y::ys)=true:=rfl
theorem kN(x:Int)(xs:List Int):lexLt (x::xs) []=false:=rfl
theorem kT(A:Around)(s:Shared)(a:Int)(t:Tok)(c:Int)(u:Tok):∃e,SeqAt.EqAt A s (.int a t) (.int c u) e/\(e=true↔a=c):=
 ⟨(a == c),SeqAt.EqAt.int_int a t c u,by simp⟩
theorem J4(A:Around)(s:Shared)(a:Int)(t:Tok)(c:Int)(u:Tok)(prog:Program)(w:World)(E:Value->Shared->Prop)(Q:Value->Shared->Prop)(h:Q (.bool (decide (a<c))) s) :
  wpAny (model prog w) A (richCompare .Lt (.int a t) (.int c u)) Q E s:=
 (PyProof.Rows.lt_int h:wpAny (model prog w) A (compareOp .Lt (.int a t) (.int c u)) Q E s)
section
open PySem.SeqAt
open PySem.AutoSeq1 (wpAny_loadPart')
open PySem.MeetsSeq PySem.MeetsSeq2 PySem.MeetsSeq3
theorem xV(l b:Addr)(items items2:Array Value)(n n2:Nat)(dd dd2:Option Addr)(sl sl2:Array (Option Value))(ns ms:List Int)(hi:IntsAre items.toList ns)(hj:IntsAre items2.toList ms) :
  Meets (Builtin.«tuple.__lt__» ⟨[.ref l,.ref b],[]⟩)
   (λ_ R s=>s.heap.get? l=some {cls:=.type "tuple",dict:=dd,data:=.seq items n,slots:=sl}/\s.heap.get? b=some {cls:=.type "tuple",dict:=dd2,data:=.seq items2 n2,slots:=sl2}/\
    R (.ok (.ret (.bool (lexLt ns ms)))) s):=
 .of_wp λprog w A R s h=>by
  obtain⟨hp,g,d,tk,os⟩:=s;obtain⟨hl,hb,h⟩:=h
  have f2:=AutoSeq1.sub_tuple_tuple
  have z1:items.size=ns.length:=by rw[←hi.length];simp
  have z2:items2.size=ms.length:=by rw[←hj.length];simp
  wp_walk using wpAny_loadPart' hl,wpAny_loadPart' hb,wpAny_forIn_list _ (λrest b s'=>b.1=none/\s'=⟨hp,g,d,tk,os⟩/\∃(vs ws:List Value) (ns' ms':List Int),rest=vs.zip ws/\
   IntsAre vs ns'/\IntsAre ws ms'/\ns'.length+items2.size=ms'.length+items.size/\R (.ok (.ret (.bool (lexLt ns' ms')))) ⟨hp,g,d,tk,os⟩) _
  case turn=>
   rintro⟨y,x⟩ rest b s' ⟨hb',rfl,vs,ws,ns',ms',hz,hvi,hwi,hlen,hR⟩
   cases hvi with
   |nil=>rw[List.zip_nil_left] at hz;cases hz
   |cons a t hvi'=>
    cases hwi with
    |nil=>rw[List.zip_nil_right] at hz;cases hz
    |cons c u hwi'=>
     rw[List.zip_cons_cons] at hz
     injection hz with hyx hrest
     injection hyx with hy hx
     subst hy hx
     rw[Zx] at hR
     simp only[List.length_cons] at hlen
     obtain⟨e,he,hiff⟩:=kT A.in1 ⟨hp,g,d,tk,os⟩ a t c u
     refine wpAny_bind (he prog w _ _ ?_)
     cases e with
     |true=>
      rw[if_pos (hiff.mp rfl)] at hR
      wp_walk
      exact⟨rfl,rfl,_,_,_,_,hrest,hvi',hwi',by omega,hR⟩
     |false=>
      rw[if_neg (λq=>absurd (hiff.mpr q) Bool.false_ne_true)] at hR
      have hri:=J4 A.in1 ⟨hp,g,d,tk,os⟩ a t c u prog w
      wp_walk using hri
      exact⟨_,rfl,by simpa using hR⟩
  case fin=>
   rintro⟨b1,b2⟩ s' ⟨hb',rfl,vs,ws,ns',ms',hz,hvi,hwi,hlen,hR⟩
   simp only at hb'
   subst hb'
   have hv:lexLt ns' ms'=decide (items.size<items2.size):=by
    cases hvi with
    |nil=>
     cases hwi with
     |nil=>
      simp only[List.length_nil] at hlen
      rw[xS]
      exact (decide_eq_false (by omega)).symm
     |cons c u hw=>
      simp only[List.length_nil,List.length_cons] at hlen
      rw[kM]
      exact (decide_eq_true (by omega)).symm
    |cons a t hv=>
     cases hwi with
     |nil=>
      simp only[List.length_nil,List.length_cons] at hlen
      rw[kN]
      exact (decide_eq_false (by omega)).symm
     |cons c u hw=>
      rw[List.zip_cons_cons] at hz
      cases hz
   rw[hv] at hR
   wp_walk
   exact⟨_,rfl,by simpa[Builtin.Tuple.tupleCompareSizes] using hR⟩
  case h=>
   exact⟨rfl,rfl,items.toList,items2.toList,ns,ms,rfl,hi,hj,by omega,h⟩
end
section
variable {prog:Program}{w:World}{A:Around}{E:Value->Shared->Prop}{s:Shared}
theorem lt_tupInts{l b:Addr}{items items2:Array Value}{ns ms:List Int}{Q:Value->Shared->Prop}(hl:IsTup s.heap l items)(hb:IsTup s.heap b items2)(hi:IntsAre items.toList ns)(hj:IntsAre items2.toList ms)
  (hu:A.units<cLine) (h:Q (.bool (lexLt ns ms)) s):wpAny (model prog w) A (compareOp .Lt (.ref l) (.ref b)) Q E s:=by
 obtain⟨⟨cls,dd,data,sl⟩,ho,hc,n,hd⟩:=id hl
 obtain⟨⟨cls2,dd2,data2,sl2⟩,ho2,hc2,n2,hd2⟩:=id hb
 simp only at hc hd hc2 hd2
 subst hc hd hc2 hd2
 exact richCompare_meets_room (op:=.Lt) ⟨_,ho,rfl⟩ ⟨_,ho2,rfl⟩ PySem.F.slot_tuple_lt PySem.F.entry_tuple_lt (PySem.F.args_tuple_lt_2 _ _) (xV l b items items2 n n2 dd dd2 sl sl2 ns ms hi hj)
  ⟨ho,ho2,show Value.bool (lexLt ns ms)≠Value.notImplemented/\Q (.bool (lexLt ns ms)) s from ⟨(λx=>nomatch x),h⟩⟩ hu
theorem cat_tup{t b:Addr}{vs ws:List Value}{Q:Value->Shared->Prop}(ht:IsTup s.heap t vs.toArray)(hb:IsTup s.heap b ws.toArray)(hv:vs≠[])
  (h1:ws=[]->Q (.ref t) s) (h2:ws≠[]->Q (.ref s.heap.objs.size) {s with heap:=s.heap.push {cls:=.type "tuple",data:=.seq (vs++ws).toArray}})
  (hsz:vs.length+ws.length<=sizeLine):wpAny (model prog w) A (binaryOp .Add (.ref t) (.ref b)) Q E s:=by
 obtain⟨⟨cls,dd,data,sl⟩,ho,hc,n,hd⟩:=id ht
 obtain⟨⟨cls2,dd2,data2,sl2⟩,ho2,hc2,n2,hd2⟩:=id hb
 simp only at hc hd hc2 hd2
 subst hc hd hc2 hd2
 have e:vs.toArray++ws.toArray=(vs++ws).toArray:=by simp
 by_cases hw:ws=[]
 ·exact concat_meets ⟨_,ho,rfl⟩ ⟨_,ho2,rfl⟩ noFill_tuple_add seq_tuple_add PySem.F.slot_tuple_add PySem.F.entry_tuple_add (PySem.F.args_tuple_add_2 _ _)
   (tuple_addW1 t b vs.toArray ws.toArray n n2 dd dd2 sl sl2 (by simpa using hv) (by simp[hw])) ⟨ho,ho2,h1 hw⟩
 ·refine concat_meets ⟨_,ho,rfl⟩ ⟨_,ho2,rfl⟩ noFill_tuple_add seq_tuple_add PySem.F.slot_tuple_add PySem.F.entry_tuple_add (PySem.F.args_tuple_add_2 _ _)
   (tuple_addW2 t b vs.toArray ws.toArray n n2 dd dd2 sl sl2 (by simpa using hv) (by simpa using hw) (by rw[List.size_toArray,List.size_toArray];exact hsz)) ⟨ho,ho2,?_⟩
  rw[e]
  exact h2 hw
noncomputable def sIx(n d:Nat):Option Int->Nat
 |none=>d
 |some v=>if v<0 then (v+(n:Int)).toNat else min v.toNat n
theorem U4(n d:Nat)(hd:d<=n)(o:Option Int):sIx n d o<=n:=by
 cases o with
 |none=>exact hd
 |some v=>
  show (if v<0 then (v+(n:Int)).toNat else min v.toNat n)<=n
  by_cases hv:v<0
  ·rw[if_pos hv];omega
  ·rw[if_neg hv];exact Nat.min_le_right _ _
theorem QY(v:Int)(n d:Nat):(if v<0 then max (v+(n:Int)) 0 else min v (n:Int))=((sIx n d (some v):Nat):Int):=by
 show (if v<0 then max (v+(n:Int)) 0 else min v (n:Int))=(((if v<0 then (v+(n:Int)).toNat else min v.toNat n):Nat):Int)
 by_cases hv:v<0
 ·simp only[if_pos hv];omega
 ·simp only[if_neg hv];omega
theorem ZP(lo hi:Option Int)(n:Nat):Builtin.Slice.sliceAdjust lo hi 1 (n:Int)=(((sIx n 0 lo:Nat):Int),((sIx n n hi:Nat):Int)):=by
 have h1:¬((1:Int)<0):=by omega
 unfold Builtin.Slice.sliceAdjust
 simp only[h1,if_false]
 refine Prod.ext ?_ ?_
 ·cases lo with
  |none=>rfl
  |some v=>exact QY v n 0
 ·cases hi with
  |none=>rfl
  |some v=>exact QY v n n
theorem ZY(i j:Nat):Builtin.Slice.slicePlaces (i:Int) (j:Int) 1=j-i:=by
 unfold Builtin.Slice.slicePlaces
 have h1:(1:Int) > 0:=by omega
 simp only[h1,if_true,Int.ediv_one]
 split<;>omega
theorem kY{v:Value}{o:Option Int}{Q:Option Int->Shared->Prop}(p:IsPart v o)(h:Q o s):wpAny (model prog w) A (Builtin.Slice.slicePartIndex v) Q E s:=by
 cases p with
 |none=>exact slicePart_none h
 |int i t=>exact slicePart_int h
theorem sliceApplied_gen{sl:Addr}{vl vu:Value}{lo hi:Option Int}{n:Nat}{Q:Int×Int×Nat->Shared->Prop}(hs:s.heap.IsSliceOf sl vl vu .none)(pl:IsPart vl lo)(pu:IsPart vu hi)
  (h:Q (((sIx n 0 lo:Nat):Int),1,sIx n n hi-sIx n 0 lo) s):wpAny (model prog w) A (Builtin.Slice.sliceApplied (.ref sl) (pure (n:Int))) Q E s:=by
 obtain⟨os,hos,hcs,hds⟩:=id hs
 unfold Builtin.Slice.sliceApplied Builtin.Slice.sliceFields
 refine wpAny_bind (wpAny_bind (wpAny_field hos hds (x:=vl) rfl (wpAny_bind (wpAny_field hos hds (x:=vu) rfl (wpAny_bind (wpAny_field hos hds (x:=.none) rfl (wpAny_pure ?_)))))))
 refine wpAny_bind (slicePart_none ?_)
 show wpAny _ _ (if ((1:Int) == 0)=true then _ else _) _ _ s
 rw[if_neg (by decide)]
 refine wpAny_bind (kY pl (wpAny_bind (kY pu (wpAny_bind (wpAny_pure ?_)))))
 show wpAny _ _ (match Builtin.Slice.sliceAdjust lo hi 1 (n:Int) with|(lo,hi)=>pure (lo,(1:Int),Builtin.Slice.slicePlaces lo hi 1)) _ _ s
 rw[ZP lo hi n]
 show wpAny _ _ (pure (((sIx n 0 lo:Nat):Int),(1:Int),Builtin.Slice.slicePlaces ((sIx n 0 lo:Nat):Int) ((sIx n n hi:Nat):Int) 1)) _ _ s
 rw[ZY]
 exact wpAny_pure h
theorem Vo(xs:Array Value)(i k:Nat):((List.range k).filterMap λ(m:Nat)=>xs[((i:Int)+(m:Int) * 1).toNat]?).toArray=((xs.toList.drop i).take k).toArray:=by
 have e:(λ(m:Nat)=>xs[((i:Int)+(m:Int) * 1).toNat]?)=λm=>xs[i+m]?:=by
  funext m
  have:((i:Int)+(m:Int) * 1).toNat=i+m:=by omega
  rw[this]
 rw[e]
 have:=pick_run xs i k
 rw[List.filterMap_map] at this
 have e2:((λx=>xs[x]?) ∘ λx=>i+x)=λm=>xs[i+m]?:=rfl
 rw[e2] at this
 rw[this]
theorem getItem_tuple_cut{t sl:Addr}{items:Array Value}{vl vu:Value}{lo hi:Option Int}{Q:Value->Shared->Prop}(ht:IsTup s.heap t items)(hs:s.heap.IsSliceOf sl vl vu .none)(pl:IsPart vl lo)(pu:IsPart vu hi)
  (hw:¬(sIx items.size 0 lo=0/\sIx items.size items.size hi=items.size))
  (h:Q (.ref s.heap.objs.size) {s with heap:=s.heap.push {cls:=.type "tuple",data:=.seq ((items.toList.drop (sIx items.size 0 lo)).take (sIx items.size items.size hi-sIx items.size 0 lo)).toArray}})
  (hsz:items.size<=sizeLine):wpAny (model prog w) A (getItem (.ref t) (.ref sl)) Q E s:=by
 have htake:sizeOk (.seq ((items.toList.drop (sIx items.size 0 lo)).take (sIx items.size items.size hi-sIx items.size 0 lo)).toArray):=by
  show ((items.toList.drop (sIx items.size 0 lo)).take (sIx items.size items.size hi-sIx items.size 0 lo)).toArray.size<=sizeLine
  rw[List.size_toArray,List.length_take,List.length_drop,Array.length_toList]
  omega
 have hj:sIx items.size items.size hi<=items.size:=U4 _ _ (Nat.le_refl _) hi
 obtain⟨os,hos,hcs,hds⟩:=id hs
 have hTs:s.TypeIs (.ref sl) "slice":=⟨os,hos,hcs⟩
 unfold getItem
 try with_reducible refine wpAny_holding ?_
 first|refine wpAny_bind (wpAny_pure ?_)|skip
 refine wpAny_bind (wpAny_sequenceKey ht.typeIs (by decide) ?_)
 refine wpAny_bind (wpAny_callSpecial?_slot (name:=Str.ofString "__getitem__") ht.typeIs PyProof.Rows.slot_tuple_getitem
  (wpAny_call_entry PyProof.Rows.slot_tuple_getitem ht.typeIs entry_tuple_getitem ?_ (args_tuple_getitem _ _)))
 show wpAny _ _ (Builtin.Tuple.tupleItemsOf (.ref t) >>= _) _ _ s
 refine wpAny_bind (tupleItemsOf_ ht ?_)
 refine wpAny_bind (wpAny_typeOf hTs ?_)
 rw[if_pos (by decide)]
 refine wpAny_bind (sliceApplied_gen hs pl pu ?_)
 have hno:¬((((sIx items.size 0 lo:Nat):Int) == 0&&(1:Int) == 1&&(sIx items.size items.size hi-sIx items.size 0 lo) == items.size)=true):=by
  intro q
  rw[Bool.and_eq_true,Bool.and_eq_true] at q
  have q1:((sIx items.size 0 lo:Nat):Int)=0:=eq_of_beq q.1.1
  have q2:sIx items.size items.size hi-sIx items.size 0 lo=items.size:=eq_of_beq q.2
  exact hw ⟨by omega,by omega⟩
 show wpAny _ _ (if (((sIx items.size 0 lo:Nat):Int) == 0&&(1:Int) == 1&&(sIx items.size items.size hi-sIx items.size 0 lo) == items.size)=true then _ else _) _ _ s
 rw[if_neg hno,Vo]
 first
  |exact wpAny_bind (m:=Builtin.Tuple.tupleExact _) (wpAny_newObj_type (wpAny_pure ⟨_,rfl,wpAny_pure h⟩) htake)
  |exact wpAny_bind (m:=Builtin.Tuple.tupleExact _) (wpAny_newObj_type (wpAny_bind (wpAny_pure (wpAny_pure ⟨_,rfl,wpAny_pure h⟩))) htake)
  |exact wpAny_bind (wpAny_bind (m:=Builtin.Tuple.tupleExact _) (wpAny_newObj_type (wpAny_pure (wpAny_pure ⟨_,rfl,wpAny_pure h⟩)) htake))
  |exact wpAny_bind (wpAny_bind (m:=Builtin.Tuple.tupleExact _) (wpAny_newObj_type (wpAny_pure ⟨_,rfl,wpAny_pure h⟩) htake))
end
end HT
namespace L2
open PySem PySem.Spec PyProof.Rows
noncomputable abbrev TO:=St->Hp->(Option Int->Hp->Prop)->Prop
noncomputable def PO (X:Cx)(e:Option Expr)(t:TO):Prop:=
 ∀(pins:List (Addr×Obj)) (s:Shared) (σ:St) (H:Hp) (Q:Option Int->Hp->Prop),Inv X pins σ H s->t σ H Q->
  wpAny (model X.prog X.w) X.A (evalPart e X.env) (λu s'=>∃o H',Inv X pins σ H' s'/\IsPart u o/\Q o H') X.xe s
noncomputable def Xf:TO:=λ_ H Q=>Q none H
noncomputable def z0y(t:TE):TO:=λσ H Q=>t σ H λx H1=>∃i,x=.int i/\Q (some i) H1
theorem intsAre_of{ns:List Int}:∀{us:List Value},Vals (ns.map V.int) us->IntsAre us ns:=by
 induction ns with
 |nil=>intro us r;rw[List.map_nil] at r;cases r;exact .nil
 |cons n ns ih=>
  intro us r
  rw[List.map_cons] at r
  cases r with
  |cons r1 r2=>
   obtain⟨t,e⟩:=r1
   subst e
   exact .cons n t (ih r2)
section
variable {X:Cx}{e:Expr}{te:TE}{lo hi:Option Expr}{tl th:TO}{pos p2:Pos}
theorem KI:PO X none Xf:=by
 intro pins s σ H Q I h
 rw[evalPart_none]
 exact wpAny_pure ⟨none,H,I,.none,h⟩
theorem KY(h:PE X e te):PO X (some e) (z0y te):=by
 intro pins s σ H Q I hw
 rw[evalPart_some]
 refine thn (h pins s σ H _ I hw) λu s1 ⟨x,H1,I1,r1,q1⟩=>?_
 obtain⟨i,rfl,q⟩:=q1
 obtain⟨t,rfl⟩:=r1
 exact⟨some i,H1,I1,.int i t,q⟩
noncomputable def SlR (X:Cx)(r:V->Option Int->Option Int->Hp->VK->Prop):Prop:=
 ∀(pins:List (Addr×Obj)) (s:Shared) (σ:St) (H:Hp) (x:V) (v vl vu:Value) (lo hi:Option Int) (sl:Addr) (Q:VK),Inv X pins σ H s->RelV x v->s.heap.IsSliceOf sl vl vu .none->IsPart vl lo->IsPart vu hi->r x lo hi H Q->
  ∃T id,typeLookup (.type T) "__getitem__"=pure (some (.builtin id))/\s.TypeIs v T/\wpAny (model X.prog X.w) X.A (getItem v (.ref sl)) (EP X pins σ Q) X.xe s
theorem SlR.or{r r':V->Option Int->Option Int->Hp->VK->Prop}(h:SlR X r)(h':SlR X r'):SlR X (λx lo hi H Q=>r x lo hi H Q\/r' x lo hi H Q):=by
 intro pins s σ H x v vl vu lo hi sl Q I rx hs pl pu q
 rcases q with q|q
 ·exact h pins s σ H x v vl vu lo hi sl Q I rx hs pl pu q
 ·exact h' pins s σ H x v vl vu lo hi sl Q I rx hs pl pu q
noncomputable def tSl (r:V->Option Int->Option Int->Hp->VK->Prop)(te:TE)(tl th:TO):TE:=λσ H Q=>te σ H λx H1=>tl σ H1 λl H2=>th σ H2 λu H3=>r x l u H3 Q
theorem VC{r:V->Option Int->Option Int->Hp->VK->Prop}(hr:SlR X r)(he:PE X e te)(hl:PO X lo tl)(hu:PO X hi th):PE X (.Subscript e (.Slice lo hi none p2) pos) (tSl r te tl th):=by
 intro pins s σ H Q I h
 refine Subscript_ (thn (he pins s σ H _ I h) λv s1 ⟨x,H1,I1,r1,q1⟩=>?_)
 refine wpAny_Slice (thn (hl pins s1 σ H1 _ I1 q1) λvl s2 ⟨l,H2,I2,pl,q2⟩=>thn (hu pins s2 σ H2 _ I2 q2) λvu s3 ⟨u,H3,I3,pu,q3⟩=>?_)
 rw[evalPart_none]
 refine wpAny_pure ?_
 have I4:Inv X pins σ H3 {s3 with heap:=s3.heap.push {cls:=.type "slice",data:=.fields #[vl,vu,.none]}}:=I3.kept (t':=s3.toks) λb ob q=>Heap.get?_push_of_some _ q
 obtain⟨T,id,hT,ht,hg⟩:=hr pins {s3 with heap:=s3.heap.push {cls:=.type "slice",data:=.fields #[vl,vu,.none]}} σ H3 x v vl vu l u s3.heap.objs.size Q I4 r1 (Heap.IsSliceOf.new ..) pl pu q3
 show wpAny (model X.prog X.w) X.A (subscriptTail e (.Slice lo hi none p2) v (.ref s3.heap.objs.size)) (EP X pins σ Q) X.xe {s3 with heap:=s3.heap.push {cls:=.type "slice",data:=.fields #[vl,vu,.none]}}
 exact tail_any (ops:=[.ref s3.heap.objs.size,v]) ht hT hg (by with_unfolding_all rfl)
noncomputable def xO (xs:List V)(lo hi:Option Int):List V:=(xs.drop (HT.sIx xs.length 0 lo)).take (HT.sIx xs.length xs.length hi-HT.sIx xs.length 0 lo)
theorem jM(xs:List V)(lo hi:Option Int):(xO xs lo hi).length<=xs.length:=by
 unfold xO
 rw[List.length_take,List.length_drop]
 omega
noncomputable def z26 (K:PySem.W.Frag):V->Option Int->Option Int->Hp->VK->Prop:=λx lo hi H Q=>∃a xs,x=.ref a/\SqT K H a xs/\
 ¬(HT.sIx xs.length 0 lo=0/\HT.sIx xs.length xs.length hi=xs.length)/\∀p,H p=none->Q (.ref p) (upd H p (.tup (xO xs lo hi)))
theorem z03:SlR X (z26 X.K):=by
 intro pins s σ H x v vl vu lo hi sl Q I rx hs pl pu h
 obtain⟨a,xs,rfl,hx,hw,q⟩:=h
 cases rx
 obtain⟨its,r,ht,hz⟩:=I.tuple hx
 have hlen:its.toArray.size=xs.length:=by rw[List.size_toArray];exact r.length.symm
 refine⟨"tuple",_,PyProof.Rows.slot_tuple_getitem.lookup,ht.typeIs,?_⟩
 refine HT.getItem_tuple_cut ht hs pl pu (by rw[hlen];exact hw) ?_ (by rw[hlen];exact hz)
 rw[hlen]
 refine⟨.ref s.heap.objs.size,_,I.laid (t':=s.toks) (o:=.tup (xO xs lo hi)) (λb ob q=>Heap.get?_push_of_some _ q) (Nat.le_refl _) ?_,rfl,q _ (I.hok.fresh (Nat.le_refl _))⟩
 exact⟨Nat.le_trans (jM xs lo hi) hz,_,(r.drop (HT.sIx xs.length 0 lo)).take (HT.sIx xs.length xs.length hi-HT.sIx xs.length 0 lo),IsTup.new _ _⟩
noncomputable def z1R (K:PySem.W.Frag):R2:=λx y H Q=>∃a b ns ms,x=.ref a/\y=.ref b/\SqT K H a (ns.map V.int)/\SqT K H b (ms.map V.int)/\Q (.bl (HT.lexLt ns ms)) H
theorem UN(hu:X.A.units<cLine):OpR X (compareOp .Lt) (z1R X.K):=by
 intro pins s σ H x y v u Q I rx ry h
 obtain⟨a,b,ns,ms,rfl,rfl,ha,hb,q⟩:=h
 cases rx
 cases ry
 obtain⟨its,r1,p1,_⟩:=I.tuple ha
 obtain⟨its2,r2,p2,_⟩:=I.tuple hb
 have i1:IntsAre its.toArray.toList ns:=intsAre_of r1
 have i2:IntsAre its2.toArray.toList ms:=intsAre_of r2
 exact HT.lt_tupInts p1 p2 i1 i2 hu ⟨.bl (HT.lexLt ns ms),H,I,rfl,q⟩
noncomputable def z0G(K:PySem.W.Frag):R2:=λx y H Q=>∃a b xs ys,x=.ref a/\y=.ref b/\SqT K H a xs/\SqT K H b ys/\xs≠[]/\xs.length+ys.length<=sizeLine/\
 (ys=[]->Q (.ref a) H)/\(ys≠[]->∀p,H p=none->Q (.ref p) (upd H p (.tup (xs++ys))))
theorem Vals.nil_iff{xs:List V}{us:List Value}(r:Vals xs us):us=[]↔xs=[]:=by
 cases r with
 |nil=>simp
 |cons _ _=>simp
theorem X7:OpR X (binaryOp .Add) (z0G X.K):=by
 intro pins s σ H x y v u Q I rx ry h
 obtain⟨a,b,xs,ys,rfl,rfl,ha,hb,hx,hz,q1,q2⟩:=h
 cases rx
 cases ry
 obtain⟨its,r1,p1,_⟩:=I.tuple ha
 obtain⟨its2,r2,p2,_⟩:=I.tuple hb
 refine HT.cat_tup p1 p2 (λz=>hx (r1.nil_iff.mp z)) (λz=>⟨.ref a,H,I,rfl,q1 (r2.nil_iff.mp z)⟩) (λz=>?_) (by rw[←r1.length,←r2.length];exact hz)
 refine⟨.ref s.heap.objs.size,_,I.laid (t':=s.toks) (o:=.tup (xs++ys)) (λb ob q=>Heap.get?_push_of_some _ q) (Nat.le_refl _) ?_,rfl,q2 (λw=>z (r2.nil_iff.mpr w)) _ (I.hok.fresh (Nat.le_refl _))⟩
 exact⟨by rw[List.length_append];exact hz,_,r1.append r2,IsTup.new _ _⟩
end
end L2
namespace L2
open PySem PySem.Spec PyProof.Rows
noncomputable def ixN(n:Nat)(i:Int):Option Nat:=if 0<=i then (if i<n then some i.toNat else none) else if -(n:Int)<=i then some (i+n).toNat else none
noncomputable def atI {α:Type}(xs:List α)(i:Int):Option α:=(ixN xs.length i).bind λj=>xs[j]?
theorem JT{n:Nat}{i:Int}{j:Nat}(h:ixN n i=some j):seqIndex? i n=some j/\j<n /\ -(n:Int)<=i/\i<n:=by
 unfold ixN at h
 by_cases h0:0<=i
 ·rw[if_pos h0] at h
  by_cases h1:i<n
  ·rw[if_pos h1] at h
   have e:i.toNat=j:=Option.some.inj h
   exact⟨by rw[seqIndex_of h0 h1,e],by omega,by omega,h1⟩
  ·rw[if_neg h1] at h;cases h
 ·rw[if_neg h0] at h
  by_cases h1:-(n:Int)<=i
  ·rw[if_pos h1] at h
   have e:(i+n).toNat=j:=Option.some.inj h
   exact⟨by rw[seqIndex_neg (by omega) h1,e],by omega,h1,by omega⟩
  ·rw[if_neg h1] at h;cases h
theorem uu{α:Type}{xs:List α}{i:Int}{v:α}(h:atI xs i=some v):∃j,seqIndex? i xs.length=some j/\xs[j]?=some v/\j<xs.length /\ -(xs.length:Int)<=i/\i<xs.length:=by
 unfold atI at h
 cases e:ixN xs.length i with
 |none=>rw[e] at h;cases h
 |some j=>
  rw[e] at h
  obtain⟨h1,h2,h3,h4⟩:=JT e
  exact⟨j,h1,h,h2,h3,h4⟩
noncomputable def K1(b:Expr):Prop:=∀o i,subscripted b false o i=operate [o,i] (getItem o i)
noncomputable def IxR (X:Cx)(r:R2):Prop:=
 ∀(value slice:Expr) (pins:List (Addr×Obj)) (s:Shared) (σ:St) (H:Hp) (x y:V) (v u:Value) (Q:VK),Inv X pins σ H s->RelV x v->RelV y u->r x y H Q->
  subscripted slice false v u=operate [v,u] (getItem v u)->wpAny (model X.prog X.w) X.A (subscriptTail value slice v u) (EP X pins σ Q) X.xe s
noncomputable def MtR (X:Cx)(id:String)(r:V->List V->Hp->VK->Prop):Prop:=
 ∀(pins:List (Addr×Obj)) (s:Shared) (σ:St) (H:Hp) (x:V) (xs:List V) (v:Value) (us:List Value) (Q:VK),Inv X pins σ H s->RelV x v->Vals xs us->r x xs H Q->
  wpAny (model X.prog X.w) X.A (call (.builtin id) (v::us)) (EP X pins σ Q) X.xe s
section
variable {X:Cx}{a b:Expr}{ta tb:TE}{pos:Pos}
noncomputable def z1Q (K:PySem.W.Frag):R2:=λx y H Q=>∃p xs i v,x=.ref p/\y=.int i/\SqL K H p xs/\atI xs i=some v/\Q v H
noncomputable def z1S (K:PySem.W.Frag):R2:=λx y H Q=>∃p xs i v,x=.ref p/\y=.int i/\SqT K H p xs/\atI xs i=some v/\Q v H
noncomputable def z1O:R2:=λx y H Q=>∃z i c,x=.str z/\y=.int i/\z.length<=sizeLine/\atI z.cps.toList i=some c/\Q (.str ⟨#[c]⟩) H
theorem QV:IxR X (z1Q X.K):=by
 intro value slice pins s σ H x y v u Q I rx ry h hs
 obtain⟨p,xs,i,z,rfl,rfl,hq,he,q⟩:=h
 cases rx
 obtain⟨t,rfl⟩:=ry
 obtain⟨its,r,pl,hz⟩:=I.list hq
 obtain⟨j,h1,h2,h3,h4,h5⟩:=uu he
 obtain⟨w,ew,rw'⟩:=r.get h2
 have hl:=r.length
 have hn:=xE
 have fin:EP X pins σ Q w s:=⟨z,H,I,rw',q⟩
 by_cases h0:0<=i
 ·have hj:i.toNat=j:=by
   rw[seqIndex_of h0 h5] at h1
   exact Option.some.inj h1
  exact item_listR pl.isList h0 (by omega) (by rw[hj];simpa using ew) fin hs
 ·have hj:(i+(its.toArray.size:Int)).toNat=j:=by
   rw[seqIndex_neg (by omega) h4] at h1
   rw[List.size_toArray,←hl]
   exact Option.some.inj h1
  exact subscriptTail_builtinR (x:=w) pl.isList.typeIs slot_list_getitem.lookup
   (wpAny_getItem_list_neg (Q:=λr s'=>r=w/\EP X pins σ Q r s') pl.isList (by omega) (by rw[List.size_toArray]<;>omega) (by omega) (by rw[hj];simpa using ew) ⟨rfl,fin⟩) hs
theorem z0m:IxR X (z1S X.K):=by
 intro value slice pins s σ H x y v u Q I rx ry h hs
 obtain⟨p,xs,i,z,rfl,rfl,hq,he,q⟩:=h
 cases rx
 obtain⟨t,rfl⟩:=ry
 obtain⟨its,r,pl,hz⟩:=I.tuple hq
 obtain⟨j,h1,h2,h3,h4,h5⟩:=uu he
 obtain⟨w,ew,rw'⟩:=r.get h2
 have hl:=r.length
 have hn:=xE
 have fin:EP X pins σ Q w s:=⟨z,H,I,rw',q⟩
 exact subscriptTail_builtinR (x:=w) pl.typeIs slot_tuple_getitem.lookup
  (getItem_tuple (j:=j) (Q:=λr s'=>r=w/\EP X pins σ Q r s') pl (by omega) (by omega) (by rw[List.size_toArray,←hl];exact h1) (by simpa using ew) ⟨rfl,fin⟩) hs
theorem z01:IxR X z1O:=by
 intro value slice pins s σ H x y v u Q I rx ry h hs
 obtain⟨z,i,c,rfl,rfl,hz,he,q⟩:=h
 obtain⟨t,rfl⟩:=rx
 obtain⟨t',rfl⟩:=ry
 obtain⟨j,h1,h2,h3,h4,h5⟩:=uu he
 have hl:z.cps.toList.length=z.length:=by simp[Str.length]
 rw[hl] at h1 h4 h5
 have hn:=xE
 exact tail_any (typeIs_str s z t) slot_str_getitem.lookup (getItem_str (c:=c) (by
  have e1:decide (i < -(2 ^ 63:Int))=false:=decide_eq_false (by omega)
  have e2:decide (i ≥ 2 ^ 63)=false:=decide_eq_false (by omega)
  rw[e1,e2,Bool.or_false]) (by rw[h1];simpa using h2) ⟨.str ⟨#[c]⟩,H,I.tok _,⟨_,rfl⟩,q⟩) hs
theorem yR(lo hi:Option Int)(n:Nat):(sliceBounds lo hi none n).1=((HT.sIx n 0 lo:Nat):Int)/\(sliceBounds lo hi none n).2.1=((HT.sIx n n hi:Nat):Int)/\(sliceBounds lo hi none n).2.2=1:=by
 refine⟨?_,?_,rfl⟩
 ·cases lo with
  |none=>simp[sliceBounds,HT.sIx]
  |some i=>
   simp only[sliceBounds,HT.sIx,Option.getD_none,show (1:Int) > 0 by decide,if_true]
   by_cases h:i<0
   ·simp only[h,if_true]<;>omega
   ·simp only[h,if_false]<;>omega
 ·cases hi with
  |none=>simp[sliceBounds,HT.sIx]
  |some i=>
   simp only[sliceBounds,HT.sIx,Option.getD_none,show (1:Int) > 0 by decide,if_true]
   by_cases h:i<0
   ·simp only[h,if_true]<;>omega
   ·simp only[h,if_false]<;>omega
theorem y0(its:List Value)(lo hi:Option Int):slicePick its.toArray lo hi none=((its.drop (HT.sIx its.length 0 lo)).take (HT.sIx its.length its.length hi-HT.sIx its.length 0 lo)).toArray:=by
 obtain⟨h1,h2,h3⟩:=yR lo hi its.toArray.size
 unfold slicePick
 rw[h1,h2,h3]
 simp only[sliceRange_one,pick_run,List.size_toArray]<;>rfl
noncomputable def z1W (K:PySem.W.Frag):V->Option Int->Option Int->Hp->VK->Prop:=λx lo hi H Q=>∃a xs,x=.ref a/\SqL K H a xs/\∀p,H p=none->Q (.ref p) (upd H p (.lst (xO xs lo hi)))
theorem J_:SlR X (z1W X.K):=by
 intro pins s σ H x v vl vu lo hi sl Q I rx hs pl pu h
 obtain⟨a,xs,rfl,hx,q⟩:=h
 cases rx
 obtain⟨its,r,ht,hz⟩:=I.list hx
 have hlen:=r.length
 refine⟨"list",_,slot_list_getitem.lookup,ht.isList.typeIs,?_⟩
 refine wpAny_getItem_list_slice ht.isList hs pl pu .none (by simp) ?_ (by rw[List.size_toArray]<;>omega)
 rw[y0,←hlen]
 refine⟨.ref s.heap.objs.size,_,I.laid (t':=s.toks) (o:=.lst (xO xs lo hi)) (λb ob q=>Heap.get?_push_of_some _ q) (Nat.le_refl _) ?_,rfl,q _ (I.hok.fresh (Nat.le_refl _))⟩
 exact⟨Nat.le_trans (jM xs lo hi) hz,_,0,(r.drop (HT.sIx xs.length 0 lo)).take (HT.sIx xs.length xs.length hi-HT.sIx xs.length 0 lo),Heap.get?_push_size _ rfl⟩
theorem wA:XM X (.builtin "len") (λxs H Q=>∃p ys,xs=[.ref p]/\(SqL X.K H p ys\/SqT X.K H p ys)/\Q (.int ys.length) H):=by
 intro pins s σ H xs us Q I r h
 obtain⟨p,ys,rfl,hq,q⟩:=h
 obtain⟨u,rfl,rx⟩:=vals1 r
 cases rx
 have hn:=xE
 rcases hq with hq|hq
 ·obtain⟨its,r',pl,hz⟩:=I.list hq
  have hlen:=r'.length
  exact Calls.call_len_list pl.isList (by simp only[List.size_toArray]<;>omega) ⟨.int ys.length,H,I.tok _,⟨s.toks+1,by rw[List.size_toArray,hlen]⟩,q⟩
 ·obtain⟨its,r',pl,hz⟩:=I.tuple hq
  have hlen:=r'.length
  exact len_tuple pl (by simp only[List.size_toArray]<;>omega) ⟨.int ys.length,H,I.tok _,⟨s.toks+1,by rw[List.size_toArray,hlen]⟩,q⟩
theorem uw:XM X (.builtin "len") (λxs H Q=>∃z,xs=[.str z]/\z.length<=sizeLine/\Q (.int z.length) H):=by
 intro pins s σ H xs us Q I r h
 obtain⟨z,rfl,hz,q⟩:=h
 obtain⟨u,rfl,t,rfl⟩:=vals1 r
 have hn:=xE
 exact len_str (by omega) ⟨.int z.length,H,I.tok _,⟨_,rfl⟩,q⟩
noncomputable def tyV (K:PySem.W.Frag)(T:String)(x:V)(H:Hp):Prop:=match x with
 |.str _=>T="str"
 |.int _=>T="int"
 |.ref p=>(T="list"/\∃xs,SqL K H p xs)\/(T="tuple"/\∃o,K.lookup p=some o/\o.cls=.type "tuple"/\o.dict=none)\/
   (T="dict"/\((∃kvs,H p=some (.dK kvs))\/∃kvs,H p=some (.dT kvs)))\/(T="set"/\∃S n,H p=some (.set S n))
 |_=>False
theorem Ym{pins:List (Addr×Obj)}{σ:St}{H:Hp}{s:Shared}{T:String}{x:V}{v:Value}(I:Inv X pins σ H s)(r:RelV x v)(ty:tyV X.K T x H) :
  s.TypeIs v T/\∀a,v=.ref a->∃ob,s.heap.get? a=some ob/\ob.dict=none:=by
 cases x with
 |str z=>
  obtain⟨t,rfl⟩:=r
  cases (show T="str" from ty)
  exact⟨typeIs_str s z t,λ_ e=>nomatch e⟩
 |int i=>
  obtain⟨t,rfl⟩:=r
  cases (show T="int" from ty)
  exact⟨typeIs_int s i t,λ_ e=>nomatch e⟩
 |ref p=>
  cases r
  rcases ty with⟨rfl,xs,hq⟩|⟨rfl,o,hk,hc,hd⟩|⟨rfl,hk⟩|⟨rfl,S,n,hk⟩
  ·obtain⟨its,_,pl,_⟩:=I.list hq
   refine⟨pl.isList.typeIs,λa e=>?_⟩
   cases e
   obtain⟨o,n,e,c,hd,_⟩:=pl
   exact⟨o,e,hd⟩
  ·refine⟨⟨o,I.kIn p o hk,hc⟩,λa e=>?_⟩
   cases e
   exact⟨o,I.kIn _ o hk,hd⟩
  ·have z:∃o,s.heap.get? p=some o/\o.ExactDict:=by
    rcases hk with⟨kvs,hk⟩|⟨kvs,hk⟩
    ·obtain⟨_,_,_,_,o,_,_,e,ex,_⟩:=I.hok p _ hk
     exact⟨o,e,ex⟩
    ·obtain⟨_,_,_,_,o,_,_,e,ex,_⟩:=I.hok p _ hk
     exact⟨o,e,ex⟩
   obtain⟨o,e,ex⟩:=z
   refine⟨⟨o,e,ex.1⟩,λa e2=>?_⟩
   cases e2
   exact⟨o,e,ex.2.1⟩
  ·obtain⟨o,_,_,_,e,ex,_⟩:=I.hok p _ hk
   refine⟨⟨o,e,ex.1⟩,λa e2=>?_⟩
   cases e2
   exact⟨o,e,ex.2.1⟩
 |_=>exact False.elim ty
noncomputable def tBM (K:PySem.W.Frag)(T:String)(r:V->List V->Hp->VK->Prop)(to:TE)(t:TA):TE:=λσ H Q=>to σ H λx H1=>tyV K T x H1/\t σ H1 λxs H2=>r x xs H2 Q
variable {o e:Expr}{es:List Expr}{to:TE}{t:TA}{name:Str}{apos cpos:Pos}{T id:String}{r:V->List V->Hp->VK->Prop}
theorem XX (pa:PlainAttrs T) (slot:Slot T name id) (hty:typeOf (.builtin id)=pure (.type "method_descriptor")) (hm:MtR X id r) (ho:PE X o to) (ha:PA X (e::es) t)
  (hbase:attributeBase o name X.env (eval o X.env)=eval o X.env:=by rfl)
  (hfew:((backTo cpos (starEach (e::es) X.env)).all (λx=>!x.1)&&(backToKw cpos (keywordEach [] X.env)).all (λx=>x.1.isSome)
   &&decide ((e::es).length+([]:List Keyword).length+(if ([]:List Keyword).isEmpty then 0 else 1)<30))=true:=by rfl)
  (hline:(apos.endLine == cpos.line)=true:=by rfl) (hs:starEach (e::es) X.env=(false,eval e X.env)::starEach es X.env:=by rfl) (hplain:(backTo cpos (starEach es X.env)).any (·.1)=false:=by rfl) :
  PE X (.Call (.Attribute o name apos) (e::es) [] cpos) (tBM X.K T r to t):=by
 intro pins s σ H Q I h
 refine wpAny_Call_method_late hbase hfew hline rfl (thn (ho pins s σ H _ I h) λv s1 ⟨x,H1,I1,r1,ty,q1⟩=>?_)
 obtain⟨h1,h2⟩:=Ym I1 r1 ty
 refine⟨T,id,pa,slot,hty,h1,h2,?_⟩
 have hA:=ha cpos pins s1 σ H1 _ I1 q1
 rw[hs] at hA ⊢
 refine Calls.callWith_builtin (by show (false || (backTo cpos (starEach es X.env)).any (·.1))=false;rw[hplain]<;>rfl) (Calls.evalArgs_plain ?_)
 exact thn hA λus s2 ⟨vs,H2,I2,r2,q2⟩=>hm pins s2 σ H2 x vs v us Q I2 r1 r2 q2
end
end L2
namespace L2
open PySem PySem.Spec PyProof.Rows
noncomputable def MtM (X:Cx)(id:String)(r:V->List V->Hp->VK->Prop):Prop:=
 ∀(pins:List (Addr×Obj)) (s:Shared) (σ:St) (H:Hp) (x:V) (xs:List V) (v:Value) (us:List Value) (Q:VK),Inv X pins σ H s->RelV x v->Vals xs us->r x xs H Q->
  wpAny (model X.prog X.w) X.A (call (.builtin id) (v::us)) (EP X pins σ Q) X.xe s
theorem Vals.one:∀{x:V} {us:List Value},Vals [x] us->∃u,us=[u]/\RelV x u
 |_,_,.cons r .nil=>⟨_,rfl,r⟩
section
variable {X:Cx}{pins:List (Addr×Obj)}{σ:St}{H:Hp}{s:Shared}{l b:Addr}{xs ys zs:List V}
theorem Inv.lset{its its':List Value}{n:Nat}{f:Array Value->Array Value}{t':Nat}(I:Inv X pins σ H s)(hH:H l=some (.lst xs))
  (e:s.heap.get? l=some {cls:=.type "list",data:=.seq its.toArray n}) (hf:f its.toArray=its'.toArray) (hv:Vals ys its') (hz:ys.length<=sizeLine) :
  Inv X pins σ (upd H l (.lst ys)) {s with heap:=s.heap.update l (Obj.mapSeq f),toks:=t'}:=by
 have q:=PySem.IsL.update e f
 rw[hf] at q
 refine I.write (x:=l) (e:=l) (by rw[hH];exact trivial) (.inl rfl) (λb' u hb hu=>(Heap.get?_update_other s.heap (Obj.mapSeq f) (Ne.symm hb)).trans hu) ⟨_,q⟩ ?_
 exact⟨hz,its',_,hv,q⟩
theorem Inv.lnew{its:List Value}{t':Nat}(I:Inv X pins σ H s)(hv:Vals ys its)(hz:ys.length<=sizeLine) :
  Inv X pins σ (upd H s.heap.objs.size (.lst ys)) {s with heap:=s.heap.push {cls:=.type "list",data:=.seq its.toArray},toks:=t'}:=
 I.laid (λ_ _ q=>Heap.get?_push_of_some _ q) (Nat.le_refl _) ⟨hz,its,0,hv,Heap.get?_push_size _ rfl⟩
theorem Inv.fresh(I:Inv X pins σ H s):H s.heap.objs.size=none:=I.hok.fresh (Nat.le_refl _)
theorem Inv.lstM(I:Inv X pins σ H s)(hH:H l=some (.lst xs)):xs.length<=sizeLine/\∃(its:List Value) (n:Nat),Vals xs its/\xs.length=its.length/\s.heap.get? l=some {cls:=.type "list",data:=.seq its.toArray n}:=by
 obtain⟨z,its,n,r,e⟩:=I.hok l _ hH
 exact⟨z,its,n,r,r.length,e⟩
theorem VM{n:Nat}(h:n<=sizeLine):Builtin.List.listTooLong n=false:=by
 unfold Builtin.List.listTooLong
 exact decide_eq_false (by omega)
end
section
variable {X:Cx}
noncomputable def Ka:V->List V->Hp->VK->Prop:=λx vs H Q=>∃l xs y,x=.ref l/\vs=[y]/\H l=some (.lst xs)/\xs.length<sizeLine/\Q .non (upd H l (.lst (xs++[y])))
theorem y6:MtM X "list.append" Ka:=by
 intro pins s σ H x vs v us Q I rx rv h
 obtain⟨l,xs,y,rfl,rfl,hH,hz,q⟩:=h
 cases rx
 obtain⟨u,rfl,ru⟩:=rv.one
 obtain⟨z,its,n,r,hl,e⟩:=I.lstM hH
 refine call_meets F.slot_list_append ⟨_,e,rfl⟩ F.entry_list_append (F.args_list_append_2 _ _) (PySem.list_append l its.toArray n u (by rw[List.size_toArray];omega)) ⟨e,?_⟩
 refine⟨.non,_,I.lset (its':=its++[u]) hH e (by simp) (r.append (.cons ru .nil)) ?_,rfl,q⟩
 rw[List.length_append,List.length_singleton]
 omega
end
end L2
namespace Att
open PySem PySem.W PySem.Calls PyProof.Rows
theorem k9{P:Params}{h:Heap}:∀(ns:List Int) (vs:List Value),WellAll P h vs (ns.map WData.int)->IntsAre vs ns:=by
 intro ns
 induction ns with
 |nil=>
  intro vs w
  rw[List.map_nil] at w
  cases w
  exact .nil
 |cons n ns ih=>
  intro vs w
  rw[List.map_cons] at w
  cases w with
  |cons a b=>
   cases a
   exact .cons _ _ (ih _ b)
theorem WT{l:OpenLaw}{n:Nat}(hn:l.most=some n){P:Params}{h:Heap}{args:List WData}{vals:List Value}
  (hpre:l.row.toRowW.claim.pre args=true) (hwl:WellAll P h vals args) :
  ∃a vs ns,vals=[Value.ref a]/\args=[WData.list (ns.map WData.int)]/\h.get? a=some {cls:=.type "list",data:=.seq vs.toArray}/\IntsAre vs ns/\ns.length<=n:=by
 have hsh:WShape.hasAll [] args [.list .int]=true:=(pre_splitW hpre).1
 have hc:l.pre.holds [] {args:=args}=true:=(pre_splitW hpre).2
 obtain⟨d,r,rfl,h1,h2⟩:=hasAllW_cons hsh
 obtain rfl:=hasAllW_nil h2
 obtain⟨xs,rfl,h3⟩:=hasW_list h1
 obtain⟨ns,rfl⟩:=items_int h3
 have hlen:ns.length<=n:=by
  unfold OpenLaw.pre at hc
  have h4:(WTm.not (.lt (.lit (.int (n:Int))) (.len (.arg 0)))).holds [] {args:=[.list (ns.map .int)]}=true:=by
   have h4:=(holds_andW hc).1
   rw[hn] at h4
   exact h4
  have h5:=condW_of h4 (w_not (w_lt w_lit (w_len_list (w_arg rfl))))
  rw[List.length_map] at h5
  refine Nat.le_of_not_lt λq=>?_
  have q':(n:Int)<((ns.length:Nat):Int):=by omega
  first
   |(rw[decide_eq_true q'] at h5;exact absurd h5 (by decide))
   |(simp at h5;omega)
 cases hwl with
 |cons w1 w2=>
  cases w2
  cases w1 with
  |list ho hall=>exact⟨_,_,ns,rfl,rfl,ho,k9 ns _ hall,hlen⟩
theorem Wc(l:OpenLaw)(args:List WData):l.row.toRowW.claim.post args (.bool true) args=true:=
 postW_of (r:=l.row.toRowW) (X:=(true == true))
  (show WShape.has [] (.bool true) .bool=true by first|rfl|decide|simp[WShape.has,WShape.arms,WShape.armsAll])
  (show (WTm.eq .res (.lit (.bool true))).value [] {args:=args,res:=some (.bool true),after:=args}=some (.bool (true == true)) from w_eq_bool (w_res rfl) w_lit) rfl
theorem attach_call{l:OpenLaw}{n:Nat}{q:Program}{loose:List Str}{XP:(Str->Option Value)->Heap->Prop}{YP:World->Heap->Prop}{d:DefRec}
  (hn:l.most=some n) (hdf:d.params.defaults=[])
  (call:∀(w:World) (s₀ s₁:Shared) (mg mb:Str->Option Value) (fa:Addr) (o:Obj) (pm cd doc:Value) (a:Addr) (vs:List Value) (ns:List Int),
   Ground q loose [] XP w s₀ mg mb s₁.heap->YP w s₁.heap->
   s₁.heap.get? fa=some o->o.data=.func (docDef d.name d.params d.body d.scope pm cd doc)->s₁.heap.CodeRec cd d.name->mg d.name=some (.ref fa)->
   s₁.heap.get? a=some {cls:=.type "list",data:=.seq vs.toArray}->IntsAre vs ns->ns.length<=n->s₁.gens=#[]->
   codeAny (model l.prog w) callerA (.call (.ref fa) ⟨[.ref a],[]⟩) (λr s'=>r=.ok (.ret (.bool true))/\OldK s₁.heap s'.heap/\s'.os=s₁.os/\AllBare s'.gens) s₁) :
  WalkO q loose XP YP l.row.toRowW d [] (λf vs=>PySem.call f vs):=by
 intro w s₀ s₁ mg mb G Y fa o pm cd doc dV kV ho hd hcd hD hmg hg args vals as hpre hlay hrd hwl hlo
 obtain rfl:dV=.none:=Dflts.none hD hdf
 obtain rfl:kV=.none:=Dflts.noKw hD
 obtain⟨a,vs,ns,rfl,rfl,hobj,hints,hlen⟩:=WT hn hpre hwl
 refine enter_call (codeAny_mono (call w s₀ s₁ mg mb fa o pm cd doc a vs ns G Y ho (fd_plain hd) hcd hmg hobj hints hlen hg) λr s' hq=>?_)
 obtain⟨rfl,h2,h3,h4⟩:=hq
 exact⟨.inl ⟨.bool true,.bool true,[],rfl,λ_=>rfl,.bool true,Wc l _,λ_=>⟨List.Pairwise.nil,λ_ hm=>(nomatch hm)⟩⟩,h2,h3,h4⟩
section
variable {prog:Program}{w:World}{A:Around}{E:Value->Shared->Prop}{s:Shared}{K:Frag}
noncomputable def ledger(h:Heap)(L d:Addr):List (Addr×Obj):=(List.range h.objs.size).filterMap λa=>if a=L\/a=d then none else (h.get? a).map λo=>(a,o)
end
end Att
namespace L2
open PySem PySem.Spec PyProof.Rows
theorem vals_ints:∀{vs:List Value} {ns:List Int},IntsAre vs ns->Vals (ns.map V.int) vs
 |_,_,.nil=>.nil
 |_,_,.cons n t h=>.cons ⟨t,rfl⟩ (vals_ints h)
end L2
namespace L2
open PySem PySem.Spec PyProof.Rows
noncomputable abbrev KOf{K:PySem.W.Frag}{h:Heap}(_:K.In h):PySem.W.Frag:=K
end L2
namespace L2
open PySem PySem.Spec PyProof.Rows
noncomputable def inClass(s:Stmt)(j:Nat):Stmt:=match s with
 |.ClassDef _ _ _ body _ _ _ _ _ _ _=>body.getD j (.Pass ⟨0,0,0,0⟩)
 |_=>.Pass ⟨0,0,0,0⟩
noncomputable def zz(s:Stmt):Arguments:=match s with
 |.FunctionDef _ a _ _ _ _ _ _ _ _=>a
 |_=>{posonlyargs:=[],args:=[],vararg:=none,kwonlyargs:=[],kw_defaults:=[],kwarg:=none,defaults:=[]}
noncomputable def z5(s:Stmt):List Stmt:=match s with
 |.FunctionDef _ _ b _ _ _ _ _ _ _=>b
 |_=>[]
noncomputable def zh(s:Stmt):Scope:=match s with
 |.FunctionDef _ _ _ _ _ _ sc _ _ _=>sc
 |_=>{kind:=.function,names:=[],isGenerator:=false,isCoroutine:=false}
structure Fun(K:PySem.W.Frag)(x qual:Str)(st:Stmt)(f:Addr)(fd:FuncData):Prop where
 ex:∃(oc:Value) (od:Option Addr) (kV doc pm:Value) (an:Option Addr) (cdv ct:Value) (osl:Array (Option Value)),
  fd=PySem.W.fnOf x qual (zz st) (z5 st) (zh st) .none kV doc pm an cdv ct/\K.lookup f=some ⟨oc,od,.func fd,osl⟩/\PySem.W.codeIn K cdv qual=true
 kp:PySem.W.keepIn K (.ref f)=true
section
variable {P:Program}{w:World}{K:PySem.W.Frag}{mg:Str->Option Value}{base:Heap}
theorem Fun.binds{x qual:Str}{st:Stmt}{f:Addr}{fd:FuncData}{ps:List Str}(F:Fun K x qual st f fd)
  (h:∀(kV doc pm:Value) (an:Option Addr) (cdv ct:Value) (us:List Value),us.length=ps.length->bindArgs (PySem.W.fnOf x qual (zz st) (z5 st) (zh st) .none kV doc pm an cdv ct) ⟨us,[]⟩=pure (ps.zip us)):Binds K fd ps []:=by
 obtain⟨oc,od,kV,doc,pm,an,cdv,ct,osl,rfl,lk,hcd⟩:=F.ex
 exact .all (h kV doc pm an cdv ct)
theorem xJ{x qual:Str}{st:Stmt}{f:Addr}{oc:Value}{od an:Option Addr}{osl:Array (Option Value)}{kV doc pm cdv ct:Value}(l:K.lookup f=some ⟨oc,od,.func (PySem.W.fnOf x qual (zz st) (z5 st) (zh st) .none kV doc pm an cdv ct),osl⟩)
  (c:PySem.W.codeIn K cdv qual=true) (k:PySem.W.keepIn K (.ref f)=true):Fun K x qual st f (PySem.W.fnOf x qual (zz st) (z5 st) (zh st) .none kV doc pm an cdv ct):=⟨⟨oc,od,kV,doc,pm,an,cdv,ct,osl,rfl,l,c⟩,k⟩
end
noncomputable def vH (H H':Hp):Prop:=∀b o,H b=some o->H' b=some o
end L2
end
namespace NH
open PySem
noncomputable def z1K (h:Heap)(x:Addr)(cls:Value)(d:Option Addr):Prop:=∃oe vs a0,h.get? x=some oe/\(oe.cls=cls/\oe.dict=d)/\oe.data=.fields vs/\vs[0]?=some a0/\vs[1]?=some .none
inductive XTr(h:Heap)(x T:Addr)(cls:Value)(d:Option Addr)(fl:Value):Prop where
 |mk (oe:Obj) (vs:Array Value) (a0:Value) (oT:Obj) (ts:Array Value) (h1:h.get? x=some oe) (h2:oe.cls=cls/\oe.dict=d) (h3:oe.data=.fields vs) (h4:vs[0]?=some a0) (h5:vs[1]?=some (.ref T)) (h6:T≠x) (h7:h.get? T=some oT) (h8:oT.data=.fields ts) (h9:ts[3]?=some fl)
noncomputable def z18 (h:Heap)(x:Addr)(cls:Value)(d:Option Addr):Option Addr->Value->Prop
 |none,fl=>z1K h x cls d/\fl=.none
 |some T,fl=>XTr h x T cls d fl
structure XMove(fs:List Addr)(x:Addr)(T T':Option Addr)(h h':Heap):Prop where
 keep:∀b o,h.get? b=some o->b∉fs->b≠x->b∉T.toList->h'.get? b=some o
 slot:∀b o,h.get? b=some o->b∈fs->b≠x->b∉T.toList->∃sl,h'.get? b=some {o with slots:=sl}
 newT:∀t∈T'.toList,t∈T.toList\/h.objs.size<=t
theorem XMove.refl(fs:List Addr)(x:Addr)(T:Option Addr)(h:Heap):XMove fs x T T h h:=⟨λ_ _ e _ _ _=>e,λ_ o e _ _ _=>⟨o.slots,e⟩,λ_ ht=>.inl ht⟩
theorem kG(o:Obj)(f:Array Value->Array Value):(Obj.mapFields f o).dict=o.dict:=by
 obtain⟨c,d,dt,sl⟩:=o
 cases dt<;>rfl
section
variable {M:Model}{A:Around}{E:Value->Shared->Prop}{s:Shared}
theorem J3{base:Heap}{env e0:Env}{outer:List Env}{L:Addr}{Q:Value->Shared->Prop}(hfr:A.frames=some (e0::outer))(hl:s.heap.FunFrames base (e0::outer))
  (hf:env.frame=some L) (h0:e0.frame=some L) (h:∀h',Heap.SlotsOnly ((e0::outer).filterMap (·.frame)) s.heap h'->Q (.ref L) {s with heap:=h'}):wpAny M A (frameOf env) Q E s:=by
 unfold frameOf
 refine wpAny_bind (wpAny_frameEnvs hfr ?_)
 have hw:((e0::outer).dropWhile λy=>y.frame != env.frame)=e0::outer:=by simp[List.dropWhile,hf,h0]
 rw[hw]
 unfold frameObject
 refine wpAny_bind (wpAny_bind (wpAny_readyFrames_fun hl λh1 q1=>wpAny_pure ?_))
 rw[h0]
 exact wpAny_pure (h h1 q1)
theorem xH{base:Heap}{env e0:Env}{outer:List Env}{L x:Addr}{cls head:Value}{d T:Option Addr}{had:Bool}{oe:Obj}{vs:Array Value}{a0:Value}{Q:Unit->Shared->Prop}
  (hfr:A.frames=some (e0::outer)) (hl:s.heap.FunFrames base (e0::outer)) (hf:env.frame=some L) (h0:e0.frame=some L)
  (ho:s.heap.get? x=some oe) (hc:oe.cls=cls/\oe.dict=d) (hd:oe.data=.fields vs) (hv0:vs[0]?=some a0) (hsz:1<vs.size)
  (h:∀h' t,XTr h' x t cls d (rawInt L)->XMove ((e0::outer).filterMap (·.frame)) x T (some t) s.heap h'->s.heap.objs.size<=t->Q () {s with heap:=h'}) :
  wpAny M A (do let a ←frameOf env;let pl ←entryPlaceOf L had;let b ←EntryCells.newEntry head a .none (rawInt L) .none pl;setField (.ref x) 1 b) Q E s:=by
 have nin:x∉(e0::outer).filterMap (·.frame):=λhm=>by
  obtain⟨_,o,ho',nf⟩:=hl.mem hm
  rw[ho] at ho';cases ho';exact nf vs hd
 refine wpAny_bind (J3 hfr hl hf h0 λh1 q1=>?_)
 refine wpAny_bind (wpAny_entryPlaceOf λpl hpl=>?_)
 unfold EntryCells.newEntry newFields
 refine wpAny_bind (wpAny_newObj_type ?_ (hpl.sizeOk5 _ _ _ _ _))
 have e1:h1.get? x=some oe:=(q1.2.1 x nin).trans ho
 generalize hob:({cls:=.type "traceback",dict:=none,data:=.fields ([head,.ref L,.none,rawInt L,.none]++(if pl.isEmpty then List.replicate 6 Value.none else pl)).toArray}:Obj)=ob
 have e2:=Heap.get?_push_of_some (h:=h1) ob e1
 have hdata:ob.data=.fields ([head,.ref L,.none,rawInt L,.none]++(if pl.isEmpty then List.replicate 6 Value.none else pl)).toArray:=by rw[←hob]
 have hfree:ob.isFreed=false:=by rw[←hob];rfl
 refine wpAny_setField e2 hd hsz ?_
 have tx:h1.objs.size≠x:=Nat.ne_of_gt (Heap.lt_size e1)
 have d3:=Obj.data_mapFields hd (·.setIfInBounds 1 (Value.ref h1.objs.size))
 have e3:=Heap.get?_update_self (Obj.mapFields (·.setIfInBounds 1 (Value.ref h1.objs.size))) e2 (Obj.isFreed_of_fields d3)
 have other:∀b o,b≠x->h1.get? b=some o->((h1.push ob).update x (Obj.mapFields (·.setIfInBounds 1 (Value.ref h1.objs.size)))).get? b=some o:=λb o hb e=>by
  rw[Heap.get?_update_other _ _ (Ne.symm hb)];exact Heap.get?_push_of_some _ e
 refine h _ h1.objs.size ⟨_,_,a0,ob,_,e3,⟨(Obj.cls_mapFields _ _).trans hc.1,(kG _ _).trans hc.2⟩,d3,by rw[Array.getElem?_setIfInBounds_ne (by decide)];exact hv0,by simp[hsz],tx,?_,hdata,?_⟩ ⟨λb o e nb nx _=>?_,λb o e _ nx _=>?_,λt ht=>.inr ?_⟩ (Nat.le_of_eq q1.1.symm)
 ·rw[Heap.get?_update_other _ _ (Ne.symm tx)];exact Heap.get?_push_size _ hfree
 ·first|(simp;done)|(rcases hpl with rfl|⟨_,_,_,_,_,_,_,rfl⟩<;>simp)
 ·exact other b o nx ((q1.2.1 b nb).trans e)
 ·obtain⟨sl,e'⟩:=q1.2.2 b o e
  exact⟨sl,other b _ nx e'⟩
 ·have:t=h1.objs.size:=by simpa using ht
  rw[this];exact Nat.le_of_eq q1.1.symm
theorem VJ{base:Heap}{env e0:Env}{outer:List Env}{L x:Addr}{cls:Value}{d T:Option Addr}{fl:Value}{Q:Unit->Shared->Prop}
  (hfr:A.frames=some (e0::outer)) (hl:s.heap.FunFrames base (e0::outer)) (hf:env.frame=some L) (h0:e0.frame=some L) (hx:z18 s.heap x cls d T fl) (hfl:fl=.none\/fl=rawInt L)
  (h:∀h' t,XTr h' x t cls d (rawInt L)->XMove ((e0::outer).filterMap (·.frame)) x T (some t) s.heap h'->Q () {s with heap:=h'}):wpAny M A (noteFrame (.ref x) env) Q E s:=by
 unfold noteFrame
 simp only[hf]
 cases T with
 |none=>
  obtain⟨⟨oe,vs,a0,ho,hc,hd,hv0,hv1⟩,_⟩:=hx
  refine wpAny_bind (wpAny_field ho hd hv1 ?_)
  rw[if_neg (by decide)]
  exact xH (T:=none) hfr hl hf h0 ho hc hd hv0 (Array.getElem?_eq_some_iff.mp hv1).1 λh' t a b _=>h h' t a b
 |some T=>
  obtain⟨oe,vs,a0,oT,ts,ho,hc,hd,hv0,hv1,hT,hoT,hdT,h3⟩:=hx
  refine wpAny_bind (wpAny_field ho hd hv1 ?_)
  rw[if_pos (show (Value.ref T != Value.none)=true from by simp)]
  refine wpAny_bind (wpAny_field hoT hdT h3 ?_)
  by_cases hq:fl=rawInt L
  ·subst hq
   rw[if_pos (show (rawInt L == rawInt L)=true from by simp)]
   exact wpAny_pure (h s.heap T ⟨oe,vs,a0,oT,ts,ho,hc,hd,hv0,hv1,hT,hoT,hdT,h3⟩ (XMove.refl _ _ _ _))
  ·obtain rfl:fl=.none:=hfl.resolve_right hq
   rw[if_neg (show ¬((Value.none == rawInt L)=true) from by simp[rawInt])]
   refine wpAny_bind (wpAny_setField hoT hdT (Array.getElem?_eq_some_iff.mp h3).1 ?_)
   have oth:∀b,b≠T->(s.heap.update T (Obj.mapFields (·.setIfInBounds 3 Value.none))).get? b=s.heap.get? b:=λb hb=>Heap.get?_update_other _ _ (Ne.symm hb)
   have fr:∀b∈(e0::outer).filterMap (·.frame),b≠T:=λb hb z=>by
    obtain⟨_,o,ho',nf⟩:=hl.mem hb
    rw[z,hoT] at ho';cases ho';exact nf ts hdT
   refine xH (T:=some T) (s:={s with heap:=s.heap.update T (Obj.mapFields (·.setIfInBounds 3 Value.none))}) (base:=base) hfr (hl.of_keeps λb o e nf=>⟨o,(oth b λz=>?_).trans e,rfl⟩) hf h0 ((oth x (Ne.symm hT)).trans ho) hc hd hv0 (Array.getElem?_eq_some_iff.mp hv1).1 λh' t a b c=>h h' t a ⟨?_,?_,?_⟩
   ·rw[z,hoT] at e;cases e;exact nf ts hdT
   ·exact λd o e n1 n2 n3=>b.keep d o ((oth d λz=>n3 (by simp[z])).trans e) n1 n2 n3
   ·exact λd o e n1 n2 n3=>b.slot d o ((oth d λz=>n3 (by simp[z])).trans e) n1 n2 n3
   ·intro t' ht'
    rcases b.newT t' ht' with z|z
    ·exact .inl z
    ·refine .inr (Nat.le_trans (Nat.le_of_eq ?_) z)
     exact (Heap.size_after_update ..).symm
theorem Q9{x T:Addr}{cls fl:Value}{d fr:Option Addr}{fs:List Addr}{Q:Unit->Shared->Prop}(hx:XTr s.heap x T cls d fl)
  (h:∀h',XTr h' x T cls d (fr.elim .none λf=>rawInt f)->XMove fs x (some T) (some T) s.heap h'->Q () {s with heap:=h'}):wpAny M A (setFlight (.ref x) fr) Q E s:=by
 obtain⟨oe,vs,a0,oT,ts,ho,hc,hd,hv0,hv1,hT,hoT,hdT,h3⟩:=hx
 have sz:3<ts.size:=(Array.getElem?_eq_some_iff.mp h3).1
 unfold setFlight
 refine wpAny_bind (wpAny_field ho hd hv1 ?_)
 rw[if_pos (show (Value.ref T != Value.none)=true from by simp)]
 refine wpAny_setField hoT hdT sz ?_
 have oth:∀b,b≠T->(s.heap.update T (Obj.mapFields (·.setIfInBounds 3 (fr.elim .none λf=>rawInt f)))).get? b=s.heap.get? b:=λb hb=>Heap.get?_update_other _ _ (Ne.symm hb)
 have dT:=Obj.data_mapFields hdT (·.setIfInBounds 3 (fr.elim Value.none λf=>rawInt f))
 exact h _ ⟨oe,vs,a0,_,_,(oth x (Ne.symm hT)).trans ho,hc,hd,hv0,hv1,hT,Heap.get?_update_self _ hoT (Obj.isFreed_of_fields dT),dT,by simp[sz]⟩
  ⟨λb o e _ _ n=>(oth b λz=>n (by simp[z])).trans e,λb o e _ _ n=>⟨o.slots,(oth b λz=>n (by simp[z])).trans e⟩,λt ht=>.inl ht⟩
end
end NH
namespace NH
open PySem PySem.Spec PyProof.Rows L2
noncomputable abbrev St:=L2.St
theorem yI{P:Program}{w:World}{H:Hp}{h:Heap}{a:Addr}{o:HO}(x:ObjOk P w H h a o):∃ob,h.get? a=some ob:=by
 cases o with
 |lst xs=>obtain⟨_,_,_,_,e⟩:=x;exact⟨_,e⟩
 |tup xs=>obtain⟨_,_,_,ob,e,_⟩:=x;exact⟨ob,e⟩
 |dK kvs=>obtain⟨_,_,_,_,o,_,_,e,_⟩:=x;exact⟨o,e⟩
 |dT kvs=>obtain⟨_,_,_,_,o,_,_,e,_⟩:=x;exact⟨o,e⟩
 |set S n=>obtain⟨o,_,_,_,e,_⟩:=x;exact⟨o,e⟩
 |ins C dx fs=>obtain⟨_,_,_,e,_⟩:=x;exact⟨_,e⟩
 |own y=>obtain⟨o,e⟩:=x;exact⟨o,e⟩
 |xd fs=>obtain⟨_,⟨o,_,_,e,_⟩,_⟩:=x;exact⟨o,e⟩
 |rng lo hi=>obtain⟨_,_,_,e⟩:=x;exact⟨_,e⟩
 |frz ob u=>obtain⟨e,_⟩:=x;exact⟨_,e⟩
 |tbl ps=>exact⟨_,(show h.get? a=some _ from x)⟩
 |met f y=>exact⟨_,(show h.get? a=some _ from x)⟩
 |ext φ=>obtain⟨_,⟨o,e⟩,_⟩:=x;exact⟨o,e⟩
structure XOk(X:Cx)(H:Hp)(b:Addr):Prop where
 free:H b=none
 loc:b≠X.env.locals
 nfs:b∉X.fs
 new:b∈X.ex\/X.s₀.heap.get? b=none
 cel:∀x c,X.env.cells.lookup x=some c->c≠b
 pin:∀p∈X.pn,p.1≠b
section
variable {X:Cx}{pins:List (Addr×Obj)}{σ:St}{H H':Hp}{s:Shared}{h':Heap}
theorem uV(I:Inv X pins σ H s){b:Addr}(e:s.heap.get? b=none):H b=none:=by
 cases q:H b with
 |none=>rfl
 |some o=>
  obtain⟨ob,z⟩:=yI (I.hok b o q)
  rw[e] at z;cases z
theorem wD(I:Inv X pins σ H s){b:Addr}(e:s.heap.get? b=none):XOk X H b:=by
 refine⟨uV I e,λz=>?_,λz=>?_,?_,λx c q z=>?_,λp hp z=>?_⟩
 ·obtain⟨m,⟨o,_,_,ho,_⟩,_⟩:=I.loc
  rw[←z,e] at ho;cases ho
 ·obtain⟨_,o,ho,_⟩:=I.funs.mem z
  rw[e] at ho;cases ho
 ·by_cases hx:b∈X.ex
  ·exact .inl hx
  ·refine .inr ?_
   cases q:X.s₀.heap.get? b with
   |none=>rfl
   |some o=>
    obtain⟨o',z⟩:=I.base.there b o q hx
    rw[e] at z;cases z
 ·obtain⟨v,o,ho,_⟩:=I.cell x c q
  rw[z,e] at ho;cases ho
 ·have:=(I.pin p (List.mem_append_left _ hp)).1
  rw[z,e] at this;cases this
theorem Z6{ch:List Addr}(I:Inv X pins σ H s)(hch:∀b∈ch,XOk X H b/\∀p∈pins,p.1≠b)
  (keep:∀b o,b∉frs X.stack->b∉ch->s.heap.get? b=some o->h'.get? b=some o)
  (slot:∀b o,b∈frs X.stack->b∉ch->s.heap.get? b=some o->∃sl,h'.get? b=some {o with slots:=sl}) :
  Inv X pins σ H {s with heap:=h'}:=by
 have tr:∀b u,H b=some u->b∉ch:=λb u e z=>by rw[(hch b z).1.free] at e;cases e
 have trf:∀b u,H b=some u->b∉frs X.stack:=λb u e z=>by rw[I.stkFree b z] at e;cases e
 have any:∀b o,b∉ch->s.heap.get? b=some o->∃sl,h'.get? b=some {o with slots:=sl}:=λb o hb e=>by
  by_cases hf:b∈frs X.stack
  ·exact slot b o hf hb e
  ·exact⟨o.slots,keep b o hf hb e⟩
 have inf:∀b,b≠X.env.locals->b∉X.fs->b∉frs X.stack:=λb h1 h2 z=>(List.mem_cons.mp (I.stkSub b z)).elim h1 h2
 have nec:∀b o,X.s₀.heap.get? b=some o->b∉X.ex->b∉ch:=λb o e hx z=>by
  rcases (hch b z).1.new with q|q
  ·exact hx q
  ·rw[e] at q;cases q
 have neL:∀b o,X.s₀.heap.get? b=some o->b≠X.env.locals:=λb o e=>Nat.ne_of_lt (Nat.lt_of_lt_of_le (Heap.lt_size e) I.ok.above)
 have cellK:∀x c,X.env.cells.lookup x=some c->∀v,s.heap.IsCell c v->h'.IsCell c v:=λx c e v ⟨o,ho,hd⟩=>by
  obtain⟨sl,q⟩:=any c o (λz=>(hch c z).1.cel x c e rfl) ho
  exact⟨_,q,hd⟩
 refine⟨I.ok,I.os,I.bare,⟨λb o e n hb hx=>?_,λb o e n hb hx=>?_,λb o e n hx=>I.base.free b o e n hx,λb o e hx=>?_,λb xs e=>I.base.tups b xs e,λb o xs e=>I.base.frzs b o xs e,λb ps e=>I.base.tbls b ps e⟩,?_,λx c e=>?_,I.free,λx c e=>I.freeC x c e,λp hp=>?_,λb u e=>?_,I.len⟩
 ·exact keep b o (inf b (neL b o e) hb) (nec b o e hx) (I.base.keep b o e n hb hx)
 ·obtain⟨sl,e1⟩:=I.base.slot b o e n hb hx
  obtain⟨sl',e2⟩:=any b _ (nec b o e hx) e1
  exact⟨sl',e2⟩
 ·obtain⟨o',e1⟩:=I.base.there b o e hx
  obtain⟨sl,e2⟩:=any b o' (nec b o e hx) e1
  exact⟨_,e2⟩
 ·obtain⟨m,⟨o,es,ep,ho,r⟩,hl⟩:=I.loc
  obtain⟨sl,hL⟩:=any X.env.locals o (λz=>(hch _ z).1.loc rfl) ho
  refine⟨m,⟨_,es,ep,hL,r⟩,λi x v e1 e2 e3=>?_⟩
  obtain⟨u,ru,l⟩:=hl i x v e1 e2 e3
  refine⟨u,ru,?_⟩
  rcases l with l|⟨k,c,e,z⟩
  ·exact .inl l
  ·exact .inr ⟨k,c,e,cellK x c e _ z⟩
 ·obtain⟨v,z⟩:=I.cell x c e
  exact⟨v,cellK x c e v z⟩
 ·obtain⟨e,n,ne,nf,d⟩:=I.pin p hp
  have nch:p.1∉ch:=λz=>by
   rcases List.mem_append.mp hp with q|q
   ·exact (hch p.1 z).1.pin p q rfl
   ·exact (hch p.1 z).2 p q rfl
  exact⟨keep p.1 p.2 (inf p.1 ne nf) nch e,n,ne,nf,d⟩
 ·refine (I.hok b u e).stay (λc v hc q=>?_) (λ_ q=>q) λ_ _ q=>q
  rcases hc with z|z
  ·subst z;exact keep c v (trf c u e) (tr c u e) q
  ·exact keep c v (trf c _ z) (tr c _ z) q
structure Frm(X:Cx)(e0:Env)(out:List Env)(L:Addr):Prop where
 stk:X.stack=e0::out
 f0:e0.frame=some L
 fe:X.env.frame=some L
noncomputable abbrev XW:=Value->Option Addr->St->Hp->Prop
inductive XP(X:Cx)(W:XW)(e:Value)(s:Shared):Prop where
 |mk (x:Addr) (cls:Value) (d:Option Addr) (σ:St) (H:Hp) (T:Option Addr) (fl:Value) (ee:e=.ref x) (i:Inv X [] σ H s) (ox:XOk X H x) (ot:∀t∈T.toList,XOk X H t) (r:z18 s.heap x cls d T fl) (hf:fl=.none\/∃L,X.env.frame=some L/\fl=rawInt L) (w:W cls d σ H)
theorem QE{x:Addr}{T:Option Addr}{t:Addr}(I:Inv X [] σ H s)(ox:XOk X H x)(ot:∀t∈T.toList,XOk X H t)(mv:XMove (frs X.stack) x T (some t) s.heap h') :
  Inv X [] σ H {s with heap:=h'}/\XOk X H t:=by
 refine⟨Z6 (ch:=x::T.toList) I (λb hb=>⟨?_,λp hp=>absurd hp (by simp)⟩) (λb o hf hc e=>?_) (λb o hf hc e=>?_),?_⟩
 ·rcases List.mem_cons.mp hb with z|z
  ·rw[z];exact ox
  ·exact ot b z
 ·exact mv.keep b o e hf (λz=>hc (by simp[z])) (λz=>hc (List.mem_cons_of_mem _ z))
 ·exact mv.slot b o e hf (λz=>hc (by simp[z])) (λz=>hc (List.mem_cons_of_mem _ z))
 ·rcases mv.newT t (by simp) with z|z
  ·exact ot t z
  ·exact wD I (Heap.get?_none_of_le z)
theorem yL{M:Model}{A:Around}{E:Value->Shared->Prop}{W:XW}{e:Value}{e0:Env}{out:List Env}{L:Addr}{Q:Unit->Shared->Prop}(F:Frm X e0 out L)(hfr:A.frames=some X.stack)(p:XP X W e s)
  (h:∀x cls d σ H T h',e=.ref x->Inv X [] σ H {s with heap:=h'}->XOk X H x->XOk X H T->XTr h' x T cls d (rawInt L)->W cls d σ H->Q () {s with heap:=h'}):wpAny M A (noteFrame e X.env) Q E s:=by
 obtain⟨x,cls,d,σ,H,T,fl,rfl,I,ox,ot,hr,hfl,w⟩:=p
 have hst:=I.stack
 rw[F.stk] at hfr hst
 refine VJ hfr hst F.fe F.f0 hr (hfl.imp_right λ⟨L',e1,e2⟩=>by rw[F.fe] at e1;cases e1;exact e2) λh' t tr mv=>?_
 have mv':XMove (frs X.stack) x T (some t) s.heap h':=by rw[F.stk];exact mv
 obtain⟨I',o'⟩:=QE I ox ot mv'
 exact h x cls d σ H t h' rfl I' ox o' tr w
theorem jx{M:Model}{A:Around}{E:Value->Shared->Prop}{x T:Addr}{cls fl:Value}{d fr:Option Addr}{Q:Unit->Shared->Prop}(I:Inv X [] σ H s)(ox:XOk X H x)(oT:XOk X H T)(tr:XTr s.heap x T cls d fl)
  (h:∀h',Inv X [] σ H {s with heap:=h'}->XTr h' x T cls d (fr.elim .none λf=>rawInt f)->Q () {s with heap:=h'}):wpAny M A (setFlight (.ref x) fr) Q E s:=by
 refine Q9 (fs:=frs X.stack) tr λh' tr' mv=>h h' (QE (T:=some T) I ox (λt ht=>?_) mv).1 tr'
 have:t=T:=by simpa using ht
 rw[this];exact oT
theorem WX{W:XW}{M:Model}{e0:Env}{out:List Env}{L:Addr}(F:Frm X e0 out L)(hfr:X.A.frames=some X.stack):PassesOwn M X.A X.env (XP X W):=by
 intro e s p
 unfold notedBy
 refine yL F hfr p λx cls d σ H T h' ee I ox oT tr w=>?_
 subst ee
 unfold cameBackBy
 obtain⟨oe,vs,a0,oT',ts,ho,hc,hd,hv0,hv1,hT,hoT,hdT,h3⟩:=id tr
 refine wpAny_bind (wpAny_field ho hd hv1 ?_)
 rw[if_neg (show ¬((Value.ref T == Value.none)=true) from by simp)]
 rw[F.fe]
 have go:wpAny M X.A (setFlight (.ref x) (some L)) (λ_ s''=>XP X W (.ref x) s'') (XP X W) {s with heap:=h'}:=
  jx (s:={s with heap:=h'}) I ox oT tr λh2 I2 tr2=>⟨x,cls,d,σ,H,some T,rawInt L,rfl,I2,ox,λt ht=>by
   have:t=T:=by simpa using ht
   rw[this];exact oT,tr2,.inr ⟨L,F.fe,rfl⟩,w⟩
 first|exact go|exact wpAny_bind (wpAny_pure go)
inductive CXP(P:Program)(w:World)(outer:List Env)(H:Hp)(s:Shared)(E:XK)(e:Value)(s':Shared):Prop where
 |mk (x T:Addr) (cls:Value) (d:Option Addr) (H':Hp) (ee:e=.ref x) (o:s'.os=s.os) (b:AllBare s'.gens) (n:Un (frs outer) [] H H' s.heap s'.heap) (k:HOk P w H' s'.heap) (h1:s.heap.get? x=none) (h2:s.heap.get? T=none) (h3:H' x=none) (h4:H' T=none) (t:XTr s'.heap x T cls d .none) (q:E cls d H')
noncomputable def CX1 (P:Program)(w:World):CXT:=CXP P w
noncomputable def wOf (E:XK):XW:=λc d _ H=>E c d H
theorem VS{M:Model}{E:XK}{e:Value}{e0:Env}{out:List Env}{L:Addr}{F2:Value->Shared->Prop}(F:Frm X e0 out L)(hfr:X.A.frames=some X.stack)(hex:X.ex=[])(p:XP X (wOf E) e s) :
  wpAny M X.A (leaving X.env e) (λ_ s''=>CX1 X.prog X.w X.outer X.H₀ X.s₀ E e s'') F2 s:=by
 unfold leaving
 refine wpAny_bind (yL F hfr p λx cls d σ H T h' ee I ox oT tr w=>?_)
 subst ee
 refine jx (s:={s with heap:=h'}) I ox oT tr λh2 I2 tr2=>?_
 have nw:∀b,XOk X H b->X.s₀.heap.get? b=none:=λb o=>o.new.resolve_left (by rw[hex];simp)
 refine⟨x,T,cls,d,H,rfl,I2.os,I2.bare,?_,I2.hok,nw x ox,nw T oT,ox.free,oT.free,tr2,w⟩
 have:=I2.base
 rw[hex] at this
 exact this
theorem uD{E:XK}{W:XW}{e:Value}{s':Shared}(I:Inv X pins σ H s)(c:CX1 X.prog X.w X.stack H s E e s')(h:∀cls d H',E cls d H'->W cls d σ H'):XP X W e s':=by
 obtain⟨x,T,cls,d,H',rfl,os,bare,un,hok,nx,nT,fx,fT,tr,w⟩:=c
 have J:Inv X pins σ H' s':=I.call' (ch:=[]) os un hok bare λb z=>absurd z (by simp)
 have k:∀b,s.heap.get? b=none->H' b=none->XOk X H' b:=λb e f=>by
  have o:=wD I e
  exact⟨f,o.loc,o.nfs,o.new,o.cel,o.pin⟩
 refine⟨x,cls,d,σ,H',some T,.none,rfl,J.pins_of (λp hp=>absurd hp (by simp)),k x nx fx,λt ht=>?_,tr,.inl rfl,h cls d H' w⟩
 have:t=T:=by simpa using ht
 rw[this];exact k T nT fT
theorem Xy{W:XW}{x:Addr}{cls:Value}{args:List Value}{h2:Heap}(I:Inv X pins σ H s)(mk:Heap.MadeExcOf s.heap h2 x cls args)(w:W cls none σ H):XP X W (.ref x) {s with heap:=h2}:=by
 have J:Inv X pins σ H {s with heap:=h2,toks:=s.toks}:=I.kept mk.keeps
 obtain⟨t,ho,_,_⟩:=mk.there
 exact⟨x,cls,none,σ,H,none,.none,rfl,J.pins_of (λp hp=>absurd hp (by simp)),wD I mk.new,λt ht=>absurd ht (by simp),⟨⟨_,_,.ref t,ho,⟨rfl,rfl⟩,rfl,rfl,rfl⟩,rfl⟩,.inl rfl,w⟩
noncomputable abbrev Cx.pin'(X:Cx)(pins:List (Addr×Obj)):Cx:={X with pn:=X.pn++pins}
theorem z0f(ok:X.Ok):(Cx.pin' X pins).Ok:=⟨ok.mod,ok.kind,ok.glob,ok.blt,ok.above,ok.inj,ok.has,ok.cab,ok.hd,ok.frames,ok.stk,ok.exf,ok.bs,ok.bsz,ok.noex,ok.exfs,ok.funs,ok.frf⟩
theorem Jm(ok:(Cx.pin' X pins).Ok):X.Ok:=⟨ok.mod,ok.kind,ok.glob,ok.blt,ok.above,ok.inj,ok.has,ok.cab,ok.hd,ok.frames,ok.stk,ok.exf,ok.bs,ok.bsz,ok.noex,ok.exfs,ok.funs,ok.frf⟩
theorem Jr(I:Inv X pins σ H s):Inv (Cx.pin' X pins) [] σ H s:=⟨z0f I.ok,I.os,I.bare,I.base,I.loc,I.cell,I.free,I.freeC,λp hp=>I.pin p (by simpa using hp),I.hok,I.len⟩
theorem kv(I:Inv (Cx.pin' X pins) [] σ H s):Inv X pins σ H s:=⟨Jm I.ok,I.os,I.bare,I.base,I.loc,I.cell,I.free,I.freeC,λp hp=>I.pin p (by simpa using hp),I.hok,I.len⟩
theorem yo{E:Value->Shared->Prop}{W:XW}{e:Value}(p:XP (X.wish E) W e s):XP X W e s:=by
 obtain⟨x,cls,d,σ,H,T,fl,a,I,b,c,r,r2,r3⟩:=p
 exact⟨x,cls,d,σ,H,T,fl,a,I.unwish,⟨b.free,b.loc,b.nfs,b.new,b.cel,b.pin⟩,λt ht=>let b:=c t ht;⟨b.free,b.loc,b.nfs,b.new,b.cel,b.pin⟩,r,r2,r3⟩
end
end NH
namespace NH
open PySem
inductive T where
 |non|bl (b:Bool)|int (i:Int)|str (x:Str)
 |tup (ts:List T)|lst (ts:List T)|obj (c:Nat) (fs:List (Nat×T))
 |mut (i:Nat)
 |exc (c:Nat) (fs:List (Nat×T))
 |dic (kvs:List (L2.Key×T))
 |clo (j:Nat) (cs:List T)
inductive MO where
 |lst (ts:List T)|obj (c:Nat) (fs:List (Nat×T))|dic (kvs:List (L2.Key×T))
 |tab (j:Nat)
noncomputable abbrev XO:MO->Bool
 |.tab _=>true
 |_=>false
noncomputable abbrev Mem:=List MO
noncomputable abbrev Sl:=List (Option T)
mutual
def v7:T->Bool
 |.mut _=>false
 |.tup ts=>xj ts
 |.lst ts=>xj ts
 |.obj _ fs=>jK fs
 |.exc _ fs=>jK fs
 |.dic kvs=>QR kvs
 |.clo _ cs=>xj cs
 |_=>true
def xj:List T->Bool
 |[]=>true
 |t::r=>v7 t&&xj r
def jK:List (Nat×T)->Bool
 |[]=>true
 |p::r=>v7 p.2&&jK r
def QR:List (L2.Key×T)->Bool
 |[]=>true
 |p::r=>v7 p.2&&QR r
end
noncomputable abbrev Xp:=Nat->List (Nat×T)->Mem->Prop
noncomputable abbrev RE(β:Type):=(β->Mem->Prop)->Xp->Prop
noncomputable abbrev RE.ok{β:Type}(a:β)(μ:Mem):RE β:=λK _=>K a μ
noncomputable abbrev RE.st{β:Type}:RE β:=λ_ _=>False
noncomputable abbrev RE.bind{β γ:Type}(r:RE γ)(k:γ->Mem->RE β):RE β:=λK Z=>r (λa μ=>k a μ K Z) Z
noncomputable abbrev RE.grd{β:Type}(p:Prop)(r:RE β):RE β:=λK Z=>p/\r K Z
noncomputable abbrev RE.som{β γ:Type}(o:Option γ)(k:γ->RE β):RE β:=λK Z=>∃a,o=some a/\k a K Z
@[reducible] noncomputable def brW(b:Bool)(A B:Prop):Prop:=match b with
 |true=>A
 |false=>B
noncomputable abbrev RE.br{β:Type}(b:Bool)(r s:RE β):RE β:=λK Z=>brW b (r K Z) (s K Z)
structure En where
 nx:Sl->Mem->Prop
 rt:T->Mem->Prop
 bk:Sl->Mem->Prop
 ct:Sl->Mem->Prop
 ex:Nat->List (Nat×T)->Sl->Mem->Prop
noncomputable abbrev Out:=En->Prop
noncomputable abbrev En.nxt(E:En)(f:Sl->Mem->Prop):En:=⟨f,E.rt,E.bk,E.ct,E.ex⟩
noncomputable abbrev En.turn(E:En)(N:Sl->Mem->Prop):En:=⟨N,E.rt,E.nx,N,E.ex⟩
noncomputable abbrev En.fn(K:T->Mem->Prop)(Z:Xp):En:=⟨λ_ μ1=>K .non μ1,K,λ_ _=>False,λ_ _=>False,λc fs _ μ1=>Z c fs μ1⟩
noncomputable abbrev Out.nx(τ:Sl)(μ:Mem):Out:=λE=>E.nx τ μ
noncomputable abbrev Out.rt(t:T)(μ:Mem):Out:=λE=>E.rt t μ
noncomputable abbrev Out.ex(c:Nat)(fs:List (Nat×T))(τ:Sl)(μ:Mem):Out:=λE=>E.ex c fs τ μ
noncomputable abbrev Out.st:Out:=λ_=>False
noncomputable abbrev Out.grd(p:Prop)(o:Out):Out:=λE=>p/\o E
noncomputable abbrev Out.som{γ:Type}(o:Option γ)(k:γ->Out):Out:=λE=>∃a,o=some a/\k a E
noncomputable abbrev Out.br(b:Bool)(r s:Out):Out:=λE=>brW b (r E) (s E)
noncomputable abbrev Out.seq(o:Out)(f:Sl->Mem->Out):Out:=λE=>o (E.nxt λτ μ=>f τ μ E)
noncomputable abbrev RE.out{β:Type}(r:RE β)(τ:Sl)(f:β->Mem->Out):Out:=λE=>r (λa μ=>f a μ E) (λc fs μ=>E.ex c fs τ μ)
noncomputable abbrev Fn:=List T->Mem->RE T
noncomputable abbrev De:=Sl->Mem->RE T
noncomputable abbrev Dt:=Sl->Mem->RE Bool
noncomputable abbrev Da:=Sl->Mem->RE (List T)
noncomputable abbrev Ds:=Sl->Mem->Out
noncomputable abbrev RI:=(List T->(Mem->Prop)->Mem->Prop)->Xp->Prop
noncomputable abbrev RI.ok(xs:List T)(o:Mem->Prop)(μ:Mem):RI:=λK _=>K xs o μ
noncomputable abbrev RI.st:RI:=λ_ _=>False
noncomputable abbrev RI.grd(p:Prop)(r:RI):RI:=λK Z=>p/\r K Z
noncomputable abbrev RI.go{β:Type}(r:RI)(k:List T->(Mem->Prop)->Mem->RE β):RE β:=λK Z=>r (λxs o μ=>k xs o μ K Z) Z
noncomputable abbrev RI.out(r:RI)(τ:Sl)(f:List T->(Mem->Prop)->Mem->Out):Out:=λE=>r (λxs o μ=>f xs o μ E) (λc fs μ=>E.ex c fs τ μ)
noncomputable abbrev RI.re(r:RI):RE (List T×(Mem->Prop)):=λK Z=>r (λxs o μ=>K (xs,o) μ) Z
noncomputable abbrev RE.it{β:Type}(r:RE β)(k:β->Mem->RI):RI:=λK Z=>r (λa μ=>k a μ K Z) Z
noncomputable abbrev Di:=Sl->Mem->RI
abbrev lvT:Mem->Prop:=λ_=>True
abbrev lvM(i:Nat)(xs:List T):Mem->Prop:=λμ=>μ[i]?=some (.lst xs)
structure LamD where
 jt:Nat
 qn:Str
 y:Str
 body:Expr
 sc:Scope
 fr:List Str
 g:De
noncomputable abbrev Jh(j jt:Nat)(ts:List T):T:=.clo (300+j) (.clo (100+jt) []::ts.map λt=>.clo 200 [t])
inductive GM where
 |fn (f:Fn)
 |fnh (nm:Str) (f:Fn)
 |met (c:Nat) (nm:Str) (f:Fn)
 |mk (c:Nat) (frozen:Bool) (f:Fn)
 |cst (t:T)
 |xcl (c:Nat)
 |xcf (c:Nat) (f:Nat)
 |xin (c f:Nat) (nm fl:Str)
 |mkd (c:Nat) (nm:Str) (n:Nat) (f:Fn)
 |metd (c:Nat) (nm:Str) (n:Nat) (d:T) (f:Fn)
 |kpr
 |kap (ls:List LamD)
 |none
 |bad
noncomputable abbrev uT(τ:Sl):Nat->Option T:=List.rec (motive:=λ_=>Nat->Option T) (λ_=>none) (λo _ ih i=>Nat.rec (motive:=λ_=>Option T) o (λn _=>ih n) i) τ
noncomputable abbrev k8(τ:Sl):Nat->Option T->Sl:=List.rec (motive:=λ_=>Nat->Option T->Sl) (λ_ _=>[]) (λo r ih i t=>Nat.rec (motive:=λ_=>Sl) (t::r) (λn _=>o::ih n t) i) τ
theorem uz:∀{τ:Sl} {i:Nat} {t:T},uT τ i=some t↔τ[i]?=some (some t)
 |[],_,_=>by simp
 |o::r,0,t=>by show o=some t↔_;simp
 |o::r,n+1,t=>by
  show uT r n=some t↔_
  rw[uz (τ:=r) (i:=n)];simp
theorem uk:∀{τ:Sl} {i:Nat} {t:Option T},k8 τ i t=τ.set i t
 |[],_,_=>by simp
 |o::r,0,t=>rfl
 |o::r,n+1,t=>by
  show o::k8 r n t=_
  rw[uk (τ:=r) (i:=n)];simp
noncomputable abbrev ZS(fs:List (Nat×T)):Nat->Option T:=List.rec (motive:=λ_=>Nat->Option T) (λ_=>none) (λp _ ih i=>Bool.rec (motive:=λ_=>Option T) (ih i) (some p.2) (Nat.beq p.1 i)) fs
noncomputable abbrev WE(f:Nat)(v:T)(fs:List (Nat×T)):List (Nat×T):=List.rec (motive:=λ_=>List (Nat×T)) [(f,v)] (λp r ih=>Bool.rec (motive:=λ_=>List (Nat×T)) (p::ih) ((p.1,v)::r) (Nat.beq p.1 f)) fs
theorem WH{p:Nat×T}{r:List (Nat×T)}{i:Nat}:ZS (p::r) i=match Nat.beq p.1 i with
  |true=>some p.2
  |false=>ZS r i:=by
 show (Bool.rec (ZS r i) (some p.2) (Nat.beq p.1 i):Option T)=_
 cases Nat.beq p.1 i<;>rfl
theorem Wa{f:Nat}{v:T}{p:Nat×T}{r:List (Nat×T)}:WE f v (p::r)=match Nat.beq p.1 f with
  |true=>(p.1,v)::r
  |false=>p::WE f v r:=by
 show (Bool.rec (p::WE f v r) ((p.1,v)::r) (Nat.beq p.1 f):List (Nat×T))=_
 cases Nat.beq p.1 f<;>rfl
noncomputable def idx:List Str->Str->Option Nat
 |[],_=>none
 |y::r,x=>if y=x then some 0 else (idx r x).map (·+1)
noncomputable abbrev tyN:T->Mem->Option Nat
 |.non,_=>some 0
 |.bl _,_=>some 1
 |.int _,_=>some 2
 |.str _,_=>some 3
 |.tup _,_=>some 4
 |.lst _,_=>some 5
 |.dic _,_=>some 6
 |.exc c _,_=>some c
 |.obj c _,_=>some c
 |_,_=>none
noncomputable abbrev tyO:MO->Nat
 |.lst _=>5
 |.obj c _=>c
 |.dic _=>6
 |.tab _=>99
noncomputable abbrev Kt(a b:Bool):Bool:=match a with
 |true=>b
 |false=>false
noncomputable abbrev bOr(a b:Bool):Bool:=match a with
 |true=>true
 |false=>b
noncomputable abbrev v_(a c:Nat):Bool:=bOr (Nat.beq a c) (bOr (Kt (Nat.beq a 1) (Nat.beq c 2)) (Kt (Nat.ble 10 a) (Kt (Nat.ble a 39) (bOr (Nat.beq c 11) (Kt (Nat.beq c 10) (Nat.ble 12 a))))))
noncomputable abbrev isAny(t:Nat)(cs:List Nat):Bool:=List.rec (motive:=λ_=>Bool) false (λc _ ih=>bOr (v_ t c) ih) cs
theorem ZF{t c:Nat}{r:List Nat}:isAny t (c::r)=bOr (v_ t c) (isAny t r):=rfl
noncomputable def big:Int:=18446744073709551616
noncomputable def room:Nat:=1000000
noncomputable abbrev YO:T->T->Mem->RE T
 |.int i,.int j,μ=>.ok (.int (i+j)) μ
 |.str x,.str y,μ=>.grd (x.length+y.length<=room) (.ok (.str (x++y)) μ)
 |.lst xs,.lst ys,μ=>.grd (xs.length+ys.length<=room) (.ok (.lst (xs++ys)) μ)
 |.tup xs,.tup ys,μ=>.grd (xs.length+ys.length<=room) (.ok (.tup (xs++ys)) μ)
 |.mut i,.lst ys,μ=>λK _=>∃xs,μ[i]?=some (.lst xs)/\xs.length+ys.length<=room/\K (.lst (xs++ys)) μ
 |.lst xs,.mut j,μ=>λK _=>∃ys,μ[j]?=some (.lst ys)/\xs.length+ys.length<=room/\K (.lst (xs++ys)) μ
 |.mut i,.mut j,μ=>λK _=>∃p:List T×List T,(μ[i]?=some (.lst p.1)/\μ[j]?=some (.lst p.2))/\p.1.length+p.2.length<=room/\K (.lst (p.1++p.2)) μ
 |_,_,_=>.st
noncomputable abbrev yZ(f:Int->Int->Mem->RE T):T->T->Mem->RE T
 |.int i,.int j,μ=>f i j μ
 |_,_,_=>.st
noncomputable abbrev z1z:Operator->T->T->Mem->RE T
 |.Add=>YO
 |.Sub=>yZ λi j μ=>.ok (.int (i-j)) μ
 |.Mult=>yZ λi j μ=>.grd ((-big<i/\i<big)\/(-big<j/\j<big)) (.ok (.int (i * j)) μ)
 |.FloorDiv=>yZ λi j μ=>.grd (0<j/\j<1606938044258990275541962092341162602522202993782792835301376) (.ok (.int (i / j)) μ)
 |.Mod=>yZ λi j μ=>.grd (0<j) (.ok (.int (i % j)) μ)
 |.Pow=>yZ λi j μ=>.grd (0<=j/\j<=1000000/\i.natAbs<18446744073709551616) (.ok (.int (i ^ j.toNat)) μ)
 |.RShift=>yZ λi j μ=>.grd (0<=j) (.ok (.int (i / 2 ^ j.toNat)) μ)
 |.BitAnd=>yZ λi j μ=>.ok (.int (Builtin.bitAnd i j)) μ
 |_=>λ_ _ _=>.st
mutual
def eqT:T->T->Option Bool
 |.int i,b=>match b with
  |.int j=>some (i == j)
  |.bl k=>some (i == (if k then 1 else 0))
  |.str _=>some false
  |.non=>some false
  |.tup _=>some false
  |.lst _=>some false
  |_=>none
 |.bl k,b=>match b with
  |.int j=>some ((if k then 1 else 0) == j)
  |.bl j=>some (k == j)
  |.str _=>some false
  |.non=>some false
  |.tup _=>some false
  |.lst _=>some false
  |_=>none
 |.str x,b=>match b with
  |.str y=>some (x == y)
  |.int _=>some false
  |.bl _=>some false
  |.non=>some false
  |.tup _=>some false
  |.lst _=>some false
  |_=>none
 |.non,b=>match b with
  |.non=>some true
  |.int _=>some false
  |.bl _=>some false
  |.str _=>some false
  |.tup _=>some false
  |.lst _=>some false
  |_=>none
 |.tup xs,b=>match b with
  |.tup ys=>eqL xs ys
  |.non=>some false
  |.int _=>some false
  |.bl _=>some false
  |.str _=>some false
  |.lst _=>some false
  |_=>none
 |.lst xs,b=>match b with
  |.lst ys=>eqL xs ys
  |.non=>some false
  |.int _=>some false
  |.bl _=>some false
  |.str _=>some false
  |.tup _=>some false
  |_=>none
 |_,_=>none
def eqL:List T->List T->Option Bool
 |[],[]=>some true
 |[],_::_=>some false
 |_::_,[]=>some false
 |x::xs,y::ys=>match eqT x y,eqL xs ys with
  |some a,some b=>some (a&&b)
  |_,_=>none
end
mutual
def wY:T->Nat
 |.tup ts=>qo ts+1
 |.lst ts=>qo ts+1
 |_=>0
def qo:List T->Nat
 |[]=>0
 |t::r=>max (wY t) (qo r)
end
noncomputable abbrev scT:T->T->Option Bool
 |.non,.non=>some true
 |.non,.int _=>some false|.int _,.non=>some false|.non,.bl _=>some false|.bl _,.non=>some false|.non,.str _=>some false|.str _,.non=>some false
 |.int i,.int j=>some (decide (i=j))|.bl i,.bl j=>some (decide (i=j))|.str i,.str j=>some (decide (i=j))
 |.int _,.str _=>some false|.str _,.int _=>some false|.bl _,.str _=>some false|.str _,.bl _=>some false
 |_,_=>none
noncomputable abbrev eqW(x y:T)(μ:Mem)(k:Bool->RE T):RE T:=match x,y with
 |.tup xs,.tup ys=>.grd (qo xs<=40) (.som (eqL xs ys) k)
 |.lst xs,.lst ys=>.grd (qo xs<=40) (.som (eqL xs ys) k)
 |.mut i,.lst ys=>λK Z=>∃xs,μ[i]?=some (.lst xs)/\RE.grd (qo xs<=40) (.som (eqL xs ys) k) K Z
 |.lst xs,.mut j=>λK Z=>∃ys,μ[j]?=some (.lst ys)/\RE.grd (qo xs<=40) (.som (eqL xs ys) k) K Z
 |.mut i,.mut j=>λK Z=>∃p:List T×List T,(μ[i]?=some (.lst p.1)/\μ[j]?=some (.lst p.2))/\RE.grd (qo p.1<=40) (.som (eqL p.1 p.2) k) K Z
 |x,y=>match scT x y with
  |some b=>k b
  |none=>.st
noncomputable def intsOf:List T->Option (List Int)
 |[]=>some []
 |.int i::r=>(intsOf r).map (i::·)
 |_::_=>none
noncomputable abbrev ltW(x y:T)(k:Bool->RE T):RE T:=match x,y with
 |.int i,.int j=>k (decide (i<j))
 |.tup xs,.tup ys=>.som (intsOf xs) λns=>.som (intsOf ys) λms=>k (HT.lexLt ns ms)
 |.str a,.str b=>k (decide (a.cps.toList<b.cps.toList))
 |_,_=>.st
noncomputable abbrev u9(op:CmpOp)(x y:T)(μ:Mem):RE T:=
 match op with
 |.Eq=>eqW x y μ λb=>.ok (.bl b) μ
 |.NotEq=>eqW x y μ λb=>.ok (.bl (!b)) μ
 |.Lt=>ltW x y λb=>.ok (.bl b) μ
 |.LtE=>match x,y with|.int i,.int j=>.ok (.bl (decide (i<=j))) μ|_,_=>.st
 |.Gt=>match x,y with|.int i,.int j=>.ok (.bl (decide (j<i))) μ|_,_=>.st
 |.GtE=>match x,y with|.int i,.int j=>.ok (.bl (decide (j<=i))) μ|_,_=>.st
 |.Is=>(match y with
  |.non=>.ok (.bl (match x with|.non=>true|_=>false)) μ
  |.bl b=>(match x with|.bl a=>.ok (.bl (decide (a=b))) μ|_=>.st)
  |_=>.st)
 |.IsNot=>(match y with
  |.non=>.ok (.bl (match x with|.non=>false|_=>true)) μ
  |.bl b=>(match x with|.bl a=>.ok (.bl (!decide (a=b))) μ|_=>.st)
  |_=>.st)
 |.In=>(match x,y with|.str i,.str j=>.ok (.bl (!(Builtin.Str.occurrences j i 0 j.length 1).isEmpty)) μ|_,_=>.st)
 |.NotIn=>(match x,y with|.str i,.str j=>.ok (.bl (!(!(Builtin.Str.occurrences j i 0 j.length 1).isEmpty))) μ|_,_=>.st)
noncomputable abbrev uG:T->Mem->RE Bool
 |.bl b,μ=>.ok b μ
 |_,_=>.st
noncomputable abbrev eC(t:T):De:=λ_ μ=>.ok t μ
noncomputable abbrev eV(i:Nat):De:=λτ μ=>match uT τ i with
 |some t=>.ok t μ
 |none=>.st
noncomputable abbrev zb(op:Operator)(f g:De):De:=λτ μ=>(f τ μ).bind λx μ1=>(g τ μ1).bind λy μ2=>z1z op x y μ2
noncomputable abbrev z0D(f:De):De:=λτ μ=>(f τ μ).bind λx μ1=>match x with|.int i=>.ok (.int (-i)) μ1|_=>.st
noncomputable abbrev z08(f:De):De:=λτ μ=>(f τ μ).bind λx μ1=>match x with|.bl b=>.ok (.bl (!b)) μ1|_=>.st
noncomputable abbrev WV(f g:De):De:=λτ μ=>(f τ μ).bind λx μ1=>match x with|.bl b=>.br b (g τ μ1) (.ok (.bl false) μ1)|_=>.st
noncomputable abbrev eOr(f g:De):De:=λτ μ=>(f τ μ).bind λx μ1=>match x with|.bl b=>.br b (.ok (.bl true) μ1) (g τ μ1)|_=>.st
noncomputable abbrev zj(op:CmpOp)(f g:De):De:=λτ μ=>(f τ μ).bind λx μ1=>(g τ μ1).bind λy μ2=>u9 op x y μ2
noncomputable abbrev chS(op:CmpOp)(last:Bool)(ih:T->Sl->Mem->RE T)(x y:T)(τ:Sl)(μ1:Mem):RE T:=match last with
 |true=>u9 op x y μ1
 |false=>(u9 op x y μ1).bind λk μ2=>match k with
  |.bl b=>.br b (ih y τ μ2) (.ok (.bl false) μ2)
  |_=>.st
noncomputable abbrev VQ(ps:List (CmpOp×De)):T->Sl->Mem->RE T:=List.rec (motive:=λ_=>T->Sl->Mem->RE T) (λ_ _ _=>.st) (λp r ih x τ μ=>(p.2 τ μ).bind λy μ1=>chS p.1 r.isEmpty ih x y τ μ1) ps
noncomputable abbrev eCh(f:De)(ps:List (CmpOp×De)):De:=λτ μ=>(f τ μ).bind λx μ1=>VQ ps x τ μ1
noncomputable abbrev tE(f:De):Dt:=λτ μ=>(f τ μ).bind uG
noncomputable abbrev vx(f g:Dt):Dt:=λτ μ=>(f τ μ).bind λb μ1=>.br b (g τ μ1) (.ok false μ1)
noncomputable abbrev tOr(f g:Dt):Dt:=λτ μ=>(f τ μ).bind λb μ1=>.br b (.ok true μ1) (g τ μ1)
noncomputable abbrev vd(f:Dt):Dt:=λτ μ=>(f τ μ).bind λb μ1=>.ok (!b) μ1
noncomputable abbrev eIf(c:Dt)(f g:De):De:=λτ μ=>(c τ μ).bind λb μ1=>.br b (f τ μ1) (g τ μ1)
noncomputable abbrev xD(t:T)(f:Nat)(μ:Mem):RE T:=match t with
 |.obj _ fs=>(match ZS fs f with|some v=>.ok v μ|none=>.st)
 |.mut i=>λK _=>∃c fs v,μ[i]?=some (.obj c fs)/\ZS fs f=some v/\K v μ
 |_=>.st
noncomputable abbrev ze(f:De)(n:Nat):De:=λτ μ=>(f τ μ).bind λt μ1=>xD t n μ1
noncomputable def X5(n:Nat)(i:Int):Option Nat:=if 0<=i then (if i<n then some i.toNat else none) else if -(n:Int)<=i then some (i+n).toNat else none
noncomputable def yO {α:Type}(xs:List α)(i:Int):Option α:=(X5 xs.length i).bind λj=>xs[j]?
noncomputable abbrev XF(t i:T)(μ:Mem):RE T:=match i with
 |.int k=>(match t with
  |.lst ts=>.som (yO ts k) λv=>.ok v μ
  |.tup ts=>.som (yO ts k) λv=>.ok v μ
  |.mut j=>λK _=>∃ts v,μ[j]?=some (.lst ts)/\yO ts k=some v/\K v μ
  |.str z=>.grd (z.length<=room) (.som (yO z.cps.toList k) λc=>.ok (.str ⟨#[c]⟩) μ)
  |_=>.st)
 |_=>.st
noncomputable abbrev eIx(f g:De):De:=λτ μ=>(f τ μ).bind λx μ1=>(g τ μ1).bind λy μ2=>XF x y μ2
noncomputable def Vp(n d:Nat):Option Int->Nat
 |none=>d
 |some v=>if v<0 then (v+(n:Int)).toNat else min v.toNat n
noncomputable def uj {α:Type}(xs:List α)(lo hi:Option Int):List α:=(xs.drop (Vp xs.length 0 lo)).take (Vp xs.length xs.length hi-Vp xs.length 0 lo)
noncomputable abbrev Dp:=Sl->Mem->RE (Option Int)
noncomputable abbrev pN:Dp:=λ_ μ=>.ok none μ
noncomputable abbrev pS(f:De):Dp:=λτ μ=>(f τ μ).bind λt μ1=>match t with|.int i=>.ok (some i) μ1|_=>.st
noncomputable abbrev z12(x:T)(l h:Option Int)(μ:Mem):RE T:=match x with
 |.lst xs=>.ok (.lst (uj xs l h)) μ
 |.tup xs=>.ok (.tup (uj xs l h)) μ
 |.str z=>.grd (z.length<=room) (.ok (.str (Txt.slice z l h)) μ)
 |.mut i=>λK _=>∃ts,μ[i]?=some (.lst ts)/\K (.lst (uj ts l h)) μ
 |_=>.st
noncomputable abbrev eSl(f:De)(lo hi:Dp):De:=λτ μ=>(f τ μ).bind λx μ1=>(lo τ μ1).bind λl μ2=>(hi τ μ2).bind λh μ3=>z12 x l h μ3
noncomputable abbrev evs(fs:List De):Da:=List.rec (motive:=λ_=>Da) (λ_ μ=>.ok [] μ) (λf _ ih τ μ=>(f τ μ).bind λt μ1=>(ih τ μ1).bind λts μ2=>.ok (t::ts) μ2) fs
noncomputable abbrev X1(fs:List De):De:=λτ μ=>(evs fs τ μ).bind λts μ1=>.ok (.lst ts) μ1
noncomputable abbrev zE(fs:List De):De:=λτ μ=>(evs fs τ μ).bind λts μ1=>.ok (.tup ts) μ1
noncomputable abbrev ke(fs:List De):De:=λτ μ=>(evs fs τ μ).bind λts μ1=>.ok (.mut μ1.length) (μ1++[.lst ts])
noncomputable abbrev zd(g:Fn)(fs:List De):De:=λτ μ=>(evs fs τ μ).bind g
noncomputable abbrev Zq(c:Nat)(g:Fn)(ts:List T)(μ:Mem):RE T:=λK Z=>
 xj ts=true/\g (.mut 0::ts) [.obj c []] (λr μ1=>r=.non/\∃fs,μ1[0]?=some (.obj c fs)/\jK fs=true/\K (.obj c fs) μ) (λk fs _=>jK fs=true/\Z k fs μ)
noncomputable abbrev eMk(c:Nat)(g:Fn)(fs:List De):De:=λτ μ=>(evs fs τ μ).bind (Zq c g)
noncomputable abbrev VU(cs:List Nat)(x:T)(μ:Mem):RE T:=match x with
 |.mut i=>.som μ[i]? λo=>.br (XO o) .st (.ok (.bl (isAny (tyO o) cs)) μ)
 |x=>match tyN x μ with
  |some t=>.ok (.bl (isAny t cs)) μ
  |none=>.st
noncomputable abbrev WY(cs:List Nat)(f:De):De:=λτ μ=>(f τ μ).bind (VU cs)
noncomputable abbrev eB1(op:T->Mem->RE T)(f:De):De:=λτ μ=>(f τ μ).bind op
noncomputable abbrev wM(t:T)(μ:Mem):RE T:=match t with
 |.lst xs=>.ok (.int xs.length) μ
 |.tup xs=>.ok (.int xs.length) μ
 |.str s=>.grd (s.length<=room) (.ok (.int s.length) μ)
 |.mut i=>λK _=>∃xs,μ[i]?=some (.lst xs)/\K (.int xs.length) μ
 |_=>.st
noncomputable abbrev wX(o f:De):De:=λτ μ=>(o τ μ).bind λot μ1=>match ot with
 |.mut i=>λK Z=>(∃ts,μ1[i]?=some (.lst ts))/\f τ μ1 (λt μ2=>∃ts,μ2[i]?=some (.lst ts)/\ts.length<room/\K .non (μ2.set i (.lst (ts++[t])))) Z
 |_=>.st
noncomputable abbrev JN(z:Str):List T:=z.cps.toList.map λc=>T.str ⟨#[c]⟩
noncomputable abbrev U6(t:T)(μ:Mem):RI:=match t with
 |.lst xs=>.ok xs lvT μ
 |.tup xs=>.ok xs lvT μ
 |.str z=>.ok (JN z) lvT μ
 |.mut i=>λK _=>∃xs,μ[i]?=some (.lst xs)/\K xs (lvM i xs) μ
 |_=>.st
noncomputable abbrev iE(f:De):Di:=λτ μ=>(f τ μ).it U6
noncomputable def rangeT(n:Int):List T:=(List.range n.toNat).map λ(i:Nat)=>T.int i
noncomputable def jv(a b c:Int):List T:=(List.range (if a<b then (b-a-1) / c+1 else 0:Int).toNat).map λ(i:Nat)=>T.int (a+i * c)
noncomputable abbrev inL(a:Int):Prop := -1606938044258990275541962092341162602522202993782792835301376<=a/\a<1606938044258990275541962092341162602522202993782792835301376
noncomputable abbrev z0F(f:De):Di:=λτ μ=>(f τ μ).it λt μ1=>match t with
 |.int n=>.grd (inL n) (.ok (rangeT n) lvT μ1)
 |_=>.st
noncomputable abbrev Jx(x y z:T)(μ:Mem):RI:=match x,y,z with
 |.int a,.int b,.int c=>.grd (inL a/\inL b/\0<c/\c<1073741824) (.ok (jv a b c) lvT μ)
 |_,_,_=>.st
noncomputable abbrev XY(f g h:De):Di:=λτ μ=>(f τ μ).it λx μ1=>(g τ μ1).it λy μ2=>(h τ μ2).it λz μ3=>Jx x y z μ3
noncomputable abbrev Qt(f g:De):Di:=λτ μ=>(f τ μ).it λx μ1=>(g τ μ1).it λy μ2=>match x,y with
 |.int a,.int b=>.grd (inL a/\inL b) (.ok (jv a b 1) lvT μ2)
 |_,_=>.st
inductive Tg where
 |one (i:Nat)|tup (is:List Nat)
noncomputable abbrev uU(is:List Nat):List T->Sl->Option Sl:=List.rec (motive:=λ_=>List T->Sl->Option Sl) (λts τ=>List.rec (motive:=λ_=>Option Sl) (some τ) (λ_ _ _=>none) ts) (λi _ ih ts τ=>List.rec (motive:=λ_=>Option Sl) none (λt ts' _=>ih ts' (k8 τ i (some t))) ts) is
noncomputable abbrev asg:Tg->T->Sl->Option Sl
 |.one i,t,τ=>some (k8 τ i (some t))
 |.tup is,.tup ts,τ=>uU is ts τ
 |_,_,_=>none
noncomputable def qe(tg:Tg)(g:Sl->Mem->RE (Option T))(lv:Mem->Prop)(τ:Sl):List T->Mem->RE (List T)
 |[],μ=>.ok [] μ
 |x::r,μ=>.som (asg tg x τ) λτ'=>(g τ' μ).bind λo μ1=>.grd (lv μ1) (match o with
  |some y=>(qe tg g lv τ r μ1).bind λys μ2=>.ok (y::ys) μ2
  |none=>qe tg g lv τ r μ1)
noncomputable abbrev kc(cs:List Dt)(f:De):Sl->Mem->RE (Option T):=List.rec (motive:=λ_=>Sl->Mem->RE (Option T)) (λτ μ=>(f τ μ).bind λy μ1=>.ok (some y) μ1) (λc _ ih τ μ=>(c τ μ).bind λb μ1=>.br b (ih τ μ1) (.ok none μ1)) cs
noncomputable abbrev ZA(is:List Nat)(τ:Sl):Sl:=List.rec (motive:=λ_=>Sl) [] (λi _ ih=>uT τ i::ih) is
noncomputable abbrev blk(n:Nat)(fs:List Nat)(τ:Sl):Sl:=Nat.rec (motive:=λ_=>Sl) (ZA fs τ) (λ_ ih=>none::ih) n
noncomputable abbrev jQ(n:Nat)(fs:List Nat)(tg:Tg)(it:Di)(cs:List Dt)(f:De):De:=λτ μ=>(it τ μ).go λxs o μ1=>.grd (xs.length<=room) ((qe tg (kc cs f) o (blk n fs τ) xs μ1).bind λys μ2=>.ok (.lst ys) μ2)
noncomputable abbrev wR(n:Nat)(fs:List Nat)(tg:Tg)(it:Di)(cs:List Dt)(f:De):De:=λτ μ=>(it τ μ).go λxs o μ1=>.grd (xs.length<=room) ((qe tg (kc cs f) o (blk n fs τ) xs μ1).bind λys μ2=>.ok (.mut μ2.length) (μ2++[.lst ys]))
noncomputable abbrev zG(f:De):Ds:=λτ μ=>(f τ μ).out τ λt μ1=>.rt t μ1
noncomputable abbrev Vd:Ds:=λ_ μ=>.rt .non μ
noncomputable abbrev zo(f:De):Ds:=λτ μ=>(f τ μ).out τ λ_ μ1=>.nx τ μ1
noncomputable abbrev zU(ss:List Ds):Ds:=List.rec (motive:=λ_=>Ds) (λτ μ=>.nx τ μ) (λs _ ih τ μ=>(s τ μ).seq ih) ss
noncomputable abbrev sIf(c:Dt)(a b:List Ds):Ds:=λτ μ=>(c τ μ).out τ λk μ1=>.br k (zU a τ μ1) (zU b τ μ1)
noncomputable abbrev zf(i:Nat)(f:De):Ds:=λτ μ=>(f τ μ).out τ λt μ1=>.nx (k8 τ i (some t)) μ1
noncomputable abbrev z1A(is:List Nat)(f:De):Ds:=λτ μ=>(f τ μ).out τ λt μ1=>.som (asg (.tup is) t τ) λτ'=>.nx τ' μ1
noncomputable abbrev qq(o:De)(n:Nat)(f:De):Ds:=λτ μ=>(f τ μ).out τ λt μ1=>(o τ μ1).out τ λot μ2=>match ot with
 |.mut i=>λE=>∃c fs,μ2[i]?=some (.obj c fs)/\fs.length<900/\E.nx τ (μ2.set i (.obj c (WE n t fs)))
 |_=>.st
noncomputable abbrev Ki(o b f:De):Ds:=λτ μ=>(f τ μ).out τ λt μ1=>(o τ μ1).out τ λot μ2=>(b τ μ2).out τ λit μ3=>match ot,it with
 |.mut i,.int k=>λE=>∃ts,μ3[i]?=some (.lst ts)/\(0<=k/\k<ts.length/\k<9223372036854775808)/\E.nx τ (μ3.set i (.lst (ts.set k.toNat t)))
 |_,_=>.st
noncomputable def forM(tg:Tg)(body:Ds)(lv:Mem->Prop):List T->Ds
 |[],τ,μ=>.nx τ μ
 |x::r,τ,μ=>.som (asg tg x τ) λτ'=>λE=>body τ' μ (E.turn λτ2 μ2=>lv μ2/\forM tg body lv r τ2 μ2 E)
noncomputable abbrev Jb(tg:Tg)(it:Di)(body:List Ds):Ds:=λτ μ=>(it τ μ).out τ λxs o μ1=>forM tg (zU body) o xs τ μ1
noncomputable abbrev qh(c:Nat)(fs:List De):Ds:=λτ μ=>(evs fs τ μ).out τ λts μ1=>.grd (ts.length<=room) (.ex c [] τ μ1)
noncomputable abbrev ug(c f:Nat)(g:De):Ds:=λτ μ=>(g τ μ).out τ λt μ1=>match t with
 |.int i=>.grd (i.natAbs.log2<1920) (.ex c [(f,.int i)] τ μ1)
 |_=>.st
noncomputable abbrev pad(n:Nat):Sl:=Nat.rec (motive:=λ_=>Sl) [] (λ_ ih=>none::ih) n
noncomputable abbrev X4(ts:List T)(n:Nat):Sl:=List.rec (motive:=λ_=>Sl) (pad n) (λt _ ih=>some t::ih) ts
noncomputable abbrev fnW(n m:Nat)(body:List Ds):Fn:=λts μ K Z=>ts.length=n/\zU body (X4 ts m) μ (En.fn K Z)
end NH
namespace NH
open PySem PySem.Spec PyProof.Rows L2
section
structure DP where
 K:PySem.W.Frag
 adr:Nat->Option Addr
 cad:Nat->Option Addr
 fn:Nat->Option Str
 inj:∀i j x,fn i=some x->fn j=some x->i=j
 clo:Nat->Addr->Option HO->List V->Prop
 tabs:Nat->Option (Addr×List Pos×Str)
noncomputable def Ux (a C:Addr)(d:Option Addr):Heap->Prop:=λh=>∃oe vs,h.get? a=some oe/\oe.cls=.ref C/\oe.data=.fields vs/\oe.dict=d
noncomputable def w9(c:Addr)(qn:Str):Heap->Prop:=λh=>h.CodeRec (.ref c) qn
mutual
def Den (D:DP)(φ α:List Addr)(H:Hp):T->V->Prop
 |.non,v=>v=.non
 |.bl b,v=>v=.bl b
 |.int i,v=>v=.int i
 |.str x,v=>v=.str x
 |.mut i,v=>∃a,α[i]?=some a/\v=.ref a
 |.tup ts,v=>∃a xs,v=.ref a/\a∉φ/\a∉α/\Rd H a (.tup xs)/\DenL D φ α H ts xs
 |.lst ts,v=>∃a xs,v=.ref a/\a∉φ/\a∉α/\Rd H a (.lst xs)/\DenL D φ α H ts xs
 |.obj c fs,v=>∃a C dx gs,v=.ref a/\a∉φ/\a∉α/\D.cad c=some C/\H a=some (.ins C dx gs)/\DenF D φ α H fs gs
 |.exc c fs,v=>∃a C d,v=.ref a/\a∉φ/\a∉α/\D.adr c=some C/\H a=some (.ext (Ux a C d))/\(match d with
  |none=>fs=[]
  |some dx=>∃gs,dx∉φ/\dx∉α/\H dx=some (.xd gs)/\DenF D φ α H fs gs)
 |.dic kvs,v=>∃a gs,v=.ref a/\a∉φ/\a∉α/\H a=some (.dK gs)/\DenK D φ α H kvs gs
 |.clo j cs,v=>∃a ob xs,v=.ref a/\D.clo j a ob xs/\(∀o,ob=some o->a∉φ/\a∉α/\H a=some o)/\DenL D φ α H cs xs
def DenL (D:DP)(φ α:List Addr)(H:Hp):List T->List V->Prop
 |[],vs=>vs=[]
 |t::ts,vs=>∃v r,vs=v::r/\Den D φ α H t v/\DenL D φ α H ts r
def DenF (D:DP)(φ α:List Addr)(H:Hp):List (Nat×T)->List (Str×V)->Prop
 |[],gs=>gs=[]
 |p::fs,gs=>∃x v r,D.fn p.1=some x/\gs=(x,v)::r/\Den D φ α H p.2 v/\DenF D φ α H fs r
def DenK (D:DP)(φ α:List Addr)(H:Hp):List (Key×T)->List (Key×V)->Prop
 |[],gs=>gs=[]
 |p::fs,gs=>∃v r,gs=(p.1,v)::r/\Den D φ α H p.2 v/\DenK D φ α H fs r
end
noncomputable def XDict(D:DP)(φ α:List Addr)(H:Hp)(fs:List (Nat×T)):Option Addr->Prop
 |none=>fs=[]
 |some dx=>∃gs,dx∉φ/\dx∉α/\H dx=some (.xd gs)/\DenF D φ α H fs gs
noncomputable def DenO (D:DP)(φ α:List Addr)(H:Hp):MO->Addr->Prop
 |.lst ts,a=>∃xs,H a=some (.lst xs)/\DenL D φ α H ts xs
 |.obj c fs,a=>∃C dx gs,D.cad c=some C/\H a=some (.ins C dx gs)/\DenF D φ α H fs gs
 |.dic kvs,a=>∃gs,H a=some (.dK gs)/\DenK D φ α H kvs gs
 |.tab j,a=>∃poss qn ps,D.tabs j=some (a,poss,qn)/\H a=some (.tbl ps)/\TriplesOk ps.toList/\∀pos∈poss,codeAmong pos ps.toList=none\/∃c,codeAmong pos ps.toList=some (.ref c)/\c∉φ/\c∉α/\H c=some (.ext (w9 c qn))
structure Stp(α:List Addr)(H:Hp)(α':List Addr)(H':Hp):Prop where
 ext:∃β,α'=α++β/\∀b∈β,H b=none
 keep:∀b o,b∉α->H b=some o->H' b=some o
 live:∀b,H' b=none->H b=none
theorem Stp.refl(α:List Addr)(H:Hp):Stp α H α H:=⟨⟨[],by simp,by simp⟩,λ_ _ _ e=>e,λ_ e=>e⟩
theorem Stp.trans{α α1 α2:List Addr}{H H1 H2:Hp}(a:Stp α H α1 H1)(b:Stp α1 H1 α2 H2):Stp α H α2 H2:=by
 obtain⟨β,rfl,hβ⟩:=a.ext
 obtain⟨γ,rfl,hγ⟩:=b.ext
 refine⟨⟨β++γ,by simp,λc hc=>?_⟩,λc o n e=>?_,λc e=>a.live c (b.live c e)⟩
 ·rcases List.mem_append.mp hc with h|h
  ·exact hβ c h
  ·exact a.live c (hγ c h)
 ·refine b.keep c o (λh=>?_) (a.keep c o n e)
  rcases List.mem_append.mp h with h|h
  ·exact n h
  ·rw[hβ c h] at e;cases e
theorem Stp.new{α:List Addr}{H H':Hp}(s:vH H H'):Stp α H α H':=⟨⟨[],by simp,by simp⟩,λb o _ e=>s b o e,λb e=>by
 cases q:H b with
 |none=>rfl
 |some o=>rw[s b o q] at e;cases e⟩
theorem zk{H:Hp}{p:Addr}{o:HO}(h:H p=none):vH H (upd H p o):=λb u e=>by rw[za (zL e h)];exact e
theorem Stp.out{α α':List Addr}{H H':Hp}(s:Stp α H α' H'){a:Addr}{o:HO}(n:a∉α)(e:H a=some o):a∉α':=by
 obtain⟨β,rfl,hβ⟩:=s.ext
 intro h
 rcases List.mem_append.mp h with h|h
 ·exact n h
 ·rw[hβ a h] at e;cases e
section
variable {D:DP}{φ φ' α α':List Addr}{H H':Hp}
structure Lk(φ α:List Addr)(H:Hp)(φ' α':List Addr)(H':Hp):Prop where
 ob:∀a o,a∉φ->a∉α->H a=some o->a∉φ'/\a∉α'/\H' a=some o
 st:∀(i:Nat) (a:Addr),α[i]?=some a->α'[i]?=some a
mutual
theorem Den.lk(h:Lk φ α H φ' α' H'):∀{t:T} {v:V},Den D φ α H t v->Den D φ' α' H' t v
 |.non,_,d=>d
 |.bl _,_,d=>d
 |.int _,_,d=>d
 |.str _,_,d=>d
 |.mut i,_,d=>by obtain⟨a,e,q⟩:=d;exact⟨a,h.st i a e,q⟩
 |.tup ts,_,d=>by
  obtain⟨a,xs,rfl,n1,n2,r,l⟩:=d
  rcases r with r|⟨o,r⟩
  ·obtain⟨m1,m2,e⟩:=h.ob a _ n1 n2 r
   exact⟨a,xs,rfl,m1,m2,.inl e,DenL.lk h l⟩
  ·obtain⟨m1,m2,e⟩:=h.ob a _ n1 n2 r
   exact⟨a,xs,rfl,m1,m2,.inr ⟨o,e⟩,DenL.lk h l⟩
 |.lst ts,_,d=>by
  obtain⟨a,xs,rfl,n1,n2,r,l⟩:=d
  rcases r with r|⟨o,r⟩
  ·obtain⟨m1,m2,e⟩:=h.ob a _ n1 n2 r
   exact⟨a,xs,rfl,m1,m2,.inl e,DenL.lk h l⟩
  ·obtain⟨m1,m2,e⟩:=h.ob a _ n1 n2 r
   exact⟨a,xs,rfl,m1,m2,.inr ⟨o,e⟩,DenL.lk h l⟩
 |.obj c fs,_,d=>by
  obtain⟨a,C,dx,gs,rfl,n1,n2,ad,e,l⟩:=d
  obtain⟨m1,m2,e⟩:=h.ob a _ n1 n2 e
  exact⟨a,C,dx,gs,rfl,m1,m2,ad,e,DenF.lk h l⟩
 |.exc c fs,_,d=>by
  obtain⟨a,C,d,rfl,n1,n2,ad,e,l⟩:=d
  obtain⟨m1,m2,e⟩:=h.ob a _ n1 n2 e
  refine⟨a,C,d,rfl,m1,m2,ad,e,?_⟩
  cases d with
  |none=>exact l
  |some dx=>
   obtain⟨gs,k1,k2,e2,l⟩:=l
   obtain⟨k1,k2,e2⟩:=h.ob dx _ k1 k2 e2
   exact⟨gs,k1,k2,e2,DenF.lk h l⟩
 |.dic kvs,_,d=>by
  obtain⟨a,gs,rfl,n1,n2,e,l⟩:=d
  obtain⟨m1,m2,e⟩:=h.ob a _ n1 n2 e
  exact⟨a,gs,rfl,m1,m2,e,DenK.lk h l⟩
 |.clo j cs,_,d=>by
  obtain⟨a,ob,xs,rfl,c,e,l⟩:=d
  exact⟨a,ob,xs,rfl,c,λo z=>let ⟨n1,n2,q⟩:=e o z;h.ob a o n1 n2 q,DenL.lk h l⟩
theorem DenL.lk(h:Lk φ α H φ' α' H'):∀{ts:List T} {vs:List V},DenL D φ α H ts vs->DenL D φ' α' H' ts vs
 |[],_,l=>l
 |t::ts,_,l=>by
  obtain⟨v,r,rfl,a,b⟩:=l
  exact⟨v,r,rfl,Den.lk h a,DenL.lk h b⟩
theorem DenF.lk(h:Lk φ α H φ' α' H'):∀{fs:List (Nat×T)} {gs:List (Str×V)},DenF D φ α H fs gs->DenF D φ' α' H' fs gs
 |[],_,l=>l
 |p::fs,_,l=>by
  obtain⟨x,v,r,e,rfl,a,b⟩:=l
  exact⟨x,v,r,e,rfl,Den.lk h a,DenF.lk h b⟩
theorem DenK.lk(h:Lk φ α H φ' α' H'):∀{fs:List (Key×T)} {gs:List (Key×V)},DenK D φ α H fs gs->DenK D φ' α' H' fs gs
 |[],_,l=>l
 |p::fs,_,l=>by
  obtain⟨v,r,rfl,a,b⟩:=l
  exact⟨v,r,rfl,Den.lk h a,DenK.lk h b⟩
end
theorem Stp.lk(s:Stp α H α' H'):Lk φ α H φ α' H':=⟨λa o n1 n2 e=>⟨n1,s.out n2 e,s.keep a o n2 e⟩,λi a e=>by
 obtain⟨β,rfl,_⟩:=s.ext
 rw[List.getElem?_append_left (List.getElem?_eq_some_iff.mp e).1];exact e⟩
theorem Den.step(s:Stp α H α' H'){t:T}{v:V}(d:Den D φ α H t v):Den D φ α' H' t v:=d.lk s.lk
theorem DenL.step(s:Stp α H α' H'){t:List T}{v:List V}(d:DenL D φ α H t v):DenL D φ α' H' t v:=d.lk s.lk
theorem DenF.step(s:Stp α H α' H'){t:List (Nat×T)}{v:List (Str×V)}(d:DenF D φ α H t v):DenF D φ α' H' t v:=d.lk s.lk
theorem XDict.lk{fs:List (Nat×T)}{d:Option Addr}(h:Lk φ α H φ' α' H')(x:XDict D φ α H fs d):XDict D φ' α' H' fs d:=by
 cases d with
 |none=>exact x
 |some dx=>
  obtain⟨gs,k1,k2,e2,l⟩:=x
  obtain⟨k1,k2,e2⟩:=h.ob dx _ k1 k2 e2
  exact⟨gs,k1,k2,e2,DenF.lk h l⟩
mutual
theorem Den.hide{β:List Addr}:∀{t:T} {v:V},v7 t=true->Den D φ α H t v->(∀a,a∉φ->a∉α->a∉φ'/\a∉β)->Den D φ' β H t v
 |.non,_,_,h,_=>h
 |.bl _,_,_,h,_=>h
 |.int _,_,_,h,_=>h
 |.str _,_,_,h,_=>h
 |.mut i,_,p,_,_=>by simp[v7] at p
 |.tup ts,_,p,h,k=>by
  obtain⟨a,xs,rfl,n1,n2,r,l⟩:=h
  exact⟨a,xs,rfl,(k a n1 n2).1,(k a n1 n2).2,r,DenL.hide (by simpa[v7] using p) l k⟩
 |.lst ts,_,p,h,k=>by
  obtain⟨a,xs,rfl,n1,n2,r,l⟩:=h
  exact⟨a,xs,rfl,(k a n1 n2).1,(k a n1 n2).2,r,DenL.hide (by simpa[v7] using p) l k⟩
 |.obj c fs,_,p,h,k=>by
  obtain⟨a,C,dx,gs,rfl,n1,n2,ad,e,l⟩:=h
  exact⟨a,C,dx,gs,rfl,(k a n1 n2).1,(k a n1 n2).2,ad,e,DenF.hide (by simpa[v7] using p) l k⟩
 |.exc c fs,_,p,h,k=>by
  obtain⟨a,C,d,rfl,n1,n2,ad,e,l⟩:=h
  refine⟨a,C,d,rfl,(k a n1 n2).1,(k a n1 n2).2,ad,e,?_⟩
  cases d with
  |none=>exact l
  |some dx=>
   obtain⟨gs,k1,k2,e2,l⟩:=l
   exact⟨gs,(k dx k1 k2).1,(k dx k1 k2).2,e2,DenF.hide (by simpa[v7] using p) l k⟩
 |.dic kvs,_,p,h,k=>by
  obtain⟨a,gs,rfl,n1,n2,e,l⟩:=h
  exact⟨a,gs,rfl,(k a n1 n2).1,(k a n1 n2).2,e,DenK.hide (by simpa[v7] using p) l k⟩
 |.clo j cs,_,p,h,k=>by
  obtain⟨a,ob,xs,rfl,c,e,l⟩:=h
  exact⟨a,ob,xs,rfl,c,λo z=>let ⟨n1,n2,q⟩:=e o z;⟨(k a n1 n2).1,(k a n1 n2).2,q⟩,DenL.hide (by simpa[v7] using p) l k⟩
theorem DenL.hide{β:List Addr}:∀{ts:List T} {vs:List V},xj ts=true->DenL D φ α H ts vs->(∀a,a∉φ->a∉α->a∉φ'/\a∉β)->DenL D φ' β H ts vs
 |[],_,_,h,_=>h
 |t::ts,_,p,h,k=>by
  obtain⟨v,r,rfl,a,b⟩:=h
  simp only[xj,Bool.and_eq_true] at p
  exact⟨v,r,rfl,Den.hide p.1 a k,DenL.hide p.2 b k⟩
theorem DenF.hide{β:List Addr}:∀{fs:List (Nat×T)} {gs:List (Str×V)},jK fs=true->DenF D φ α H fs gs->(∀a,a∉φ->a∉α->a∉φ'/\a∉β)->DenF D φ' β H fs gs
 |[],_,_,h,_=>h
 |q::fs,_,p,h,k=>by
  obtain⟨x,v,r,e,rfl,a,b⟩:=h
  simp only[jK,Bool.and_eq_true] at p
  exact⟨x,v,r,e,rfl,Den.hide p.1 a k,DenF.hide p.2 b k⟩
theorem DenK.hide{β:List Addr}:∀{fs:List (Key×T)} {gs:List (Key×V)},QR fs=true->DenK D φ α H fs gs->(∀a,a∉φ->a∉α->a∉φ'/\a∉β)->DenK D φ' β H fs gs
 |[],_,_,h,_=>h
 |q::fs,_,p,h,k=>by
  obtain⟨v,r,rfl,a,b⟩:=h
  simp only[QR,Bool.and_eq_true] at p
  exact⟨v,r,rfl,Den.hide p.1 a k,DenK.hide p.2 b k⟩
end
theorem XDict.hide{fs:List (Nat×T)}{d:Option Addr}{β:List Addr}(p:jK fs=true)(x:XDict D φ α H fs d)(k:∀a,a∉φ->a∉α->a∉φ'/\a∉β):XDict D φ' β H fs d:=by
 cases d with
 |none=>exact x
 |some dx=>
  obtain⟨gs,k1,k2,e2,l⟩:=x
  exact⟨gs,(k dx k1 k2).1,(k dx k1 k2).2,e2,DenF.hide p l k⟩
theorem Xi:∀a:Addr,a∉φ->a∉α->a∉φ++α/\a∉([]:List Addr):=λa n1 n2=>⟨λz=>(List.mem_append.mp z).elim n1 n2,by simp⟩
theorem Z4{β:List Addr}:∀a:Addr,a∉φ++α->a∉β->a∉φ/\a∉α:=λa n1 _=>⟨λz=>n1 (List.mem_append_left _ z),λz=>n1 (List.mem_append_right _ z)⟩
theorem DenL.length:∀{ts:List T} {vs:List V},DenL D φ α H ts vs->ts.length=vs.length
 |[],_,h=>by have:_=[]:=h;subst this;rfl
 |t::ts,_,h=>by
  obtain⟨v,r,rfl,_,b⟩:=h
  simp[DenL.length b]
theorem DenL.get:∀{ts:List T} {vs:List V} {i:Nat} {t:T},DenL D φ α H ts vs->ts[i]?=some t->∃v,vs[i]?=some v/\Den D φ α H t v
 |[],_,_,_,_,e=>by simp at e
 |t::ts,_,0,_,h,e=>by
  obtain⟨v,r,rfl,a,b⟩:=h
  simp at e;subst e
  exact⟨v,rfl,a⟩
 |t::ts,_,i+1,u,h,e=>by
  obtain⟨v,r,rfl,a,b⟩:=h
  obtain⟨w,e',d⟩:=DenL.get (i:=i) (t:=u) b (by simpa using e)
  exact⟨w,by simpa using e',d⟩
theorem DenL.append:∀{ts us:List T} {vs ws:List V},DenL D φ α H ts vs->DenL D φ α H us ws->DenL D φ α H (ts++us) (vs++ws)
 |[],us,_,ws,h,k=>by have:_=[]:=h;subst this;exact k
 |t::ts,us,_,ws,h,k=>by
  obtain⟨v,r,rfl,a,b⟩:=h
  exact⟨v,r++ws,rfl,a,DenL.append b k⟩
theorem DenL.drop:∀(n:Nat) {ts:List T} {vs:List V},DenL D φ α H ts vs->DenL D φ α H (ts.drop n) (vs.drop n)
 |0,_,_,h=>h
 |n+1,[],_,h=>by have:_=[]:=h;subst this;exact rfl
 |n+1,t::ts,_,h=>by
  obtain⟨v,r,rfl,a,b⟩:=h
  exact DenL.drop n b
theorem DenL.take:∀(n:Nat) {ts:List T} {vs:List V},DenL D φ α H ts vs->DenL D φ α H (ts.take n) (vs.take n)
 |0,_,_,h=>by simp[DenL]
 |n+1,[],_,h=>by have:_=[]:=h;subst this;exact rfl
 |n+1,t::ts,_,h=>by
  obtain⟨v,r,rfl,a,b⟩:=h
  exact⟨v,r.take n,rfl,a,DenL.take n b⟩
theorem DenL.set:∀{ts:List T} {vs:List V} {i:Nat} {t:T} {v:V},DenL D φ α H ts vs->Den D φ α H t v->DenL D φ α H (ts.set i t) (vs.set i v)
 |[],vs,i,t,v,l,d=>by have l:vs=[]:=l;subst l;exact rfl
 |x::ts,_,0,t,v,l,d=>by
  obtain⟨w,r,rfl,dw,l⟩:=l
  exact⟨v,r,rfl,d,l⟩
 |x::ts,_,i+1,t,v,l,d=>by
  obtain⟨w,r,rfl,dw,l⟩:=l
  exact⟨w,r.set i v,rfl,dw,DenL.set l d⟩
theorem DenF.look:∀{fs:List (Nat×T)} {gs:List (Str×V)} {f:Nat} {t:T},DenF D φ α H fs gs->ZS fs f=some t->∃x v,D.fn f=some x/\gs.lookup x=some v/\Den D φ α H t v
 |[],_,_,_,_,e=>by simp[ZS] at e
 |p::fs,_,f,t,h,e=>by
  obtain⟨x,v,r,ex,rfl,a,b⟩:=h
  rw[WH] at e
  cases q:Nat.beq p.1 f with
  |true=>
   have q':=Nat.eq_of_beq_eq_true q
   rw[q] at e
   have e:some p.2=some t:=e
   cases e
   exact⟨x,v,by rw[←q'];exact ex,by simp[List.lookup_cons],a⟩
  |false=>
   rw[q] at e
   obtain⟨y,w,h1,h2,h3⟩:=DenF.look b e
   refine⟨y,w,h1,?_,h3⟩
   rw[List.lookup_cons]
   have ne:(y == x)=false:=by
    refine beq_eq_false_iff_ne.mpr λz=>?_
    subst z
    have:=D.inj _ _ _ ex h1
    rw[this] at q
    simp at q
   rw[ne];exact h2
theorem DenF.put{f:Nat}{x:Str}{t:T}{w:V}(hx:D.fn f=some x):∀{fs:List (Nat×T)} {gs:List (Str×V)},DenF D φ α H fs gs->Den D φ α H t w->DenF D φ α H (WE f t fs) (wa x w gs)
 |[],gs,h,d=>by
  have:gs=[]:=h
  subst this
  exact⟨x,w,[],hx,rfl,d,rfl⟩
 |p::fs,gs,h,d=>by
  obtain⟨z,y,r,ez,rfl,dy,l⟩:=h
  rw[Wa]
  show DenF D φ α H _ (if z=x then (z,w)::r else (z,y)::wa x w r)
  cases q:Nat.beq p.1 f with
  |true=>
   have q':=Nat.eq_of_beq_eq_true q
   have:z=x:=by rw[q',hx] at ez;exact (Option.some.inj ez).symm
   rw[if_pos this]
   exact⟨z,w,r,ez,rfl,d,l⟩
  |false=>
   have:z≠x:=λe=>by
    subst e
    have:=D.inj _ _ _ ez hx
    rw[this] at q
    simp at q
   rw[if_neg this]
   exact⟨z,y,wa x w r,ez,rfl,dy,DenF.put hx l d⟩
theorem DenF.length:∀{fs:List (Nat×T)} {gs:List (Str×V)},DenF D φ α H fs gs->fs.length=gs.length
 |[],_,h=>by have:_=[]:=h;subst this;rfl
 |p::fs,_,h=>by
  obtain⟨x,v,r,_,rfl,_,b⟩:=h
  simp[DenF.length b]
noncomputable def noF:HO->Bool
 |.frz _ _=>false
 |_=>true
structure MRel(D:DP)(φ α:List Addr)(H:Hp)(μ:Mem):Prop where
 len:α.length=μ.length
 nd:α.Nodup
 dis:∀b∈α,b∉φ
 phi:∀b∈φ,∃o,H b=some o/\noF o=true
 ob:∀(i:Nat) (a:Addr) (o:MO),α[i]?=some a->μ[i]?=some o->DenO D φ α H o a
theorem DenO.lk{o:MO}{a:Addr}(s:Lk φ α H φ' α' H')(e:H' a=H a)(h:DenO D φ α H o a):DenO D φ' α' H' o a:=by
 cases o with
 |lst ts=>
  obtain⟨xs,q,l⟩:=h
  exact⟨xs,e.trans q,DenL.lk s l⟩
 |obj c fs=>
  obtain⟨C,dx,gs,ad,q,l⟩:=h
  exact⟨C,dx,gs,ad,e.trans q,DenF.lk s l⟩
 |dic kvs=>
  obtain⟨xs,q,l⟩:=h
  exact⟨xs,e.trans q,DenK.lk s l⟩
 |tab j=>
  obtain⟨pos,qn,ps,h1,h2,h3,h4⟩:=h
  refine⟨pos,qn,ps,h1,e.trans h2,h3,λp hp=>(h4 p hp).imp id λ⟨c,k1,k2,k3,k4⟩=>?_⟩
  obtain⟨m1,m2,m3⟩:=s.ob c _ k2 k3 k4
  exact⟨c,k1,m1,m2,m3⟩
theorem DenO.step{o:MO}{a:Addr}(s:Stp α H α' H')(e:H' a=H a)(h:DenO D φ α H o a):DenO D φ α' H' o a:=h.lk s.lk e
theorem DenO.some{o:MO}{a:Addr}(h:DenO D φ α H o a):∃u,H a=Option.some u/\noF u=true:=by
 cases o with
 |lst ts=>obtain⟨xs,q,_⟩:=h;exact⟨_,q,rfl⟩
 |obj c fs=>obtain⟨C,dx,gs,_,q,_⟩:=h;exact⟨_,q,rfl⟩
 |dic ts=>obtain⟨xs,q,_⟩:=h;exact⟨_,q,rfl⟩
 |tab j=>obtain⟨_,_,ps,_,q,_⟩:=h;exact⟨_,q,rfl⟩
theorem MRel.new{μ:Mem}(m:MRel D φ α H μ)(s:vH H H'):MRel D φ α H' μ:=
 ⟨m.len,m.nd,m.dis,λb hb=>let ⟨o,e,n⟩:=m.phi b hb;⟨o,s b o e,n⟩,λi a o e1 e2=>by
  have d:=m.ob i a o e1 e2
  obtain⟨u,q,_⟩:=d.some
  exact d.step (Stp.new s) ((s _ _ q).trans q.symm)⟩
theorem MRel.lk{μ:Mem}(h:Lk φ α H φ' α H')(hα:∀a∈α,H' a=H a/\a∉φ')(hφ:∀b∈φ',∃o,H' b=some o/\noF o=true)(m:MRel D φ α H μ):MRel D φ' α H' μ:=
 ⟨m.len,m.nd,λb hb=>(hα b hb).2,hφ,λi a o e1 e2=>(m.ob i a o e1 e2).lk h (hα a (List.mem_of_getElem? e1)).1⟩
structure SRel(D:DP)(φ α:List Addr)(H:Hp)(τ:Sl)(σ:St):Prop where
 len:τ.length=σ.length
 val:∀(i:Nat) (t:T),τ[i]?=some (some t)->∃v,σ[i]?=some (some v)/\Den D φ α H t v
theorem SRel.lk{τ:Sl}{σ:St}(r:SRel D φ α H τ σ)(s:Lk φ α H φ' α' H'):SRel D φ' α' H' τ σ:=⟨r.len,λi t e=>by
 obtain⟨v,q,d⟩:=r.val i t e
 exact⟨v,q,d.lk s⟩⟩
theorem SRel.step{τ:Sl}{σ:St}(r:SRel D φ α H τ σ)(s:Stp α H α' H'):SRel D φ α' H' τ σ:=r.lk s.lk
theorem SRel.set{τ:Sl}{σ:St}(r:SRel D φ α H τ σ){i:Nat}{t:T}{v:V}(d:Den D φ α H t v):SRel D φ α H (k8 τ i (some t)) (σ.set i (some v)):=by
 rw[uk]
 refine⟨by simp[r.len],λj u e=>?_⟩
 by_cases h:i=j
 ·subst h
  rw[List.getElem?_set_self'] at e
  cases q:τ[i]? with
  |none=>rw[q] at e;cases e
  |some o=>
   rw[q] at e
   simp at e
   subst e
   have hl:i<σ.length:=by rw[←r.len];exact (List.getElem?_eq_some_iff.mp q).1
   exact⟨v,by simp[hl],d⟩
 ·rw[List.getElem?_set_ne h] at e ⊢
  exact r.val j u e
theorem SRel.get{τ:Sl}{σ:St}(r:SRel D φ α H τ σ){i:Nat}{t:T}(e:uT τ i=some t):∃v,σ[i]?=some (some v)/\Den D φ α H t v:=r.val i t (uz.mp e)
end
theorem jD{φ α:List Addr}{H:Hp}{b:Addr}(hb:H b=none):Lk φ α H (φ++[b]) α H:=by
 refine⟨λa o n1 n2 e=>⟨λz=>?_,n2,e⟩,λ_ _ e=>e⟩
 rcases List.mem_append.mp z with z|z
 ·exact n1 z
 ·rw[List.mem_singleton.mp z,hb] at e
  cases e
theorem Zg{φ α:List Addr}{H H':Hp}{b:Addr}(hb:H b=none)(s:vH H H'):Lk φ α H (φ++[b]) α H':=⟨λa o n1 n2 e=>let ⟨q1,q2,q3⟩:=(jD hb).ob a o n1 n2 e;⟨q1,q2,s a o e⟩,λ_ _ e=>e⟩
theorem wj{φ α:List Addr}{H:Hp}{b:Addr}:Lk (φ++[b]) α H φ α H:=⟨λa o n1 n2 e=>⟨λz=>n1 (List.mem_append_left _ z),n2,e⟩,λ_ _ e=>e⟩
theorem xm{φ α:List Addr}{H:Hp}{b:Addr}{u:HO}(hb:b∈φ):Lk φ α H φ α (upd H b u):=⟨λa o n1 n2 e=>⟨n1,n2,by rw[za (λz:a=b=>n1 (by rw[z];exact hb))];exact e⟩,λ_ _ e=>e⟩
end
inductive Post(D:DP)(W:XW)(φ α:List Addr)(H:Hp)(σ:St){β:Type}(R:β->Mem->List Addr->Hp->Prop)(r:RE β):Prop where
 |mk (K:β->Mem->Prop) (Z:Xp) (q:r K Z) (h:(∀a μ',K a μ'->∀α' H',Stp α H α' H'->MRel D φ α' H' μ'->R a μ' α' H')/\
  ∀c fs μ',Z c fs μ'->∀α' H' C d,Stp α H α' H'->MRel D φ α' H' μ'->D.adr c=some C->XDict D φ α' H' fs d->W (.ref C) d σ H')
inductive RdP(D:DP)(H:Hp)(σ:St)(P:List Addr->List Addr->Sl->Mem->Prop):Prop where
 |mk (φ α:List Addr) (τ:Sl) (μ:Mem) (sr:SRel D φ α H τ σ) (mr:MRel D φ α H μ) (p:P φ α τ μ)
section
variable {D:DP}{W:XW}{φ α α':List Addr}{H H':Hp}{σ:St}{β γ:Type}{R R':β->Mem->List Addr->Hp->Prop}{S:γ->Mem->List Addr->Hp->Prop}
theorem Post.mono{r:RE β}(p:Post D W φ α H σ R r)(h:∀a μ' α' H',Stp α H α' H'->MRel D φ α' H' μ'->R a μ' α' H'->R' a μ' α' H'):Post D W φ α H σ R' r:=by
 obtain⟨K,Z,q,k,z⟩:=p
 exact⟨K,Z,q,λa μ' e α' H' s m=>h a μ' α' H' s m (k a μ' e α' H' s m),z⟩
theorem Post.bind{r:RE γ}{k:γ->Mem->RE β}(p:Post D W φ α H σ R (r.bind k)):Post D W φ α H σ (λa μ' α' H'=>Post D W φ α' H' σ R (k a μ')) r:=by
 obtain⟨K,Z,q,h,z⟩:=p
 exact⟨λa μ=>k a μ K Z,Z,q,λa μ' e α' H' s m=>⟨K,Z,e,λb μ2 e2 α2 H2 s2 m2=>h b μ2 e2 α2 H2 (s.trans s2) m2,λc fs μ2 e2 α2 H2 C d s2 m2=>z c fs μ2 e2 α2 H2 C d (s.trans s2) m2⟩,z⟩
theorem Post.elim{C:Prop}(p:Post D W φ α H σ R RE.st):C:=by obtain⟨_,_,q,_⟩:=p;exact q.elim
theorem Post.grd{c:Prop}{r:RE β}(p:Post D W φ α H σ R (RE.grd c r)):c/\Post D W φ α H σ R r:=by
 obtain⟨K,Z,q,h⟩:=p
 exact⟨q.1,K,Z,q.2,h⟩
theorem Post.som{o:Option γ}{k:γ->RE β}(p:Post D W φ α H σ R (RE.som o k)):∃a,o=some a/\Post D W φ α H σ R (k a):=by
 obtain⟨K,Z,⟨a,e,q⟩,h⟩:=p
 exact⟨a,e,K,Z,q,h⟩
theorem Post.br{b:Bool}{r s:RE β}(p:Post D W φ α H σ R (RE.br b r s)):(b=true/\Post D W φ α H σ R r)\/(b=false/\Post D W φ α H σ R s):=by
 obtain⟨K,Z,q,h⟩:=p
 cases b with
 |true=>exact .inl ⟨rfl,K,Z,q,h⟩
 |false=>exact .inr ⟨rfl,K,Z,q,h⟩
theorem Post.ok{a:β}{μ:Mem}(p:Post D W φ α H σ R (RE.ok a μ)){α':List Addr}{H':Hp}(s:Stp α H α' H')(m:MRel D φ α' H' μ):R a μ α' H':=by
 obtain⟨K,Z,q,h,_⟩:=p
 exact h a μ q α' H' s m
theorem Post.step{r:RE β}(p:Post D W φ α H σ R r)(st:Stp α H α' H'):Post D W φ α' H' σ R r:=by
 obtain⟨K,Z,q,h,z⟩:=p
 exact⟨K,Z,q,λb μ2 e2 α2 H2 s2 m2=>h b μ2 e2 α2 H2 (st.trans s2) m2,λc fs μ2 e2 α2 H2 C d s2 m2=>z c fs μ2 e2 α2 H2 C d (st.trans s2) m2⟩
theorem Post.ex1{δ:Type}{P:δ->Prop}{k:δ->RE β}(p:Post D W φ α H σ R (λK Z=>∃x,P x/\k x K Z)):∃x,P x/\Post D W φ α H σ R (k x):=by
 obtain⟨K,Z,⟨x,hx,q⟩,h⟩:=p
 exact⟨x,hx,K,Z,q,h⟩
end
noncomputable def rdE (D:DP)(W:XW)(f:De):TE:=λσ H Q=>RdP D H σ λφ α τ μ=>Post D W φ α H σ (λt _ α' H'=>∀v,Den D φ α' H' t v->Q v H') (f τ μ)
noncomputable def rdT (D:DP)(W:XW)(f:Dt):TT:=λσ H Q=>RdP D H σ λφ α τ μ=>Post D W φ α H σ (λb _ _ H'=>Q b H') (f τ μ)
noncomputable def rdA (D:DP)(W:XW)(n:Nat)(f:Da):TA:=λσ H Q=>RdP D H σ λφ α τ μ=>Post D W φ α H σ (λts _ α' H'=>∀vs,DenL D φ α' H' ts vs->vs.length=n->Q vs H') (f τ μ)
section
variable {X:Cx}{D:DP}{W:XW}{pins:List (Addr×Obj)}{s:Shared}{σ:St}{H:Hp}{φ α:List Addr}{τ:Sl}{μ:Mem}{β:Type}{R:β->Mem->List Addr->Hp->Prop}
inductive SubP(X:Cx)(D:DP)(W:XW)(pins:List (Addr×Obj))(σ:St)(H:Hp)(φ α:List Addr)(τ:Sl){β:Type}(R:β->Mem->List Addr->Hp->Prop)(k:T->Mem->RE β)(u:Value)(s1:Shared):Prop where
 |mk (v:V) (H1:Hp) (t:T) (μ1:Mem) (α1:List Addr) (i:Inv X pins σ H1 s1) (r:RelV v u) (st:Stp α H α1 H1) (sr:SRel D φ α1 H1 τ σ) (mr:MRel D φ α1 H1 μ1) (d:Den D φ α1 H1 t v) (p:Post D W φ α1 H1 σ R (k t μ1))
inductive SubT(X:Cx)(D:DP)(W:XW)(pins:List (Addr×Obj))(σ:St)(H:Hp)(φ α:List Addr)(τ:Sl){β:Type}(R:β->Mem->List Addr->Hp->Prop)(k:Bool->Mem->RE β)(b:Bool)(s1:Shared):Prop where
 |mk (H1:Hp) (μ1:Mem) (α1:List Addr) (i:Inv X pins σ H1 s1) (st:Stp α H α1 H1) (sr:SRel D φ α1 H1 τ σ) (mr:MRel D φ α1 H1 μ1) (p:Post D W φ α1 H1 σ R (k b μ1))
inductive SubA(X:Cx)(D:DP)(W:XW)(pins:List (Addr×Obj))(σ:St)(H:Hp)(φ α:List Addr)(τ:Sl){β:Type}(R:β->Mem->List Addr->Hp->Prop)(n:Nat)(k:List T->Mem->RE β)(us:List Value)(s1:Shared):Prop where
 |mk (vs:List V) (H1:Hp) (ts:List T) (μ1:Mem) (α1:List Addr) (i:Inv X pins σ H1 s1) (r:Vals vs us) (st:Stp α H α1 H1) (sr:SRel D φ α1 H1 τ σ) (mr:MRel D φ α1 H1 μ1) (d:DenL D φ α1 H1 ts vs) (hn:vs.length=n) (p:Post D W φ α1 H1 σ R (k ts μ1))
theorem sub{a:Expr}{f:Sl->Mem->RE T}{k:T->Mem->RE β}(ha:PE X a (rdE D W f))(I:Inv X pins σ H s)(sr:SRel D φ α H τ σ)(mr:MRel D φ α H μ)(p:Post D W φ α H σ R ((f τ μ).bind k)) :
  wpAny (model X.prog X.w) X.A (eval a X.env) (SubP X D W pins σ H φ α τ R k) X.xe s:=by
 refine thn (ha pins s σ H (λv H1=>∃t μ1 α1,Stp α H α1 H1/\SRel D φ α1 H1 τ σ/\MRel D φ α1 H1 μ1/\Den D φ α1 H1 t v/\Post D W φ α1 H1 σ R (k t μ1)) I ⟨φ,α,τ,μ,sr,mr,p.bind.mono λt μ' α' H' st m q v d=>⟨t,μ',α',st,sr.step st,m,d,q⟩⟩) ?_
 rintro u s1 ⟨v,H1,I1,r,t,μ1,α1,h1,h2,h3,h4,h⟩
 exact⟨v,H1,t,μ1,α1,I1,r,h1,h2,h3,h4,h⟩
theorem z0K{a:Expr}{f:Sl->Mem->RE Bool}{k:Bool->Mem->RE β}(ha:PT X a (rdT D W f))(I:Inv X pins σ H s)(sr:SRel D φ α H τ σ)(mr:MRel D φ α H μ)(p:Post D W φ α H σ R ((f τ μ).bind k)) :
  wpAny (model X.prog X.w) X.A (isTrue a X.env (eval a X.env)) (SubT X D W pins σ H φ α τ R k) X.xe s:=by
 refine thn (ha pins s σ H (λb H1=>∃μ1 α1,Stp α H α1 H1/\SRel D φ α1 H1 τ σ/\MRel D φ α1 H1 μ1/\Post D W φ α1 H1 σ R (k b μ1)) I ⟨φ,α,τ,μ,sr,mr,p.bind.mono λb μ' α' H' st m q=>⟨μ',α',st,sr.step st,m,q⟩⟩) ?_
 rintro b s1 ⟨H1,I1,μ1,α1,h1,h2,h3,h⟩
 exact⟨H1,μ1,α1,I1,h1,h2,h3,h⟩
theorem JQ{es:List Expr}{n:Nat}{pos:Pos}{f:Da}{k:List T->Mem->RE β}(ha:PA X es (rdA D W n f))(I:Inv X pins σ H s)(sr:SRel D φ α H τ σ)(mr:MRel D φ α H μ)(p:Post D W φ α H σ R ((f τ μ).bind k)) :
  wpAny (model X.prog X.w) X.A (spliced (backTo pos (starEach es X.env))) (SubA X D W pins σ H φ α τ R n k) X.xe s:=by
 refine thn (ha pos pins s σ H (λvs H1=>∃ts μ1 α1,Stp α H α1 H1/\SRel D φ α1 H1 τ σ/\MRel D φ α1 H1 μ1/\DenL D φ α1 H1 ts vs/\vs.length=n/\Post D W φ α1 H1 σ R (k ts μ1)) I ⟨φ,α,τ,μ,sr,mr,p.bind.mono λts μ' α' H' st m q vs d hn=>⟨ts,μ',α',st,sr.step st,m,d,hn,q⟩⟩) ?_
 rintro us s1 ⟨vs,H1,I1,r,ts,μ1,α1,h1,h2,h3,h4,h5,h⟩
 exact⟨vs,H1,ts,μ1,α1,I1,r,h1,h2,h3,h4,h5,h⟩
abbrev RV(D:DP)(φ:List Addr)(Q:VK):T->Mem->List Addr->Hp->Prop:=λt _ α' H'=>∀v,Den D φ α' H' t v->Q v H'
theorem Post.here{Q:VK}{t:T}{v:V}(p:Post D W φ α H σ (RV D φ Q) (.ok t μ))(mr:MRel D φ α H μ)(d:Den D φ α H t v):Q v H:=p.ok (Stp.refl _ _) mr v d
theorem Post.fresh{Q:VK}{t:T}{v:V}{H':Hp}(p:Post D W φ α H σ (RV D φ Q) (.ok t μ))(mr:MRel D φ α H μ)(sm:vH H H')(d:Den D φ α H' t v):Q v H':=p.ok (Stp.new sm) (mr.new sm) v d
theorem zB{n:Nat}(h:n<=room):n<=sizeLine:=Nat.le_trans h (by unfold room;decide)
theorem zr{α:List Addr}(mr:MRel D φ α H μ){p:Addr}(h:H p=none):p∉φ:=λz=>by
 obtain⟨o,e,_⟩:=mr.phi p z
 rw[h] at e;cases e
theorem zq{α:List Addr}(mr:MRel D φ α H μ){p:Addr}(h:H p=none):p∉α:=λz=>by
 obtain⟨i,hi⟩:=List.mem_iff_getElem?.mp z
 have hl:i<μ.length:=by rw[←mr.len];exact (List.getElem?_eq_some_iff.mp hi).1
 obtain⟨u,e,_⟩:=(mr.ob i p μ[i] hi (by simp[hl])).some
 rw[h] at e;cases e
theorem wJ:∀{ts:List T} {ns:List Int} {vs:List V},intsOf ts=some ns->DenL D φ α H ts vs->vs=ns.map V.int
 |[],ns,vs,h,l=>by
  simp[intsOf] at h;subst h
  exact l
 |t::ts,ns,vs,h,l=>by
  obtain⟨v,r,rfl,d,l⟩:=l
  cases t with
  |int i=>
   simp only[intsOf] at h
   cases q:intsOf ts with
   |none=>rw[q] at h;cases h
   |some ms=>
    rw[q] at h;cases h
    rw[wJ q l]
    have d:v=.int i:=d
    rw[d];rfl
  |_=>simp[intsOf] at h
theorem Qv:OpR X (binaryOp .Add) (λx y H Q=>∃l b xs zs,x=.ref l/\y=.ref b/\Rd H l (.lst xs)/\Rd H b (.lst zs)/\xs.length+zs.length<=sizeLine/\∀p,H p=none->Q (.ref p) (upd H p (.lst (xs++zs)))):=by
 intro pins s σ H x y v u Q I rx ry h
 obtain⟨l,b,xs,zs,rfl,rfl,hH,hB,hz,q⟩:=h
 cases rx
 cases ry
 obtain⟨z,its,n,r,e⟩:=hH.ok I.hok
 obtain⟨z2,its2,n2,r2,e2⟩:=hB.ok I.hok
 refine PySem.P.add_list e e2 ?_ (by rw[List.size_toArray,List.size_toArray,←r.length,←r2.length];exact hz)
 rw[show its.toArray++its2.toArray=(its++its2).toArray by simp]
 exact⟨.ref _,_,I.lnew (t':=s.toks) (r.append r2) (by rw[List.length_append];exact hz),rfl,q _ I.fresh⟩
theorem Ve:OpR X (binaryOp .Add) (λx y H Q=>∃a b ys,x=.ref a/\y=.ref b/\SqT X.K H a []/\SqT X.K H b ys/\Q (.ref b) H):=by
 intro pins s σ H x y v u Q I rx ry h
 obtain⟨a,b,ys,rfl,rfl,ha,hb,q⟩:=h
 cases rx
 cases ry
 obtain⟨its,r1,p1,_⟩:=I.tuple ha
 obtain⟨its2,r2,p2,_⟩:=I.tuple hb
 cases r1
 obtain⟨⟨cls,dd,data,sl⟩,ho,hc,n,hd⟩:=id p1
 obtain⟨⟨cls2,dd2,data2,sl2⟩,ho2,hc2,n2,hd2⟩:=id p2
 simp only at hc hd hc2 hd2
 subst hc hd hc2 hd2
 exact concat_meets ⟨_,ho,rfl⟩ ⟨_,ho2,rfl⟩ noFill_tuple_add seq_tuple_add PySem.F.slot_tuple_add PySem.F.entry_tuple_add (PySem.F.args_tuple_add_2 _ _)
  (tuple_addW0 a b #[] its2.toArray n n2 dd dd2 sl sl2 rfl) ⟨ho,ho2,⟨.ref b,H,I,rfl,q⟩⟩
theorem J2:OpR X (binaryOp .FloorDiv) (rI (λ_ j=>0<j/\j<1606938044258990275541962092341162602522202993782792835301376) λi j=>.int (i / j)):=opI λi j _ _ _ _ _ hc q=>by
 have h1:(0:Int)<j:=hc.1
 have h2:j<1606938044258990275541962092341162602522202993782792835301376:=hc.2
 refine floordiv_int (by omega) (by rw[Int.fdiv_eq_ediv_of_nonneg i (by omega)];exact q) (.inl (PyProof.noPylong_of_log2 ?_))
 refine Nat.lt_of_lt_of_le ((Nat.log2_lt (by omega)).2 (show j.natAbs<2 ^ 200 by omega)) (by decide)
theorem wV{f:Int->Int->Mem->RE T}{x y:T}{Q:VK}(p:Post D W φ α H σ (RV D φ Q) (yZ f x y μ)):∃i j,x=.int i/\y=.int j/\Post D W φ α H σ (RV D φ Q) (f i j μ):=by
 unfold yZ at p
 split at p
 ·exact⟨_,_,rfl,rfl,p⟩
 ·exact p.elim
theorem YS{op:Operator}{x y:T}{v1 v2:V}{u1 u2:Value}{Q:VK}(I:Inv X pins σ H s)(mr:MRel D φ α H μ)(d1:Den D φ α H x v1)(d2:Den D φ α H y v2)(r1:RelV v1 u1)(r2:RelV v2 u2)
  (p:Post D W φ α H σ (RV D φ Q) (z1z op x y μ)):wpAny (model X.prog X.w) X.A (binaryOp op u1 u2) (EP X pins σ Q) X.xe s:=by
 have cat:∀{a b:Addr} {vs ws:List V} {xs ys:List T},Rd H a (.lst vs)->Rd H b (.lst ws)->DenL D φ α H xs vs->DenL D φ α H ys ws->v1=.ref a->v2=.ref b->xs.length+ys.length<=room->Post D W φ α H σ (RV D φ Q) (RE.ok (.lst (xs++ys)) μ)->wpAny (model X.prog X.w) X.A (binaryOp .Add u1 u2) (EP X pins σ Q) X.xe s:=λ{a b vs ws xs ys} q1 q2 l1 l2 e1 e2 h p=>by
  subst e1 e2
  refine Qv pins s σ H _ _ _ _ Q I r1 r2 ⟨a,b,vs,ws,rfl,rfl,q1,q2,by rw[←l1.length,←l2.length];exact zB h,λz hz=>?_⟩
  have sm:=zk (o:=.lst (vs++ws)) hz
  exact p.fresh mr sm ⟨z,_,rfl,zr mr hz,zq mr hz,.inl z8,(l1.step (Stp.new sm)).append (l2.step (Stp.new sm))⟩
 cases op with
 |Add=>
  replace p:Post D W φ α H σ (RV D φ Q) (YO x y μ):=p
  unfold YO at p
  split at p
  ·cases d1;cases d2
   exact Um pins s σ H _ _ _ _ Q I r1 r2 ⟨_,_,rfl,rfl,p.here mr rfl⟩
  ·cases d1;cases d2
   obtain⟨h,p⟩:=p.grd
   exact ZH pins s σ H _ _ _ _ Q I r1 r2 ⟨_,_,rfl,rfl,zB h,p.here mr rfl⟩
  ·obtain⟨h,p⟩:=p.grd
   obtain⟨a,vs,rfl,n1,n2,q1,l1⟩:=d1
   obtain⟨b,ws,rfl,m1,m2,q2,l2⟩:=d2
   refine Qv pins s σ H _ _ _ _ Q I r1 r2 ⟨a,b,vs,ws,rfl,rfl,q1,q2,by rw[←l1.length,←l2.length];exact zB h,λz hz=>?_⟩
   have sm:=zk (o:=.lst (vs++ws)) hz
   exact p.fresh mr sm ⟨z,_,rfl,zr mr hz,zq mr hz,.inl z8,(l1.step (Stp.new sm)).append (l2.step (Stp.new sm))⟩
  ·rename_i xs ys
   obtain⟨h,p⟩:=p.grd
   ·obtain⟨a,vs,rfl,n1,n2,q1,l1⟩:=d1
    obtain⟨b,ws,rfl,m1,m2,q2,l2⟩:=d2
    cases vs with
    |nil=>
     cases xs with
     |cons x xs=>obtain⟨_,_,e,_⟩:=l1;cases e
     |nil=>exact Ve pins s σ H _ _ _ _ Q I r1 r2 ⟨a,b,ws,rfl,rfl,.inl q1,.inl q2,p.here mr ⟨b,ws,rfl,m1,m2,q2,l2⟩⟩
    |cons v vs=>
     refine X7 pins s σ H _ _ _ _ Q I r1 r2 ⟨a,b,v::vs,ws,rfl,rfl,.inl q1,.inl q2,by simp,by rw[←l1.length,←l2.length];exact zB h,λhw=>?_,λhw z hz=>?_⟩
     ·subst hw
      cases ys with
      |cons y ys=>obtain⟨_,_,e,_⟩:=l2;cases e
      |nil=>
       rw[List.append_nil] at p
       exact p.here mr ⟨a,v::vs,rfl,n1,n2,q1,l1⟩
     ·have sm:=zk (o:=.tup (v::vs++ws)) hz
      exact p.fresh mr sm ⟨z,_,rfl,zr mr hz,zq mr hz,.inl z8,(l1.step (Stp.new sm)).append (l2.step (Stp.new sm))⟩
  ·obtain⟨xs,hi,p⟩:=p.ex1
   obtain⟨h,p⟩:=Post.grd p
   obtain⟨a,hi',rfl⟩:=d1
   obtain⟨vs,q1,l1⟩:=mr.ob _ a _ hi' hi
   obtain⟨b,ws,rfl,m1,m2,q2,l2⟩:=d2
   exact cat (.inl q1) q2 l1 l2 rfl rfl h p
  ·obtain⟨ys,hi,p⟩:=p.ex1
   obtain⟨h,p⟩:=Post.grd p
   obtain⟨a,hi',rfl⟩:=d2
   obtain⟨vs,q1,l1⟩:=mr.ob _ a _ hi' hi
   obtain⟨b,ws,rfl,m1,m2,q2,l2⟩:=d1
   exact cat q2 (.inl q1) l2 l1 rfl rfl h p
  ·obtain⟨pr,hi,p⟩:=p.ex1
   obtain⟨h,p⟩:=Post.grd p
   obtain⟨a,hi',rfl⟩:=d1
   obtain⟨vs,q1,l1⟩:=mr.ob _ a _ hi' hi.1
   obtain⟨b,hj',rfl⟩:=d2
   obtain⟨ws,q2,l2⟩:=mr.ob _ b _ hj' hi.2
   exact cat (.inl q1) (.inl q2) l1 l2 rfl rfl h p
  ·exact p.elim
 |Sub=>
  obtain⟨i,j,rfl,rfl,p⟩:=wV p
  cases d1;cases d2
  exact Ul pins s σ H _ _ _ _ Q I r1 r2 ⟨_,_,rfl,rfl,p.here mr rfl⟩
 |Mult=>
  obtain⟨i,j,rfl,rfl,p⟩:=wV p
  cases d1;cases d2
  obtain⟨h,p⟩:=p.grd
  exact Yh pins s σ H _ _ _ _ Q I r1 r2 ⟨_,_,rfl,rfl,by simpa[CMul,big] using h,p.here mr rfl⟩
 |FloorDiv=>
  obtain⟨i,j,rfl,rfl,p⟩:=wV p
  cases d1;cases d2
  obtain⟨h,p⟩:=p.grd
  exact J2 pins s σ H _ _ _ _ Q I r1 r2 ⟨_,_,rfl,rfl,h,p.here mr rfl⟩
 |Mod=>
  obtain⟨i,j,rfl,rfl,p⟩:=wV p
  cases d1;cases d2
  obtain⟨h,p⟩:=p.grd
  exact z02 pins s σ H _ _ _ _ Q I r1 r2 ⟨_,_,rfl,rfl,h,p.here mr rfl⟩
 |Pow=>
  obtain⟨i,j,rfl,rfl,p⟩:=wV p
  cases d1;cases d2
  obtain⟨h,p⟩:=p.grd
  exact Uy pins s σ H _ _ _ _ Q I r1 r2 ⟨_,_,rfl,rfl,⟨h.1,h.2.1,by simpa using h.2.2⟩,p.here mr rfl⟩
 |RShift=>
  obtain⟨i,j,rfl,rfl,p⟩:=wV p
  cases d1;cases d2
  obtain⟨h,p⟩:=p.grd
  exact Uz pins s σ H _ _ _ _ Q I r1 r2 ⟨_,_,rfl,rfl,h,p.here mr rfl⟩
 |BitAnd=>
  obtain⟨i,j,rfl,rfl,p⟩:=wV p
  cases d1;cases d2
  exact YK pins s σ H _ _ _ _ Q I r1 r2 ⟨_,_,rfl,rfl,p.here mr rfl⟩
 |_=>exact (show Post D W φ α H σ (RV D φ Q) .st from p).elim
end
section
section
variable {D:DP}{φ α:List Addr}{H:Hp}
theorem Rd.inj{a:Addr}{u w:HO}(hu:∀o z,u≠.frz o z)(hw:∀o z,w≠.frz o z)(r:Rd H a u)(q:Rd H a w):u=w:=by
 rcases r with r|⟨o,r⟩<;>rcases q with q|⟨o',q⟩<;>rw[r] at q
 ·exact Option.some.inj q
 ·exact absurd (Option.some.inj q) (hu _ _)
 ·exact absurd (Option.some.inj q).symm (hw _ _)
 ·injection Option.some.inj q
mutual
theorem kJ:∀{t u:T} {v:V} {k:Bool},Den D φ α H t v->Den D φ α H u v->eqT t u=some k->k=true
 |.int i,u,_,k,h1,h2,e=>by
  have h1:_=V.int i:=h1
  subst h1
  cases u with
  |int j=>have h2:V.int i=V.int j:=h2;injection h2 with h2;subst h2;rw[←Option.some.inj e];simp
  |bl b=>have h2:V.int i=V.bl b:=h2;cases h2
  |str b=>have h2:V.int i=V.str b:=h2;cases h2
  |non=>have h2:V.int i=V.non:=h2;cases h2
  |tup b=>obtain⟨_,_,h2,_⟩:=h2;cases h2
  |lst b=>obtain⟨_,_,h2,_⟩:=h2;cases h2
  |_=>cases e
 |.bl i,u,_,k,h1,h2,e=>by
  have h1:_=V.bl i:=h1
  subst h1
  cases u with
  |bl j=>have h2:V.bl i=V.bl j:=h2;injection h2 with h2;subst h2;rw[←Option.some.inj e];simp
  |int b=>have h2:V.bl i=V.int b:=h2;cases h2
  |str b=>have h2:V.bl i=V.str b:=h2;cases h2
  |non=>have h2:V.bl i=V.non:=h2;cases h2
  |tup b=>obtain⟨_,_,h2,_⟩:=h2;cases h2
  |lst b=>obtain⟨_,_,h2,_⟩:=h2;cases h2
  |_=>cases e
 |.str i,u,_,k,h1,h2,e=>by
  have h1:_=V.str i:=h1
  subst h1
  cases u with
  |str j=>have h2:V.str i=V.str j:=h2;injection h2 with h2;subst h2;rw[←Option.some.inj e];simp
  |int b=>have h2:V.str i=V.int b:=h2;cases h2
  |bl b=>have h2:V.str i=V.bl b:=h2;cases h2
  |non=>have h2:V.str i=V.non:=h2;cases h2
  |tup b=>obtain⟨_,_,h2,_⟩:=h2;cases h2
  |lst b=>obtain⟨_,_,h2,_⟩:=h2;cases h2
  |_=>cases e
 |.non,u,_,k,h1,h2,e=>by
  have h1:_=V.non:=h1
  subst h1
  cases u with
  |non=>exact (Option.some.inj e).symm
  |int b=>have h2:V.non=V.int b:=h2;cases h2
  |bl b=>have h2:V.non=V.bl b:=h2;cases h2
  |str b=>have h2:V.non=V.str b:=h2;cases h2
  |tup b=>obtain⟨_,_,h2,_⟩:=h2;cases h2
  |lst b=>obtain⟨_,_,h2,_⟩:=h2;cases h2
  |_=>cases e
 |.tup ts,u,_,k,h1,h2,e=>by
  obtain⟨a,xs,rfl,_,_,r,l⟩:=h1
  cases u with
  |tup us=>
   obtain⟨b,ys,e2,_,_,r',l'⟩:=h2
   cases e2
   have:=Rd.inj (by intro _ _ z;cases z) (by intro _ _ z;cases z) r r'
   injection this with this
   subst this
   exact jI l l' e
  |lst us=>
   obtain⟨b,ys,e2,_,_,r',l'⟩:=h2
   cases e2
   have:=Rd.inj (by intro _ _ z;cases z) (by intro _ _ z;cases z) r r'
   cases this
  |int b=>have h2:V.ref a=V.int b:=h2;cases h2
  |bl b=>have h2:V.ref a=V.bl b:=h2;cases h2
  |str b=>have h2:V.ref a=V.str b:=h2;cases h2
  |non=>have h2:V.ref a=V.non:=h2;cases h2
  |_=>cases e
 |.lst ts,u,_,k,h1,h2,e=>by
  obtain⟨a,xs,rfl,_,_,r,l⟩:=h1
  cases u with
  |lst us=>
   obtain⟨b,ys,e2,_,_,r',l'⟩:=h2
   cases e2
   have:=Rd.inj (by intro _ _ z;cases z) (by intro _ _ z;cases z) r r'
   injection this with this
   subst this
   exact jI l l' e
  |tup us=>
   obtain⟨b,ys,e2,_,_,r',l'⟩:=h2
   cases e2
   have:=Rd.inj (by intro _ _ z;cases z) (by intro _ _ z;cases z) r r'
   cases this
  |int b=>have h2:V.ref a=V.int b:=h2;cases h2
  |bl b=>have h2:V.ref a=V.bl b:=h2;cases h2
  |str b=>have h2:V.ref a=V.str b:=h2;cases h2
  |non=>have h2:V.ref a=V.non:=h2;cases h2
  |_=>cases e
 |.obj _ _,_,_,_,_,_,e=>by cases e
 |.mut _,_,_,_,_,_,e=>by cases e
 |.exc _ _,_,_,_,_,_,e=>by cases e
 |.dic _,_,_,_,_,_,e=>by cases e
 |.clo _ _,_,_,_,_,_,e=>by cases e
theorem jI:∀{ts us:List T} {vs:List V} {k:Bool},DenL D φ α H ts vs->DenL D φ α H us vs->eqL ts us=some k->k=true
 |[],[],_,k,_,_,e=>by simpa[eqL] using e.symm
 |[],_::_,_,k,h1,h2,e=>by
  have h1:_=[]:=h1
  obtain⟨_,_,h2,_⟩:=h2
  rw[h1] at h2;cases h2
 |_::_,[],_,k,h1,h2,e=>by
  have h2:_=[]:=h2
  obtain⟨_,_,h1,_⟩:=h1
  rw[h2] at h1;cases h1
 |t::ts,u::us,_,k,h1,h2,e=>by
  obtain⟨v,r,rfl,a1,b1⟩:=h1
  obtain⟨v',r',q,a2,b2⟩:=h2
  injection q with q1 q2
  subst q1 q2
  cases h:eqT t u with
  |none=>simp[eqL,h] at e
  |some x=>
   cases h':eqL ts us with
   |none=>simp[eqL,h,h'] at e
   |some y=>
    have e1:=kJ a1 a2 h
    have e2:=jI b1 b2 h'
    subst e1 e2
    simpa[eqL,h,h'] using e.symm
end
end
section
variable {X:Cx}{D:DP}{pins:List (Addr×Obj)}{s:Shared}{σ:St}{H:Hp}{φ α:List Addr}
theorem kK:∀{ts us:List T} {k:Bool},eqL ts us=some k->(∀j (h1:j<ts.length) (h2:j<us.length),∃b,eqT ts[j] us[j]=some b)/\
  k=((List.range (min ts.length us.length)).all (λj=>match ts[j]?,us[j]? with|some t,some u=>(eqT t u).getD false|_,_=>false)&&ts.length == us.length)
 |[],[],k,e=>by
  simp[eqL] at e;subst e
  exact⟨λj h1=>by simp at h1,by simp⟩
 |[],u::us,k,e=>by
  simp[eqL] at e;subst e
  exact⟨λj h1=>by simp at h1,by simp⟩
 |t::ts,[],k,e=>by
  simp[eqL] at e;subst e
  exact⟨λj h1 h2=>by simp at h2,by simp⟩
 |t::ts,u::us,k,e=>by
  cases h:eqT t u with
  |none=>simp[eqL,h] at e
  |some x=>
   cases h':eqL ts us with
   |none=>simp[eqL,h,h'] at e
   |some y=>
    obtain⟨g,ih⟩:=kK h'
    simp[eqL,h,h'] at e
    subst e
    refine⟨λj h1 h2=>?_,?_⟩
    ·cases j with
     |zero=>exact⟨x,h⟩
     |succ j=>exact g j (by simpa using h1) (by simpa using h2)
    ·rw[ih]
     have e1:min (t::ts).length (u::us).length=min ts.length us.length+1:=by simp[Nat.succ_min_succ]
     rw[e1,List.range_succ_eq_map,List.all_cons,List.all_map]
     simp only[List.getElem?_cons_zero,h,Option.getD_some,Function.comp_def,List.getElem?_cons_succ,List.length_cons]
     rw[Bool.and_assoc]
     congr 2
     simp
theorem in1_units(A:Around):A.in1.units=A.units+1:=by first|rfl|simp[Around.in1,Around.units]
theorem kT(I:Inv X pins σ H s){i:Int}{u:T}{v w:V}{a b:Value}{k:Bool}{A:Around}(h1:Den D φ α H (.int i) v)(h2:Den D φ α H u w)(r1:RelV v a)(r2:RelV w b)(e:eqT (.int i) u=some k)(hu:A.units+wY (.int i)+1<cLine):SeqAt.EqAt A s a b k:=by
 have h1:_=V.int i:=h1
 subst h1
 obtain⟨t1,rfl⟩:=r1
 cases u with
 |int j=>have h2:w=V.int j:=h2;subst h2;obtain⟨t2,rfl⟩:=r2;cases Option.some.inj e;exact SeqAt.EqAt.int_int _ _ _ _
 |bl j=>have h2:w=V.bl j:=h2;subst h2;cases r2;cases Option.some.inj e;exact SeqAt.EqAt.int_bool _ _ _
 |str j=>have h2:w=V.str j:=h2;subst h2;obtain⟨t2,rfl⟩:=r2;cases Option.some.inj e;exact SeqAt.EqAt.int_str _ _ _ _
 |non=>have h2:w=V.non:=h2;subst h2;cases r2;cases Option.some.inj e;exact SeqAt.EqAt.int_none _ _
 |tup ys=>obtain⟨c,xs,rfl,_,_,r,_⟩:=h2;cases r2;obtain⟨its,_,p,_⟩:=I.tuple (.inl r);cases Option.some.inj e;exact SeqAt.EqAt.int_tuple _ _ p (by omega)
 |lst ys=>obtain⟨c,xs,rfl,_,_,r,_⟩:=h2;cases r2;obtain⟨its,_,p,_⟩:=I.list (.inl r);cases Option.some.inj e;exact SeqAt.EqAt.int_list _ _ p.isList (by omega)
 |_=>cases e
theorem JU(I:Inv X pins σ H s){i:Bool}{u:T}{v w:V}{a b:Value}{k:Bool}{A:Around}(h1:Den D φ α H (.bl i) v)(h2:Den D φ α H u w)(r1:RelV v a)(r2:RelV w b)(e:eqT (.bl i) u=some k)(hu:A.units+wY (.bl i)+1<cLine):SeqAt.EqAt A s a b k:=by
 have h1:_=V.bl i:=h1
 subst h1
 cases r1
 cases u with
 |int j=>have h2:w=V.int j:=h2;subst h2;obtain⟨t2,rfl⟩:=r2;cases Option.some.inj e;exact SeqAt.EqAt.bool_int _ _ _
 |bl j=>have h2:w=V.bl j:=h2;subst h2;cases r2;cases Option.some.inj e;exact SeqAt.EqAt.bool_bool _ _
 |str j=>have h2:w=V.str j:=h2;subst h2;obtain⟨t2,rfl⟩:=r2;cases Option.some.inj e;exact SeqAt.EqAt.bool_str _ _ _
 |non=>have h2:w=V.non:=h2;subst h2;cases r2;cases Option.some.inj e;exact SeqAt.EqAt.bool_none _
 |tup ys=>obtain⟨c,xs,rfl,_,_,r,_⟩:=h2;cases r2;obtain⟨its,_,p,_⟩:=I.tuple (.inl r);cases Option.some.inj e;exact SeqAt.EqAt.bool_tuple _ p (by omega)
 |lst ys=>obtain⟨c,xs,rfl,_,_,r,_⟩:=h2;cases r2;obtain⟨its,_,p,_⟩:=I.list (.inl r);cases Option.some.inj e;exact SeqAt.EqAt.bool_list _ p.isList (by omega)
 |_=>cases e
theorem VN(I:Inv X pins σ H s){i:Str}{u:T}{v w:V}{a b:Value}{k:Bool}{A:Around}(h1:Den D φ α H (.str i) v)(h2:Den D φ α H u w)(r1:RelV v a)(r2:RelV w b)(e:eqT (.str i) u=some k)(hu:A.units+wY (.str i)+1<cLine):SeqAt.EqAt A s a b k:=by
 have h1:_=V.str i:=h1
 subst h1
 obtain⟨t1,rfl⟩:=r1
 cases u with
 |int j=>have h2:w=V.int j:=h2;subst h2;obtain⟨t2,rfl⟩:=r2;cases Option.some.inj e;exact SeqAt.EqAt.str_int _ _ _ _
 |bl j=>have h2:w=V.bl j:=h2;subst h2;cases r2;cases Option.some.inj e;exact SeqAt.EqAt.str_bool _ _ _
 |str j=>have h2:w=V.str j:=h2;subst h2;obtain⟨t2,rfl⟩:=r2;cases Option.some.inj e;exact SeqAt.EqAt.str_str _ _ _ _
 |non=>have h2:w=V.non:=h2;subst h2;cases r2;cases Option.some.inj e;exact SeqAt.EqAt.str_none _ _
 |tup ys=>obtain⟨c,xs,rfl,_,_,r,_⟩:=h2;cases r2;obtain⟨its,_,p,_⟩:=I.tuple (.inl r);cases Option.some.inj e;exact SeqAt.EqAt.str_tuple _ _ p (by omega)
 |lst ys=>obtain⟨c,xs,rfl,_,_,r,_⟩:=h2;cases r2;obtain⟨its,_,p,_⟩:=I.list (.inl r);cases Option.some.inj e;exact SeqAt.EqAt.str_list _ _ p.isList (by omega)
 |_=>cases e
theorem JL(I:Inv X pins σ H s){u:T}{v w:V}{a b:Value}{k:Bool}{A:Around}(h1:Den D φ α H .non v)(h2:Den D φ α H u w)(r1:RelV v a)(r2:RelV w b)(e:eqT .non u=some k)(hu:A.units+wY .non+1<cLine):SeqAt.EqAt A s a b k:=by
 have h1:_=V.non:=h1
 subst h1
 cases r1
 cases u with
 |int j=>have h2:w=V.int j:=h2;subst h2;obtain⟨t2,rfl⟩:=r2;cases Option.some.inj e;exact SeqAt.EqAt.none_int _ _
 |bl j=>have h2:w=V.bl j:=h2;subst h2;cases r2;cases Option.some.inj e;exact SeqAt.EqAt.none_bool _
 |str j=>have h2:w=V.str j:=h2;subst h2;obtain⟨t2,rfl⟩:=r2;cases Option.some.inj e;exact SeqAt.EqAt.none_str _ _
 |non=>have h2:w=V.non:=h2;subst h2;cases r2;cases Option.some.inj e;exact SeqAt.EqAt.same _
 |tup ys=>obtain⟨c,xs,rfl,_,_,r,_⟩:=h2;cases r2;obtain⟨its,_,p,_⟩:=I.tuple (.inl r);cases Option.some.inj e;exact SeqAt.EqAt.none_tuple p (by omega)
 |lst ys=>obtain⟨c,xs,rfl,_,_,r,_⟩:=h2;cases r2;obtain⟨its,_,p,_⟩:=I.list (.inl r);cases Option.some.inj e;exact SeqAt.EqAt.none_list p.isList (by omega)
 |_=>cases e
theorem ZW(I:Inv X pins σ H s){ts:List T}{u:T}{v0 w:V}{a b:Value}{k:Bool}{A:Around}(hn:∀us,u≠.tup us)(h1:Den D φ α H (.tup ts) v0)(h2:Den D φ α H u w)(r1:RelV v0 a)(r2:RelV w b)(e:eqT (.tup ts) u=some k)(hu:A.units+wY (.tup ts)+1<cLine):SeqAt.EqAt A s a b k:=by
 cases u with
 |tup us=>exact absurd rfl (hn us)
 |lst us=>
  obtain⟨c,xs,rfl,_,_,r,l⟩:=h1
  obtain⟨d,ys,rfl,_,_,r',l'⟩:=h2
  cases r1;cases r2
  obtain⟨_,_,p,_⟩:=I.tuple (.inl r)
  obtain⟨_,_,p',_⟩:=I.list (.inl r')
  cases Option.some.inj e
  exact SeqAt.EqAt.tuple_list p p'.isList (by omega)
 |int j=>have h2:w=V.int j:=h2;subst h2;obtain⟨t2,rfl⟩:=r2;obtain⟨c,xs,rfl,_,_,r,_⟩:=h1;cases r1;obtain⟨its,_,p,_⟩:=I.tuple (.inl r);cases Option.some.inj e;exact SeqAt.EqAt.tuple_int _ _ p (by omega)
 |bl j=>have h2:w=V.bl j:=h2;subst h2;cases r2;obtain⟨c,xs,rfl,_,_,r,_⟩:=h1;cases r1;obtain⟨its,_,p,_⟩:=I.tuple (.inl r);cases Option.some.inj e;exact SeqAt.EqAt.tuple_bool _ p (by omega)
 |str j=>have h2:w=V.str j:=h2;subst h2;obtain⟨t2,rfl⟩:=r2;obtain⟨c,xs,rfl,_,_,r,_⟩:=h1;cases r1;obtain⟨its,_,p,_⟩:=I.tuple (.inl r);cases Option.some.inj e;exact SeqAt.EqAt.tuple_str _ _ p (by omega)
 |non=>have h2:w=V.non:=h2;subst h2;cases r2;obtain⟨c,xs,rfl,_,_,r,_⟩:=h1;cases r1;obtain⟨its,_,p,_⟩:=I.tuple (.inl r);cases Option.some.inj e;exact SeqAt.EqAt.tuple_none p (by omega)
 |_=>cases e
theorem Qb(I:Inv X pins σ H s){ts:List T}{u:T}{v0 w:V}{a b:Value}{k:Bool}{A:Around}(hn:∀us,u≠.lst us)(h1:Den D φ α H (.lst ts) v0)(h2:Den D φ α H u w)(r1:RelV v0 a)(r2:RelV w b)(e:eqT (.lst ts) u=some k)(hu:A.units+wY (.lst ts)+1<cLine):SeqAt.EqAt A s a b k:=by
 cases u with
 |lst us=>exact absurd rfl (hn us)
 |tup us=>
  obtain⟨c,xs,rfl,_,_,r,l⟩:=h1
  obtain⟨d,ys,rfl,_,_,r',l'⟩:=h2
  cases r1;cases r2
  obtain⟨_,_,p,_⟩:=I.list (.inl r)
  obtain⟨_,_,p',_⟩:=I.tuple (.inl r')
  cases Option.some.inj e
  exact SeqAt.EqAt.list_tuple p.isList p' (by omega)
 |int j=>have h2:w=V.int j:=h2;subst h2;obtain⟨t2,rfl⟩:=r2;obtain⟨c,xs,rfl,_,_,r,_⟩:=h1;cases r1;obtain⟨its,_,p,_⟩:=I.list (.inl r);cases Option.some.inj e;exact SeqAt.EqAt.list_int _ _ p.isList (by omega)
 |bl j=>have h2:w=V.bl j:=h2;subst h2;cases r2;obtain⟨c,xs,rfl,_,_,r,_⟩:=h1;cases r1;obtain⟨its,_,p,_⟩:=I.list (.inl r);cases Option.some.inj e;exact SeqAt.EqAt.list_bool _ p.isList (by omega)
 |str j=>have h2:w=V.str j:=h2;subst h2;obtain⟨t2,rfl⟩:=r2;obtain⟨c,xs,rfl,_,_,r,_⟩:=h1;cases r1;obtain⟨its,_,p,_⟩:=I.list (.inl r);cases Option.some.inj e;exact SeqAt.EqAt.list_str _ _ p.isList (by omega)
 |non=>have h2:w=V.non:=h2;subst h2;cases r2;obtain⟨c,xs,rfl,_,_,r,_⟩:=h1;cases r1;obtain⟨its,_,p,_⟩:=I.list (.inl r);cases Option.some.inj e;exact SeqAt.EqAt.list_none p.isList (by omega)
 |_=>cases e
noncomputable def EqN (D:DP)(φ α:List Addr)(H:Hp)(s:Shared)(n:Nat):Prop:=∀(t u:T) (v w:V) (a b:Value) (k:Bool) (A:Around),wY t<n->Den D φ α H t v->Den D φ α H u w->RelV v a->RelV w b->eqT t u=some k->A.units+wY t+1<cLine->SeqAt.EqAt A s a b k
theorem w6{n:Nat}(ih:EqN D φ α H s n):∀{ts us:List T} {xs ys:List V} {its its2:List Value} {A:Around},qo ts<n->DenL D φ α H ts xs->DenL D φ α H us ys->Vals xs its->Vals ys its2->A.units+qo ts+1<cLine->
  ∀(j:Nat) (h1:j<its.length) (h2:j<its2.length),(∀(g1:j<ts.length) (g2:j<us.length),∃b,eqT ts[j] us[j]=some b)->SeqAt.EqAt A s its[j] its2[j] (match ts[j]?,us[j]? with|some t,some u=>(eqT t u).getD false|_,_=>false)
 |[],_,xs,_,its,_,A,_,l,_,rv,_,_,j,h1,_,_=>by
  have l:xs=[]:=l
  subst l
  cases rv
  simp at h1
 |t::ts,us,xs,ys,its,its2,A,hd,l,l',rv,rv',hu,j,h1,h2,g=>by
  obtain⟨v,r,rfl,d1,l⟩:=l
  cases rv with
  | @cons _ u0 _ us0 r0 rv=>
  cases us with
  |nil=>
   have l':ys=[]:=l'
   subst l'
   cases rv'
   simp at h2
  |cons u us=>
   obtain⟨w,r',rfl,d2,l'⟩:=l'
   cases rv' with
   | @cons _ u0' _ us0' r0' rv'=>
   simp only[qo] at hu hd
   cases j with
   |zero=>
    obtain⟨b,hb⟩:=g (by simp) (by simp)
    have hb':eqT t u=some b:=by simpa using hb
    simp only[List.getElem?_cons_zero,hb',Option.getD_some,List.getElem_cons_zero]
    exact ih _ _ _ _ _ _ _ _ (by omega) d1 d2 r0 r0' hb' (by omega)
   |succ j=>
    simp only[List.getElem?_cons_succ,List.getElem_cons_succ]
    exact w6 ih (by omega) l l' rv rv' (by omega) j (by simpa using h1) (by simpa using h2) λg1 g2=>by
     obtain⟨b,hb⟩:=g (by simpa using g1) (by simpa using g2)
     exact⟨b,by simpa using hb⟩
theorem yz(I:Inv X pins σ H s){n:Nat}(ih:EqN D φ α H s n){ts us:List T}{xs ys:List V}{c d:Addr}{k:Bool}{A:Around}(hd:qo ts<n)(l:DenL D φ α H ts xs)(l':DenL D φ α H us ys)(r:Rd H c (.tup xs))(r':Rd H d (.tup ys))(e:eqL ts us=some k)(hu:A.units+qo ts+2<cLine):SeqAt.RcAt A s (.ref c) (.ref d) k:=by
 obtain⟨its,rv,p,_⟩:=I.tuple (.inl r)
 obtain⟨its2,rv',p',_⟩:=I.tuple (.inl r')
 obtain⟨g,rfl⟩:=kK e
 have h1:ts.length=its.length:=l.length.trans rv.length
 have h2:us.length=its2.length:=l'.length.trans rv'.length
 have:=SeqAt.RcAt.tuples (A:=A) (e:=λj=>match ts[j]?,us[j]? with|some t,some u=>(eqT t u).getD false|_,_=>false) p p' (by omega) λj q1 q2=>by
  have:=w6 (A:=A.in1) ih hd l l' rv rv' (by rw[in1_units];omega) j (by simpa using q1) (by simpa using q2) λg1 g2=>g j g1 g2
  simpa using this
 simpa[h1,h2] using this
theorem yy(I:Inv X pins σ H s){n:Nat}(ih:EqN D φ α H s n){ts us:List T}{xs ys:List V}{c d:Addr}{k:Bool}{A:Around}(hd:qo ts<n)(l:DenL D φ α H ts xs)(l':DenL D φ α H us ys)(r:Rd H c (.lst xs))(r':Rd H d (.lst ys))(e:eqL ts us=some k)(hu:A.units+qo ts+2<cLine):SeqAt.RcAt A s (.ref c) (.ref d) k:=by
 obtain⟨its,rv,p,_⟩:=I.list (.inl r)
 obtain⟨its2,rv',p',_⟩:=I.list (.inl r')
 obtain⟨g,rfl⟩:=kK e
 have h1:ts.length=its.length:=l.length.trans rv.length
 have h2:us.length=its2.length:=l'.length.trans rv'.length
 by_cases hl:ts.length=us.length
 ·have:=SeqAt.RcAt.lists (A:=A) (e:=λj=>match ts[j]?,us[j]? with|some t,some u=>(eqT t u).getD false|_,_=>false) p.isList p'.isList (by simp;omega) (by omega) λj q1 q2=>by
   have:=w6 (A:=A.in1) ih hd l l' rv rv' (by rw[in1_units];omega) j (by simpa using q1) (by simpa using q2) λg1 g2=>g j g1 g2
   simpa using this
  have e2:min ts.length us.length=its.length:=by omega
  have e3:(ts.length == us.length)=true:=by simpa using hl
  rw[e2,e3,Bool.and_true]
  simpa using this
 ·have e3:(ts.length == us.length)=false:=by simpa using hl
  rw[e3,Bool.and_false]
  exact SeqAt.RcAt.lists_lengths p.isList p'.isList (by simp;omega) (by omega)
theorem yM(I:Inv X pins σ H s):∀n,EqN D φ α H s n
 |0=>λ_ _ _ _ _ _ _ _ hn=>absurd hn (by omega)
 |n+1=>λt u v w a b k A hn h1 h2 r1 r2 e hu=>by
  have ih:=yM I n
  cases t with
  |int i=>exact kT I h1 h2 r1 r2 e hu
  |bl i=>exact JU I h1 h2 r1 r2 e hu
  |str i=>exact VN I h1 h2 r1 r2 e hu
  |non=>exact JL I h1 h2 r1 r2 e hu
  |tup ts=>
   cases u with
   |tup us=>
    have hs:=λ(q:w=v)=>kJ h1 (q▸h2) e
    obtain⟨c,xs,rfl,_,_,r,l⟩:=h1
    obtain⟨d,ys,rfl,_,_,r',l'⟩:=h2
    cases r1;cases r2
    by_cases hcd:c=d
    ·subst hcd
     rw[hs rfl]
     exact SeqAt.EqAt.same _
    ·refine SeqAt.EqAt.of_refs hcd ?_
     exact yz I ih (by simp only[wY] at hn;omega) l l' r r' e (by simp only[wY] at hu;omega)
   |_=>exact ZW I (by intro _ z;cases z) h1 h2 r1 r2 e hu
  |lst ts=>
   cases u with
   |lst us=>
    have hs:=λ(q:w=v)=>kJ h1 (q▸h2) e
    obtain⟨c,xs,rfl,_,_,r,l⟩:=h1
    obtain⟨d,ys,rfl,_,_,r',l'⟩:=h2
    cases r1;cases r2
    by_cases hcd:c=d
    ·subst hcd
     rw[hs rfl]
     exact SeqAt.EqAt.same _
    ·refine SeqAt.EqAt.of_refs hcd ?_
     exact yy I ih (by simp only[wY] at hn;omega) l l' r r' e (by simp only[wY] at hu;omega)
   |_=>exact Qb I (by intro _ z;cases z) h1 h2 r1 r2 e hu
  |_=>cases e
theorem Js(I:Inv X pins σ H s){ts us:List T}{xs ys:List V}{c d:Addr}{k:Bool}{A:Around}(l:DenL D φ α H ts xs)(l':DenL D φ α H us ys)(r:Rd H c (.tup xs))(r':Rd H d (.tup ys))(e:eqL ts us=some k)(hu:A.units+qo ts+2<cLine):SeqAt.RcAt A s (.ref c) (.ref d) k:=yz I (yM I _) (Nat.lt_succ_self _) l l' r r' e hu
theorem VZ(I:Inv X pins σ H s){ts us:List T}{xs ys:List V}{c d:Addr}{k:Bool}{A:Around}(l:DenL D φ α H ts xs)(l':DenL D φ α H us ys)(r:Rd H c (.lst xs))(r':Rd H d (.lst ys))(e:eqL ts us=some k)(hu:A.units+qo ts+2<cLine):SeqAt.RcAt A s (.ref c) (.ref d) k:=yy I (yM I _) (Nat.lt_succ_self _) l l' r r' e hu
theorem xn(I:Inv X pins σ H s):∀{ts us:List T} {xs ys:List V} {its its2:List Value} {A:Around},DenL D φ α H ts xs->DenL D φ α H us ys->Vals xs its->Vals ys its2->A.units+qo ts+1<cLine->
  ∀(j:Nat) (h1:j<its.length) (h2:j<its2.length),(∀(g1:j<ts.length) (g2:j<us.length),∃b,eqT ts[j] us[j]=some b)->SeqAt.EqAt A s its[j] its2[j] (match ts[j]?,us[j]? with|some t,some u=>(eqT t u).getD false|_,_=>false):=λl l' rv rv' hu=>w6 (yM I _) (Nat.lt_succ_self _) l l' rv rv' hu
theorem Jq(I:Inv X pins σ H s){ts us:List T}{xs ys:List V}{c d:Addr}{k:Bool}{A:Around}(l:DenL D φ α H ts xs)(l':DenL D φ α H us ys)(r:Rd H c (.tup xs))(r':Rd H d (.tup ys))(e:eqL ts us=some k)(hu:A.units+qo ts+2<cLine):SeqAt.RcNeAt A s (.ref c) (.ref d) (!k):=by
 obtain⟨its,rv,p,_⟩:=I.tuple (.inl r)
 obtain⟨its2,rv',p',_⟩:=I.tuple (.inl r')
 obtain⟨g,rfl⟩:=kK e
 have h1:ts.length=its.length:=l.length.trans rv.length
 have h2:us.length=its2.length:=l'.length.trans rv'.length
 have:=SeqAt.RcNeAt.tuples (A:=A) (e:=λj=>match ts[j]?,us[j]? with|some t,some u=>(eqT t u).getD false|_,_=>false) p p' (by omega) λj q1 q2=>by
  have:=xn (A:=A.in1) I l l' rv rv' (by rw[in1_units];omega) j (by simpa using q1) (by simpa using q2) λg1 g2=>g j g1 g2
  simpa using this
 simpa[h1,h2] using this
theorem JJ(I:Inv X pins σ H s){ts us:List T}{xs ys:List V}{c d:Addr}{k:Bool}{A:Around}(l:DenL D φ α H ts xs)(l':DenL D φ α H us ys)(r:Rd H c (.lst xs))(r':Rd H d (.lst ys))(e:eqL ts us=some k)(hu:A.units+qo ts+2<cLine):SeqAt.RcNeAt A s (.ref c) (.ref d) (!k):=by
 obtain⟨its,rv,p,_⟩:=I.list (.inl r)
 obtain⟨its2,rv',p',_⟩:=I.list (.inl r')
 obtain⟨g,rfl⟩:=kK e
 have h1:ts.length=its.length:=l.length.trans rv.length
 have h2:us.length=its2.length:=l'.length.trans rv'.length
 by_cases hl:ts.length=us.length
 ·have:=SeqAt.RcNeAt.lists (A:=A) (e:=λj=>match ts[j]?,us[j]? with|some t,some u=>(eqT t u).getD false|_,_=>false) p.isList p'.isList (by simp;omega) (by omega) λj q1 q2=>by
   have:=xn (A:=A.in1) I l l' rv rv' (by rw[in1_units];omega) j (by simpa using q1) (by simpa using q2) λg1 g2=>g j g1 g2
   simpa using this
  have e2:min ts.length us.length=its.length:=by omega
  have e3:(ts.length == us.length)=true:=by simpa using hl
  rw[e2,e3,Bool.and_true]
  simpa using this
 ·have e3:(ts.length == us.length)=false:=by simpa using hl
  rw[e3,Bool.and_false]
  exact SeqAt.RcNeAt.lists_lengths p.isList p'.isList (by simp;omega) (by omega)
end
end
noncomputable def spM (D:DP)(f:Fn):Sp:=λvs H Q E=>∃φ α ts μ,DenL D φ α H ts vs/\MRel D φ α H μ/\Post D (wOf E) φ α H [] (λt _ α' H'=>∀v,Den D φ α' H' t v->Q v H') (f ts μ)
noncomputable def spN (D:DP)(n:Nat)(f:Fn):Sp:=λvs H Q E=>vs.length=n/\spM D f vs H Q E
noncomputable def uN(D:DP)(t:Nat)(u:Value):Prop:=
 (t=0/\u=.type "NoneType")\/(t=1/\u=.type "bool")\/(t=2/\u=.type "int")\/(t=3/\u=.type "str")\/(t=4/\u=.type "tuple")\/(t=5/\u=.type "list")\/(∃C,D.adr t=some C/\u=.ref C)\/(t=6/\u=.type "dict")\/(∃C,D.cad t=some C/\u=.ref C)
noncomputable def xI(mg:Str->Option Value)(c:Str)(u:Value):Prop:=mg c=some u\/(mg c=none/\bootBuiltins c=some u/\c≠"__name__")
abbrev Vh(X:Cx)(c:Str)(u:Value):Prop:=xI X.mg c u
noncomputable def ClsV(v:V)(u:Value):Prop:=(∃C,v=.ref C/\u=.ref C)\/∃n,v=.ty n/\u=.type n
theorem ClsV.rel{v:V}{u:Value}(h:ClsV v u):L2.RelV v u:=by
 rcases h with⟨C,rfl,rfl⟩|⟨n,rfl,rfl⟩<;>rfl
theorem ClsV.only{v:V}{u u':Value}(h:ClsV v u)(r:L2.RelV v u'):u'=u:=by
 rcases h with⟨C,rfl,rfl⟩|⟨n,rfl,rfl⟩<;>exact r
structure XCls(K:PySem.W.Frag)(C:Addr):Prop where
 ga:PySem.W.findIn K (.ref C) "__getattribute__"=some (some (.builtin "BaseException.__getattribute__"))
 hk:PySem.W.findIn K (.ref C) "__getattr__"=some none
 fi:PySem.W.findIn K (.ref C) "__class__"=some (some (.builtin "object.__class__"))
 sp:PySem.W.specialIn K (.builtin "object.__class__") "__get__"=some (some (.builtin "getset_descriptor.__get__"))
 tk:PySem.W.takesIn K (.builtin "object.__class__")=some true
 ob:PySem.W.mroIn K C (.type "object")=some true
 bx:PySem.W.mroIn K C (.type "BaseException")=some true
 cl:(PySem.W.clsIn K C).isSome=true
structure OCls(K:PySem.W.Frag)(C:Addr):Prop where
 cl:Cls K C
 fi:PySem.W.findIn K (.ref C) "__class__"=some (some (.builtin "object.__class__"))
 sp:PySem.W.specialIn K (.builtin "object.__class__") "__get__"=some (some (.builtin "getset_descriptor.__get__"))
 tk:PySem.W.takesIn K (.builtin "object.__class__")=some true
 ob:PySem.W.mroIn K C (.type "object")=some true
abbrev zQ:List Value:=[.type "ValueError",.type "Exception",.type "BaseException",.type "object"]
noncomputable def FOk (D:DP)(P:Program)(w:World)(K:PySem.W.Frag)(mg:Str->Option Value)(base:Heap)(k:Nat)(fa:Addr)(f:Fn):Prop:=
 ∃fd ps kk,PySem.W.keepIn K (.ref fa)=true/\Binds K fd ps []/\kk<=k/\FnOk P w K mg base (CX1 P w) kk fa fd ps (spN D ps.length f)/\∀ts μ K Z,f ts μ K Z->ts.length=ps.length
structure RoomH(k:Nat)(A:Around):Prop where
 dp:A.depth+3 * k+5<recursionLimit
 un:A.units+16 * k+200<cLine
theorem RoomH.units{k:Nat}{A:Around}(r:RoomH k A):A.units+64<cLine:=by have:=r.un;omega
noncomputable def z19(P:Program)(w:World)(K:PySem.W.Frag)(mg:Str->Option Value)(base:Heap)(k:Nat)(f:Addr)(fd:FuncData)(ps:List Str)(sp:Sp):Prop:=
 ∀(A:Around) (outer:List Env) (s:Shared) (H:Hp) (args:Args) (us:List Value) (vs:List V) (Q:VK),RoomH k A->Env0 P w K mg base A outer s H->BindsTo s fd args (ps.zip us)->Vals vs us->sp vs H Q (λ_ _ _=>False)->
  codeAny (model P w) A (.call (.ref f) args) (CR (λ_ _ _ _ _ _=>False) outer P w H s Q (λ_ _ _=>False)) s
noncomputable def j_ (x C:Addr):Heap->Prop:=λh=>∃t,h.get? x=some {cls:=.ref C,data:=.fields #[.ref t,.none,.none,.none,.bool false,.none]}
noncomputable def xq(x C dx:Addr):Heap->Prop:=λh=>∃t,h.get? x=some {cls:=.ref C,dict:=some dx,data:=.fields #[.ref t,.none,.none,.none,.bool false,.none]}
structure XIn(K:PySem.W.Frag)(C HE fI:Addr)(fl:Str):Prop where
 cls:∃N nm q bs hd sn sub ab col dd k0 k1 k2 k3 k5,K.lookup C=some (excClassObj nm q C N bs (.ref HE::zQ) hd sn sub ab col dd k0 k1 k2 k3 k5 "ValueError.__new__")/\PySem.W.nsOkIn K N=true/\PySem.W.nsIn K N "__init__"=some (some (.ref fI))
 he:PySem.W.excIn K HE zQ "ValueError.__new__"=true
 fn:PySem.W.typeIn K (.ref fI)=some (.type "function")
 sa:PySem.W.findIn K (.ref C) "__setattr__"=some (some (.builtin "object.__setattr__"))
 no:PySem.W.findIn K (.ref C) fl=some none
 dct:PySem.W.hasDictIn K C=true
 kp:PySem.W.keepIn K (.ref C)=true
noncomputable def spI (C:Addr)(fl:Str):Sp:=λvs H Q E=>∃(x:Addr) (i:Int),vs=[.ref x,.int i]/\i.natAbs.log2<1920/\H x=some (.ext (j_ x C))/\∀dx,H dx=none->dx≠x->Q .non (upd (upd H x (.ext (xq x C dx))) dx (.xd [(fl,.int i)]))
noncomputable def XA(y:Str)(sc:Scope):Bool:=(sc.kind == .function)&&!sc.isCoroutine&&!sc.isGenerator&&sc.names.all (λy=>y.2 != .free)&&(sc.names.lookup y == some .local)&&y != ("__debug__":Str)&&y != ("__classdict__":Str)
noncomputable def z1F(a c:Addr)(qn:Str):Heap->Prop:=λh=>∃(y:Str) (pa:Pos) (kk:Nat) (bp:Pos) (sc:Scope) (pm ctv:Value),XA y sc=true/\h.get? a=some (PySem.W.kla_obj "<lambda>" qn ⟨[],[⟨y,none,pa⟩],none,[],[],none,[]⟩ (.Constant .none kk bp) sc [] pm c ctv)
noncomputable def z0C(t:T):Prop:=t=.clo 0 [.clo 100 []]\/t=.clo 1 []\/t=.clo 2 [.clo 101 []]
noncomputable def z1V (D:DP)(P:Program)(w:World)(K:PySem.W.Frag)(mg:Str->Option Value)(base:Heap)(k:Nat):Prop:=
 ∀(t:T) (φ α:List Addr) (H:Hp) (v:V),z0C t->Den D φ α H t v->∃a kk,v=.ref a/\kk<=k/\∀(A:Around) (outer:List Env) (s:Shared),Env0 P w K mg base A outer s H->PySem.W.FnAt a s.heap/\(Room kk A->∀(u:Value) (x:V) (Q:VK) (t:T) (φ α:List Addr) (μ:Mem),RelV x u->Den D φ α H t x->MRel D φ α H μ->(∀α' H',Stp α H α' H'->MRel D φ α' H' μ->Q .non H')->
  codeAny (model P w) A (.call (.ref a) ⟨[u],[]⟩) (CR (CX1 P w) outer P w H s Q (λ_ _ _=>False)) s)
noncomputable def jg(a c:Addr)(l:LamD)(cl:List (Str×Addr)):Heap->Prop:=λh=>∃(pa:Pos) (pm ctv:Value),h.get? a=some (PySem.W.kla_obj "<lambda>" l.qn ⟨[],[⟨l.y,none,pa⟩],none,[],[],none,[]⟩ l.body l.sc cl pm c ctv)
noncomputable def WI(fr:List Str)(cl:List (Str×Addr))(cs:List Addr):Prop:=fr.map (λx=>cl.lookup x)=cs.map some/\cs.Nodup/\∀x a,cl.lookup x=some a->x∈fr
noncomputable def z17(D:DP)(P:Program)(w:World)(K:PySem.W.Frag)(mg:Str->Option Value)(base:Heap)(k:Nat)(ls:List LamD):Prop:=
 ∀(j:Nat) (l:LamD) (ts:List T) (φ α:List Addr) (H:Hp) (v:V),ls[j]?=some l->Den D φ α H (Jh j l.jt ts) v->∃(a:Addr) (kk:Nat),v=.ref a/\kk<=k/\∀(A:Around) (outer:List Env) (s:Shared),Env0 P w K mg base A outer s H->PySem.W.FnAt a s.heap/\(Room kk A->
  ∀(u:Value) (x:V) (Q:VK) (t:T) (μ:Mem) (K0:T->Mem->Prop),RelV x u->Den D φ α H t x->MRel D φ α H μ->l.g (some t::ts.map some) μ K0 (λ_ _ _=>False)->(∀t' μ',K0 t' μ'->∀α' H' v',Stp α H α' H'->MRel D φ α' H' μ'->Den D φ α' H' t' v'->Q v' H')->
  codeAny (model P w) A (.call (.ref a) ⟨[u],[]⟩) (CR (CX1 P w) outer P w H s Q (λ_ _ _=>False)) s)
structure KapMk(D:DP)(ls:List LamD):Prop where
 tb:∀(j:Nat) (l:LamD),ls[j]?=some l->∃P' pos,D.tabs l.jt=some (P',pos,l.qn)
 fn:∀(j:Nat) (l:LamD) (a c:Addr) (cl:List (Str×Addr)) (cs:List Addr),ls[j]?=some l->WI l.fr cl cs->D.clo (300+j) a (some (.ext (jg a c l cl))) (.ref c::cs.map V.ref)
 ce:∀c (o:Obj) u x ob,o.data=.cell (some u)->RelV x u->D.clo 200 c (some (.frz o ob)) [x]
 co:∀j P' pos qn c,D.tabs j=some (P',pos,qn)->D.clo (100+j) c (some (.ext (w9 c qn))) []
noncomputable def GlOkM(D:DP)(P:Program)(w:World)(K:PySem.W.Frag)(mg:Str->Option Value)(base:Heap)(k:Nat)(x:Str):GM->Prop
 |.fn f=>∃fa,mg x=some (.ref fa)/\FOk D P w K mg base k fa f
 |.fnh nm f=>∃fa,mg nm=some (.ref fa)/\∃fd ps kk,PySem.W.keepIn K (.ref fa)=true/\Binds K fd ps []/\kk<=k/\z19 P w K mg base kk fa fd ps (spN D ps.length f)/\∀ts μ K Z,f ts μ K Z->ts.length=ps.length
 |.met c nm f=>∃C fI fd ps kk,D.cad c=some C/\Cls K C/\Meth K C nm fI/\(∀i,D.fn i≠some nm)/\Binds K fd ps []/\kk<=k/\FnOk P w K mg base (CX1 P w) kk fI fd ps (spN D ps.length f)/\∀ts μ K Z,f ts μ K Z->ts.length=ps.length
 |.mk c _ f=>∃C fI fd ps kk,D.cad c=some C/\mg x=some (.ref C)/\Mk K C fI/\Binds K fd ps []/\kk+1<=k/\FnOk P w K mg base (CX1 P w) kk fI fd ps (spN D ps.length f)/\∀ts μ K Z,f ts μ K Z->ts.length=ps.length
 |.cst t=>∃u v,mg x=some u/\RelV v u/\∀φ α H,Den D φ α H t v
 |.xcl c=>∃C,D.adr c=some C/\mg x=some (.ref C)/\PySem.W.excIn K C zQ "ValueError.__new__"=true
 |.xcf c _=>∃C,D.adr c=some C/\mg x=some (.ref C)
 |.xin c f nm fl=>∃C HE fI fd ps kk,D.adr c=some C/\mg nm=some (.ref C)/\D.fn f=some fl/\XIn K C HE fI fl/\Binds K fd ps []/\kk+1<=k/\FnOk P w K mg base (CX1 P w) kk fI fd ps (spI C fl)
 |.mkd c nm n f=>∃C fI fd ps kk,D.cad c=some C/\mg nm=some (.ref C)/\Mk K C fI/\Binds K fd ps [.none]/\kk+1<=k/\FnOk P w K mg base (CX1 P w) kk fI fd ps (spN D ps.length f)/\(∀ts μ K Z,f ts μ K Z->ts.length=ps.length)/\ps.length=n+2
 |.metd c nm n d f=>∃C fI fd ps kk du dv,D.cad c=some C/\Cls K C/\Meth K C nm fI/\(∀i,D.fn i≠some nm)/\Binds K fd ps [du]/\RelV dv du/\(∀φ α H,Den D φ α H d dv)/\kk<=k/\FnOk P w K mg base (CX1 P w) kk fI fd ps (spN D ps.length f)/\(∀ts μ K Z,f ts μ K Z->ts.length=ps.length)/\ps.length=n+2
 |.kpr=>z1V D P w K mg base k/\∀j P' pos qn,j<2->D.tabs j=some (P',pos,qn)->∀a c,D.clo (2 * j) a (some (.ext (z1F a c qn))) [.ref c]/\D.clo (100+j) c (some (.ext (w9 c qn))) []
 |.kap ls=>z17 D P w K mg base k ls/\KapMk D ls
 |.none=>mg x=none
 |.bad=>True
abbrev z0w(D:DP)(X:Cx)(k:Nat)(x:Str)(g:GM):Prop:=GlOkM D X.prog X.w X.K X.mg X.base k x g
structure Cn where
 N:List Str
 G:List Str
 calm:Bool
 gl:Str->GM
 cls:List (Str×Nat)
 fld:List (Str×Nat)
 U:List Str
 cel:List Str
 own:List Str
 lam:Option (Nat×List Pos):=none
 fz:List Str:=[]
noncomputable def Cn.sto(Γ:Cn):List Str:=Γ.N.filter λx=>!Γ.fz.contains x
noncomputable def Cn.look(Γ:Cn)(x:Str):GM:=if Γ.G.contains x then Γ.gl x else .bad
noncomputable def LamOk(D:DP)(mg:Str->Option Value)(base:Heap)(code:Value)(qual:Str)(k:Nat)(l:Option (Nat×List Pos)):Prop:=∀j poss,l=some (j,poss)->2<=k/\∃c P,code=.ref c/\PySem.W.CodeHd base c P/\base.BuiltinsAt mg P/\D.tabs j=some (P,poss,qual++"<lambda>")
theorem LamOk.no{D:DP}{mg:Str->Option Value}{base:Heap}{code:Value}{qual:Str}{k:Nat}{l:Option (Nat×List Pos)}(h:l=none):LamOk D mg base code qual k l:=λj pos e=>by rw[h] at e;cases e
structure Ck(D:DP)(W:XW)(Γ:Cn)(X:Cx)(k:Nat):Prop where
 hK:X.K=D.K
 hN:X.N=Γ.N
 nd:Γ.N.Nodup
 vis:∀x∈Γ.N,Vis X.env.scope x
 dbg:∀x∈Γ.N,(x == ("__debug__":Str))=false/\(x == ("__classdict__":Str))=false
 dbG:∀x∈Γ.G,(x == ("__debug__":Str))=false
 glb:∀x∈Γ.G,Gl X x
 glo:∀x∈Γ.G,z0w D X k x (Γ.gl x)
 glU:∀x∈Γ.U,z0w D X k x (Γ.gl x)/\(x == ("__debug__":Str))=false
 cel:∀x∈Γ.cel,X.env.kindOf x=some .cell\/X.env.kindOf x=some .free
 isi:∀t x c,(x,c)∈Γ.cls->∀u v,uN D t u->Vh X x v->PySem.W.kitOne X.K u v=some (v_ t c)
 fld:∀c C x f,D.cad c=some C->(x,f)∈Γ.fld->D.fn f=some x/\Cls X.K C/\NoAttr X.K C x
 xcx:∀c C,D.adr c=some C->XCls X.K C
 ocx:∀c C,D.cad c=some C->OCls X.K C
 clv:∀x c,(x,c)∈Γ.cls->∃u v,Vh X x u/\ClsV v u
 clm:Γ.calm=true->X.calm=true
 rom:Γ.calm=true->Room k X.A
 rmh:RoomH k X.A
 xe:∀e s,XP X W e s->X.xe e s
 frm:∃e0 out L,Frm X e0 out L
 lam:LamOk D X.mg X.base X.env.code X.env.qual k Γ.lam
 kfz:Γ.lam.isSome=true->∀x∈Γ.fz,X.fn x=false/\∀c,X.env.cells.lookup x=some c->X.s₀.heap.objs.size<=c
theorem Ck.unt{D:DP}{W:XW}{Γ:Cn}{X:Cx}{k:Nat}(C:Ck D W Γ X k):X.A.units+64<cLine:=C.rmh.units
theorem qW:∀{N:List Str} {x:Str} {i:Nat},idx N x=some i->N[i]?=some x
 |[],_,_,h=>by simp[idx] at h
 |y::r,x,i,h=>by
  simp only[idx] at h
  split at h
  ·rename_i e;cases h;simp[e]
  ·cases q:idx r x with
   |none=>rw[q] at h;cases h
   |some j=>rw[q] at h;cases h;simpa using qW q
theorem qH{N:List Str}{x:Str}{i:Nat}(h:idx N x=some i):x∈N:=List.mem_of_getElem? (qW h)
section
variable {X:Cx}{D:DP}{W:XW}{Γ:Cn}{k:Nat}{pins:List (Addr×Obj)}{s:Shared}{σ:St}{H:Hp}{φ α:List Addr}{τ:Sl}{μ:Mem}{f g h:De}{a b c:Expr}{pos:Pos}
theorem PE.mono{e:Expr}{t t':TE}(h:PE X e t)(m:∀σ H Q,t' σ H Q->t σ H Q):PE X e t':=λpins s σ H Q I q=>h pins s σ H Q I (m σ H Q q)
theorem YV{i j pos}:PE X (.Constant (.int i) j pos) (rdE D W (eC (.int i))):=PE.mono Us λσ H Q ⟨φ,α,τ,μ,sr,mr,p⟩=>Post.here p mr rfl
theorem z1D{i j pos}:PE X (.Constant (.bool i) j pos) (rdE D W (eC (.bl i))):=PE.mono z0P λσ H Q ⟨φ,α,τ,μ,sr,mr,p⟩=>Post.here p mr rfl
theorem Ui{j pos}:PE X (.Constant .none j pos) (rdE D W (eC .non)):=PE.mono UL λσ H Q ⟨φ,α,τ,μ,sr,mr,p⟩=>Post.here p mr rfl
theorem YA{i j pos}:PE X (.Constant (.str i) j pos) (rdE D W (eC (.str i))):=PE.mono yY λσ H Q ⟨φ,α,τ,μ,sr,mr,p⟩=>Post.here p mr rfl
theorem YX(C:Ck D W Γ X k){x:Str}{i:Nat}(hi:idx Γ.N x=some i):PE X (.Name x pos) (rdE D W (eV i)):=by
 refine PE.mono (jF (i:=i) (by rw[C.hN];exact qW hi) (C.vis x (qH hi)) (C.dbg x (qH hi)).1 (C.dbg x (qH hi)).2) ?_
 rintro σ H Q ⟨φ,α,τ,μ,sr,mr,p⟩
 dsimp only[eV] at p
 split at p
 ·rename_i t e
  obtain⟨v,q,d⟩:=sr.get e
  exact⟨v,q,p.here mr d⟩
 ·exact p.elim
theorem Ur(C:Ck D W Γ X k){x:Str}{t:T}(hx:x∈Γ.G)(ht:Γ.gl x=.cst t):PE X (.Name x pos) (rdE D W (eC t)):=by
 have g:=C.glo x hx
 rw[ht] at g
 obtain⟨u,v,hm,r,d⟩:=g
 exact PE.mono (W6 (C.glb x hx) hm r (C.dbG x hx)) λσ H Q ⟨φ,α,τ,μ,sr,mr,p⟩=>Post.here p mr (d _ _ _)
theorem UO{op:Operator}(ha:PE X a (rdE D W f))(hb:PE X b (rdE D W g)):PE X (.BinOp a op b pos) (rdE D W (zb op f g)):=by
 rintro pins s σ H Q I ⟨φ,α,τ,μ,sr,mr,p⟩
 refine wpAny_BinOp (thn (sub ha I sr mr p) ?_)
 rintro u s1 ⟨v,H1,t,μ1,α1,I1,r1,st1,sr1,mr1,d1,p1⟩
 refine thn (sub hb I1 sr1 mr1 p1) ?_
 rintro u' s2 ⟨v',H2,t',μ2,α2,I2,r2,st2,sr2,mr2,d2,p2⟩
 exact YS I2 mr2 (d1.step st2) d2 r1 r2 p2
theorem U2(ha:PE X a (rdE D W f)):PE X (.UnaryOp .USub a pos) (rdE D W (z0D f)):=by
 rintro pins s σ H Q I ⟨φ,α,τ,μ,sr,mr,p⟩
 refine UnaryOp_ (thn (sub ha I sr mr p) ?_)
 rintro u s1 ⟨v,H1,t,μ1,α1,I1,r1,st1,sr1,mr1,d1,p1⟩
 try dsimp only at p1
 split at p1
 ·cases d1
  exact U1 pins s1 σ H1 _ _ Q I1 r1 ⟨_,rfl,p1.here mr1 rfl⟩
 ·exact p1.elim
theorem Yy(ha:PE X a (rdE D W f)):PE X (.UnaryOp .Not a pos) (rdE D W (z08 f)):=by
 rintro pins s σ H Q I ⟨φ,α,τ,μ,sr,mr,p⟩
 refine UnaryOp_ (thn (sub ha I sr mr p) ?_)
 rintro u s1 ⟨v,H1,t,μ1,α1,I1,r1,st1,sr1,mr1,d1,p1⟩
 try dsimp only at p1
 split at p1
 ·rename_i b
  cases d1
  cases r1
  exact not_of (wpAny_truthy_bool ⟨.bl (!b),H1,I1,rfl,p1.here mr1 rfl⟩)
 ·exact p1.elim
theorem Yg{op:BoolOp}(ha:PE X a (rdE D W f)):PE X (.BoolOp op [a] pos) (rdE D W f):=Ya ha
theorem U_{r:List Expr}(ha:PE X a (rdE D W f))(hb:PE X (.BoolOp .And (b::r) pos) (rdE D W g)):PE X (.BoolOp .And (a::b::r) pos) (rdE D W (WV f g)):=by
 rintro pins s σ H Q I ⟨φ,α,τ,μ,sr,mr,p⟩
 refine BoolOp_and (thn (sub ha I sr mr p) ?_)
 rintro u s1 ⟨v,H1,t,μ1,α1,I1,r1,st1,sr1,mr1,d1,p1⟩
 try dsimp only at p1
 split at p1
 ·cases d1
  cases r1
  rcases p1.br with⟨rfl,p1⟩|⟨rfl,p1⟩
  ·exact wpAny_truthy_bool (hb pins s1 σ H1 Q I1 ⟨φ,α1,τ,μ1,sr1,mr1,p1⟩)
  ·exact wpAny_truthy_bool ⟨.bl false,H1,I1,rfl,p1.here mr1 rfl⟩
 ·exact p1.elim
theorem z0O{r:List Expr}(ha:PE X a (rdE D W f))(hb:PE X (.BoolOp .Or (b::r) pos) (rdE D W g)):PE X (.BoolOp .Or (a::b::r) pos) (rdE D W (eOr f g)):=by
 rintro pins s σ H Q I ⟨φ,α,τ,μ,sr,mr,p⟩
 refine BoolOp_or (thn (sub ha I sr mr p) ?_)
 rintro u s1 ⟨v,H1,t,μ1,α1,I1,r1,st1,sr1,mr1,d1,p1⟩
 try dsimp only at p1
 split at p1
 ·cases d1
  cases r1
  rcases p1.br with⟨rfl,p1⟩|⟨rfl,p1⟩
  ·exact wpAny_truthy_bool ⟨.bl true,H1,I1,rfl,p1.here mr1 rfl⟩
  ·exact wpAny_truthy_bool (hb pins s1 σ H1 Q I1 ⟨φ,α1,τ,μ1,sr1,mr1,p1⟩)
 ·exact p1.elim
theorem YL{x y:T}{v w:V}{b:Bool}(d1:Den D φ α H x v)(d2:Den D φ α H y w)(h:scT x y=some b):K6 v w=true/\decide (v=w)=b:=by
 unfold scT at h
 split at h<;>first
  |(cases h;cases d1;cases d2;exact⟨rfl,by simp⟩)
  |cases h
theorem Ye:OpR X (compareOp .Is) (λx y H Q=>∃a b,x=.bl a/\y=.bl b/\Q (.bl (decide (a=b))) H):=by
 intro pins s σ H x y v u Q I rx ry h
 obtain⟨a,b,rfl,rfl,q⟩:=h
 cases rx;cases ry
 refine wpAny_is_plain (by rfl) ⟨.bl (decide (a=b)),H,I,?_,q⟩
 cases a<;>cases b<;>rfl
theorem Ja:OpR X (compareOp .IsNot) (λx y H Q=>∃a b,x=.bl a/\y=.bl b/\Q (.bl (!decide (a=b))) H):=by
 intro pins s σ H x y v u Q I rx ry h
 obtain⟨a,b,rfl,rfl,q⟩:=h
 cases rx;cases ry
 refine wpAny_isNot_plain (by rfl) ⟨.bl (!decide (a=b)),H,I,?_,q⟩
 cases a<;>cases b<;>rfl
theorem Jn{b:Bool}{C:Prop}{x y:T}{v w:V}{kk:Bool->RE T}{Q:VK}(I:Inv X pins σ H s)(hu:X.A.units+64<cLine)(mr:MRel D φ α H μ)(d1:Den D φ α H x v)(d2:Den D φ α H y w)(p:Post D W φ α H σ (RV D φ Q) (eqW x y μ kk))
  (h1:∀b,Post D W φ α H σ (RV D φ Q) (kk b)->K6 v w=true/\decide (v=w)=b->C)
  (h2:∀b,Post D W φ α H σ (RV D φ Q) (kk b)->((∀u1 u2,RelV v u1->RelV w u2->∀{R:Value->Shared->Prop},R (.bool b) s->wpAny (model X.prog X.w) X.A (compareOp .Eq u1 u2) R X.xe s)/\(∀u1 u2,RelV v u1->RelV w u2->∀{R:Value->Shared->Prop},R (.bool (!b)) s->wpAny (model X.prog X.w) X.A (compareOp .NotEq u1 u2) R X.xe s))->C):C:=by
 have lst:∀{xs ys:List T} {c d:Addr} {vs ws:List V},v=.ref c->w=.ref d->Rd H c (.lst vs)->Rd H d (.lst ws)->DenL D φ α H xs vs->DenL D φ α H ys ws->Post D W φ α H σ (RV D φ Q) (RE.grd (qo xs<=40) (.som (eqL xs ys) kk))->C:=λ{xs ys c d vs ws} e1 e2 r r' l l' p=>by
  obtain⟨hd,p⟩:=p.grd
  obtain⟨b,hb,p⟩:=p.som
  subst e1 e2
  exact h2 b p ⟨λu1 u2 r1 r2 R q=>by cases r1;cases r2;exact VZ I l l' r r' hb (by omega) _ _ _ _ q,λu1 u2 r1 r2 R q=>by cases r1;cases r2;exact JJ I l l' r r' hb (by omega) _ _ _ _ q⟩
 unfold eqW at p
 split at p
 ·obtain⟨hd,p⟩:=p.grd
  obtain⟨b,hb,p⟩:=p.som
  obtain⟨c,vs,rfl,_,_,r,l⟩:=d1
  obtain⟨d,ws,rfl,_,_,r',l'⟩:=d2
  exact h2 b p ⟨λu1 u2 r1 r2 R q=>by cases r1;cases r2;exact Js I l l' r r' hb (by omega) _ _ _ _ q,λu1 u2 r1 r2 R q=>by cases r1;cases r2;exact Jq I l l' r r' hb (by omega) _ _ _ _ q⟩
 ·obtain⟨c,vs,e1,_,_,r,l⟩:=d1
  obtain⟨d,ws,e2,_,_,r',l'⟩:=d2
  exact lst e1 e2 r r' l l' p
 ·obtain⟨xs,hi,p⟩:=p.ex1
  obtain⟨c,hc,e1⟩:=d1
  obtain⟨vs,q,l⟩:=mr.ob _ c _ hc hi
  obtain⟨d,ws,e2,_,_,r',l'⟩:=d2
  exact lst e1 e2 (.inl q) r' l l' p
 ·obtain⟨ys,hi,p⟩:=p.ex1
  obtain⟨c,hc,e2⟩:=d2
  obtain⟨vs,q,l⟩:=mr.ob _ c _ hc hi
  obtain⟨d,ws,e1,_,_,r',l'⟩:=d1
  exact lst e1 e2 r' (.inl q) l' l p
 ·obtain⟨z,hi,p⟩:=p.ex1
  obtain⟨c,hc,e1⟩:=d1
  obtain⟨vs,q,l⟩:=mr.ob _ c _ hc hi.1
  obtain⟨d,hd,e2⟩:=d2
  obtain⟨ws,q',l'⟩:=mr.ob _ d _ hd hi.2
  exact lst e1 e2 (.inl q) (.inl q') l l' p
 ·split at p
  ·rename_i hb
   exact h1 _ p (YL d1 d2 hb)
  ·exact p.elim
theorem Qj{op:CmpOp}{x y:T}{v w:V}{u1 u2:Value}{Q:VK}(I:Inv X pins σ H s)(hu:X.A.units+64<cLine)(mr:MRel D φ α H μ)(d1:Den D φ α H x v)(d2:Den D φ α H y w)(r1:RelV v u1)(r2:RelV w u2)
  (p:Post D W φ α H σ (RV D φ Q) (u9 op x y μ)):wpAny (model X.prog X.w) X.A (compareOp op u1 u2) (EP X pins σ Q) X.xe s:=by
 unfold u9 at p
 split at p
 ·refine Jn (b:=true) I hu mr d1 d2 p (λb q h=>?_) (λb q h=>?_)
  ·obtain⟨s1,s2⟩:=h
   exact z1h pins s σ H v w u1 u2 Q I r1 r2 ⟨s1,by rw[s2];exact Post.here q mr rfl⟩
  ·exact h.1 _ _ r1 r2 ⟨.bl b,H,I,rfl,Post.here q mr rfl⟩
 ·refine Jn (b:=false) I hu mr d1 d2 p (λb q h=>?_) (λb q h=>?_)
  ·obtain⟨s1,s2⟩:=h
   exact z0H pins s σ H v w u1 u2 Q I r1 r2 ⟨s1,by rw[s2];exact Post.here q mr rfl⟩
  ·exact h.2 _ _ r1 r2 ⟨.bl (!b),H,I,rfl,Post.here q mr rfl⟩
 ·unfold ltW at p
  split at p
  ·cases d1;cases d2
   exact z0M pins s σ H _ _ u1 u2 Q I r1 r2 ⟨_,_,rfl,rfl,Post.here p mr rfl⟩
  ·obtain⟨ns,h1,p⟩:=p.som
   obtain⟨ms,h2,p⟩:=p.som
   obtain⟨a,vs,rfl,_,_,q1,l1⟩:=d1
   obtain⟨c,ws,rfl,_,_,q2,l2⟩:=d2
   rw[wJ h1 l1] at q1
   rw[wJ h2 l2] at q2
   exact UN (by omega) pins s σ H _ _ u1 u2 Q I r1 r2 ⟨a,c,ns,ms,rfl,rfl,.inl q1,.inl q2,Post.here p mr rfl⟩
  ·have d1:v=.str _:=d1
   have d2:w=.str _:=d2
   subst d1 d2
   obtain⟨t1,rfl⟩:=r1
   obtain⟨t2,rfl⟩:=r2
   exact PySem.P.lt_str ⟨.bl _,H,I,rfl,Post.here p mr rfl⟩
  ·exact p.elim
 ·split at p
  ·cases d1;cases d2
   exact z0z pins s σ H _ _ u1 u2 Q I r1 r2 ⟨_,_,rfl,rfl,p.here mr rfl⟩
  ·exact p.elim
 ·split at p
  ·cases d1;cases d2
   exact z1p pins s σ H _ _ u1 u2 Q I r1 r2 ⟨_,_,rfl,rfl,p.here mr rfl⟩
  ·exact p.elim
 ·split at p
  ·cases d1;cases d2
   exact z0J pins s σ H _ _ u1 u2 Q I r1 r2 ⟨_,_,rfl,rfl,p.here mr rfl⟩
  ·exact p.elim
 ·split at p
  ·cases d2
   refine Yl pins s σ H _ _ u1 u2 Q I r1 r2 ⟨rfl,?_⟩
   have q:=p.here mr rfl
   cases x<;>first
    |(have d1:v=_:=d1;subst d1;simpa using q)
    |(obtain⟨_,_,rfl,_⟩:=d1;simpa using q)
    |(obtain⟨_,_,_,_,rfl,_⟩:=d1;simpa using q)
    |(obtain⟨_,_,rfl⟩:=d1;simpa using q)
    |(obtain⟨_,_,_,rfl,_⟩:=d1;simpa using q)
  ·split at p
   ·have d1:v=.bl _:=d1
    have d2:w=.bl _:=d2
    subst d1 d2
    exact Ye pins s σ H _ _ u1 u2 Q I r1 r2 ⟨_,_,rfl,rfl,p.here mr rfl⟩
   ·exact p.elim
  ·exact p.elim
 ·split at p
  ·cases d2
   refine Kn pins s σ H _ _ u1 u2 Q I r1 r2 ⟨rfl,?_⟩
   have q:=p.here mr rfl
   cases x<;>first
    |(have d1:v=_:=d1;subst d1;simpa using q)
    |(obtain⟨_,_,rfl,_⟩:=d1;simpa using q)
    |(obtain⟨_,_,_,_,rfl,_⟩:=d1;simpa using q)
    |(obtain⟨_,_,rfl⟩:=d1;simpa using q)
    |(obtain⟨_,_,_,rfl,_⟩:=d1;simpa using q)
  ·split at p
   ·have d1:v=.bl _:=d1
    have d2:w=.bl _:=d2
    subst d1 d2
    exact Ja pins s σ H _ _ u1 u2 Q I r1 r2 ⟨_,_,rfl,rfl,p.here mr rfl⟩
   ·exact p.elim
  ·exact p.elim
 ·split at p
  ·have d1:v=.str _:=d1
   have d2:w=.str _:=d2
   subst d1 d2
   exact Wx pins s σ H _ _ u1 u2 Q I r1 r2 ⟨_,_,rfl,rfl,p.here mr rfl⟩
  ·exact p.elim
 ·split at p
  ·have d1:v=.str _:=d1
   have d2:w=.str _:=d2
   subst d1 d2
   exact ur pins s σ H _ _ u1 u2 Q I r1 r2 ⟨_,_,rfl,rfl,p.here mr rfl⟩
  ·exact p.elim
noncomputable def qY:Expr->Bool
 |.Name _ _=>true
 |.Constant _ _ _=>true
 |.BinOp _ _ _ _=>true
 |.UnaryOp _ _ _=>true
 |.Call _ _ _ _=>true
 |.Subscript _ _ _=>true
 |.Attribute _ _ _=>true
 |_=>false
noncomputable def w5:Expr->Bool
 |.Set _ _ _=>false
 |_=>true
noncomputable def jm:CmpOp->Bool
 |.In=>false|.NotIn=>false
 |_=>true
noncomputable def Zf(op:CmpOp)(b:Expr):Bool:=jm op || w5 b
noncomputable def vP:CmpOp->Bool
 |.Lt=>true|.LtE=>true|.Gt=>true|.GtE=>true|.Eq=>true|.NotEq=>true
 |_=>false
theorem QG{op:CmpOp}{b:Expr}(h:Zf op b=true):behindInMarks op b=false:=by
 cases hp:jm op with
 |true=>exact V9 b (by rintro rfl;simp[jm] at hp) (by rintro rfl;simp[jm] at hp)
 |false=>
  have hb:w5 b=true:=by unfold Zf at h;rw[hp] at h;exact h
  cases b<;>first|rfl|(simp[w5] at hb)
theorem Uq(C:Ck D W Γ X k){op:CmpOp}(ho:Zf op b=true)(ha:PE X a (rdE D W f))(hb:PE X b (rdE D W g)):PE X (.Compare a [op] [b] pos) (rdE D W (zj op f g)):=by
 rintro pins s σ H Q I ⟨φ,α,τ,μ,sr,mr,p⟩
 refine wpAny_Compare1 (thn (sub ha I sr mr p) ?_) (QG ho)
 rintro u s1 ⟨v,H1,t,μ1,α1,I1,r1,st1,sr1,mr1,d1,p1⟩
 refine thn (sub hb I1 sr1 mr1 p1) ?_
 rintro u' s2 ⟨v',H2,t',μ2,α2,I2,r2,st2,sr2,mr2,d2,p2⟩
 exact Qj I2 C.unt mr2 (d1.step st2) d2 r1 r2 p2
theorem kh{op:CmpOp}{β:Type}{R:β->Mem->List Addr->Hp->Prop}{kk:T->Mem->RE β}{x y:T}{v w:V}{u1 u2:Value}(I:Inv X pins σ H s)(hu:X.A.units+64<cLine)(mr:MRel D φ α H μ)(d1:Den D φ α H x v)(d2:Den D φ α H y w)(r1:RelV v u1)(r2:RelV w u2)
  (p:Post D W φ α H σ R ((u9 op x y μ).bind kk)):wpAny (model X.prog X.w) X.A (compareOp op u1 u2) (EP X pins σ λz H1=>∃t μ1 α1,Stp α H α1 H1/\MRel D φ α1 H1 μ1/\Den D φ α1 H1 t z/\Post D W φ α1 H1 σ R (kk t μ1)) X.xe s:=
 Qj I hu mr d1 d2 r1 r2 (p.bind.mono λt μ' α' H' st m q v d=>⟨t,μ',α',st,m,d,q⟩)
theorem wH:∀{ops:List CmpOp} {es:List Expr},ops.all vP=true->lastMarks ops es=false
 |[],es,_=>by cases es<;>rfl
 |[op],[],_=>rfl
 |[op],[e],h=>V9 e (by rintro rfl;simp[vP] at h) (by rintro rfl;simp[vP] at h)
 |[op],_::_::_,_=>rfl
 |op::op'::ops,[],_=>rfl
 |op::op'::ops,e::es,h=>by
  have:lastMarks (op'::ops) es=false:=wH (by simp only[List.all_cons,Bool.and_eq_true] at h ⊢;exact h.2)
  cases es with
  |nil=>cases ops<;>rfl
  |cons e' es=>exact this
noncomputable def W_ (X:Cx)(D:DP)(W:XW):List Expr->List (CmpOp×De)->Prop
 |[],[]=>True
 |e::es,p::ps=>PE X e (rdE D W p.2)/\W_ X D W es ps
 |_,_=>False
theorem Zp(hu:X.A.units+64<cLine){Q:VK}:∀{ps:List (CmpOp×De)} {es:List Expr} {s:Shared} {H:Hp} {α:List Addr} {μ:Mem} {x:T} {v:V} {u:Value},W_ X D W es ps->Inv X pins σ H s->SRel D φ α H τ σ->MRel D φ α H μ->Den D φ α H x v->RelV v u->Post D W φ α H σ (RV D φ Q) (VQ ps x τ μ)->
  wpAny (model X.prog X.w) X.A (compareChain pos u (ps.map (·.1)) (evalEach es X.env)) (EP X pins σ Q) X.xe s
 |[],_,_,_,_,_,_,_,_,_,_,_,_,_,_,p=>p.elim
 |[(op,g)],[],_,_,_,_,_,_,_,h,_,_,_,_,_,_=>h.elim
 |[(op,g)],[e],s,H,α,μ,x,v,u,h,I,sr,mr,d,r,p=>by
  refine chain_last (thn (sub h.1 I sr mr p) ?_)
  rintro u' s2 ⟨v',H2,t',μ2,α2,I2,r2,st2,sr2,mr2,d2,p2⟩
  exact Qj I2 hu mr2 (d.step st2) d2 r r2 p2
 |[(op,g)],_::_::_,_,_,_,_,_,_,_,h,_,_,_,_,_,_=>h.2.elim
 |(op,g)::p'::ps,[],_,_,_,_,_,_,_,h,_,_,_,_,_,_=>h.elim
 |(op,g)::p'::ps,[e],_,_,_,_,_,_,_,h,_,_,_,_,_,_=>h.2.elim
 |(op,g)::(op',g')::ps,e::e'::es,s,H,α,μ,x,v,u,h,I,sr,mr,d,r,p=>by
  refine chain_link (thn (sub h.1 I sr mr p) ?_)
  rintro u' s2 ⟨v',H2,t',μ2,α2,I2,r2,st2,sr2,mr2,d2,p2⟩
  refine thn (kh I2 hu mr2 (d.step st2) d2 r r2 p2) ?_
  rintro dd s3 ⟨z,H3,I3,r3,t3,μ3,α3,st3,mr3,d3,p3⟩
  try dsimp only at p3
  split at p3
  ·cases d3
   cases r3
   rcases p3.br with⟨rfl,p3⟩|⟨rfl,p3⟩
   ·exact wpAny_truthy_bool (ite_tt (Zp hu (ps:=(op',g')::ps) (es:=e'::es) h.2 I3 (sr2.step st3) mr3 (d2.step st3) r2 p3))
   ·exact wpAny_truthy_bool (ite_ff ⟨.bl false,H3,I3,rfl,p3.here mr3 rfl⟩)
  ·exact p3.elim
theorem JM(C:Ck D W Γ X k){e1 e2:Expr}{es:List Expr}{p1 p2:CmpOp×De}{ps:List (CmpOp×De)}(ho:(p1::p2::ps).all (λp=>vP p.1)=true)(ha:PE X a (rdE D W f))(h:W_ X D W (e1::e2::es) (p1::p2::ps)):PE X (.Compare a (p1.1::p2.1::ps.map (·.1)) (e1::e2::es) pos) (rdE D W (eCh f (p1::p2::ps))):=by
 rintro pins s σ H Q I ⟨φ,α,τ,μ,sr,mr,p⟩
 refine Compare_chain (thn (sub ha I sr mr p) ?_) (wH (by simpa[List.all_map,Function.comp_def] using ho))
 rintro u s1 ⟨v,H1,t,μ1,α1,I1,r1,st1,sr1,mr1,d1,p1⟩
 exact Zp C.unt h I1 sr1 mr1 d1 r1 p1
theorem W7(hu:X.A.units+64<cLine){β:Type}{R:β->Mem->List Addr->Hp->Prop}{kk:Bool->Mem->RE β}:∀{ps:List (CmpOp×De)} {es:List Expr} {s:Shared} {H:Hp} {α:List Addr} {μ:Mem} {x:T} {v:V} {u:Value} {Q:Bool->Hp->Prop},W_ X D W es ps->Inv X pins σ H s->SRel D φ α H τ σ->MRel D φ α H μ->Den D φ α H x v->RelV v u->Post D W φ α H σ (λb _ _ H'=>Q b H') ((VQ ps x τ μ).bind uG)->
  wpAny (model X.prog X.w) X.A (testChain pos u (ps.map (·.1)) (evalEach es X.env)) (TP X pins σ Q) X.xe s
 |[],_,_,_,_,_,_,_,_,_,_,_,_,_,_,_,p=>Post.elim p
 |[(op,g)],[],_,_,_,_,_,_,_,_,h,_,_,_,_,_,_=>h.elim
 |[(op,g)],[e],s,H,α,μ,x,v,u,Q,h,I,sr,mr,d,r,p=>by
  have p:Post D W φ α H σ (λb _ _ H'=>Q b H') ((g τ μ).bind λy μ1=>(u9 op x y μ1).bind uG):=p
  refine test_last (thn (sub h.1 I sr mr p) ?_)
  rintro u' s2 ⟨v',H2,t',μ2,α2,I2,r2,st2,sr2,mr2,d2,p2⟩
  refine thn (kh I2 hu mr2 (d.step st2) d2 r r2 p2) ?_
  rintro dd s3 ⟨z,H3,I3,r3,t3,μ3,α3,st3,mr3,d3,p3⟩
  unfold uG at p3
  split at p3
  ·cases d3
   cases r3
   exact wpAny_truthy_bool ⟨H3,I3,p3.ok (Stp.refl _ _) mr3⟩
  ·exact p3.elim
 |[(op,g)],_::_::_,_,_,_,_,_,_,_,_,h,_,_,_,_,_,_=>h.2.elim
 |(op,g)::p'::ps,[],_,_,_,_,_,_,_,_,h,_,_,_,_,_,_=>h.elim
 |(op,g)::p'::ps,[e],_,_,_,_,_,_,_,_,h,_,_,_,_,_,_=>h.2.elim
 |(op,g)::(op',g')::ps,e::e'::es,s,H,α,μ,x,v,u,Q,h,I,sr,mr,d,r,p=>by
  have p:Post D W φ α H σ (λb _ _ H'=>Q b H') ((g τ μ).bind λy μ1=>(u9 op x y μ1).bind λk μ2=>(match k with|.bl b=>RE.br b (VQ ((op',g')::ps) y τ μ2) (.ok (.bl false) μ2)|_=>RE.st:RE T).bind uG):=p
  refine test_link (thn (sub h.1 I sr mr p) ?_)
  rintro u' s2 ⟨v',H2,t',μ2,α2,I2,r2,st2,sr2,mr2,d2,p2⟩
  refine thn (kh I2 hu mr2 (d.step st2) d2 r r2 p2) ?_
  rintro dd s3 ⟨z,H3,I3,r3,t3,μ3,α3,st3,mr3,d3,p3⟩
  try dsimp only at p3
  split at p3
  ·rename_i bb
   cases d3
   cases r3
   cases bb with
   |true=>exact wpAny_truthy_bool (ite_tt (W7 hu (kk:=kk) (R:=R) (ps:=(op',g')::ps) (es:=e'::es) h.2 I3 (sr2.step st3) mr3 (d2.step st3) r2 p3))
   |false=>
    have p3:Post D W φ α3 H3 σ (λb _ _ H'=>Q b H') (RE.ok false μ3):=p3
    exact wpAny_truthy_bool (ite_ff ⟨H3,I3,p3.ok (Stp.refl _ _) mr3⟩)
  ·have p3:Post D W φ α3 H3 σ (λb _ _ H'=>Q b H') RE.st:=p3
   exact p3.elim
end
section
variable {X:Cx}{D:DP}{W:XW}{Γ:Cn}{k:Nat}{pins:List (Addr×Obj)}{s:Shared}{σ:St}{H:Hp}{φ α:List Addr}{τ:Sl}{μ:Mem}{f g h:De}{ft gt:Dt}{a b c:Expr}{pos:Pos}
theorem W2(ha:PE X a (rdE D W f))(he:∀whole,isTrue a X.env whole=(do let v ←whole;standAt a.pos;holding [v] (truthy v))):PT X a (rdT D W (tE f)):=by
 rintro pins s σ H Q I ⟨φ,α,τ,μ,sr,mr,p⟩
 rw[he]
 refine wpAny_bind (thn (sub ha I sr mr p) ?_)
 rintro u s1 ⟨v,H1,t,μ1,α1,I1,r1,st1,sr1,mr1,d1,p1⟩
 unfold uG at p1
 split at p1
 ·cases d1
  cases r1
  exact wpAny_bind (wpAny_standAt (wpAny_holding (wpAny_truthy_bool ⟨H1,I1,p1.ok (Stp.refl _ _) mr1⟩)))
 ·exact p1.elim
theorem Qm(C:Ck D W Γ X k){op:CmpOp}(ho:Zf op b=true)(ha:PE X a (rdE D W f))(hb:PE X b (rdE D W g)):PT X (.Compare a [op] [b] pos) (rdT D W (tE (zj op f g))):=by
 rintro pins s σ H Q I ⟨φ,α,τ,μ,sr,mr,p⟩
 have p:Post D W φ α H σ (λb _ _ H'=>Q b H') ((f τ μ).bind λx μ1=>(g τ μ1).bind λy μ2=>(u9 op x y μ2).bind uG):=p
 refine wpAny_isTrue_Compare1 (thn (sub ha I sr mr p) ?_) (QG ho)
 rintro u s1 ⟨v,H1,t,μ1,α1,I1,r1,st1,sr1,mr1,d1,p1⟩
 refine thn (sub hb I1 sr1 mr1 p1) ?_
 rintro u' s2 ⟨v',H2,t',μ2,α2,I2,r2,st2,sr2,mr2,d2,p2⟩
 refine thn (kh I2 C.unt mr2 (d1.step st2) d2 r1 r2 p2) ?_
 rintro d s3 ⟨z,H3,I3,r3,t3,μ3,α3,st3,mr3,d3,p3⟩
 unfold uG at p3
 split at p3
 ·cases d3
  cases r3
  exact wpAny_truthy_bool ⟨H3,I3,p3.ok (Stp.refl _ _) mr3⟩
 ·exact p3.elim
theorem Z3(C:Ck D W Γ X k){e1 e2:Expr}{es:List Expr}{p1 p2:CmpOp×De}{ps:List (CmpOp×De)}(ho:(p1::p2::ps).all (λp=>vP p.1)=true)(ha:PE X a (rdE D W f))(h:W_ X D W (e1::e2::es) (p1::p2::ps)):PT X (.Compare a (p1.1::p2.1::ps.map (·.1)) (e1::e2::es) pos) (rdT D W (tE (eCh f (p1::p2::ps)))):=by
 rintro pins s σ H Q I ⟨φ,α,τ,μ,sr,mr,p⟩
 have p:Post D W φ α H σ (λb _ _ H'=>Q b H') ((f τ μ).bind λx μ1=>(VQ (p1::p2::ps) x τ μ1).bind uG):=p
 refine isTrue_chain (thn (sub ha I sr mr p) ?_) (wH (by simpa[List.all_map,Function.comp_def] using ho))
 rintro u s1 ⟨v,H1,t,μ1,α1,I1,r1,st1,sr1,mr1,d1,p1⟩
 exact W7 (kk:=λ_ _=>RE.st (β:=Bool)) (R:=λ_ _ _ _=>True) C.unt h I1 sr1 mr1 d1 r1 p1
theorem YU{r:List Expr}(ha:PT X a (rdT D W ft))(hb:PW X (.BoolOp .And (b::r) pos) (rdT D W gt)):PW X (.BoolOp .And (a::b::r) pos) (rdT D W (vx ft gt)):=by
 intro whole pins s σ H Q I hq
 refine z0k ha hb whole pins s σ H Q I ?_
 obtain⟨φ,α,τ,μ,sr,mr,p⟩:=hq
 refine⟨φ,α,τ,μ,sr,mr,p.bind.mono λc μ' α' H' st m q=>?_⟩
 rcases q.br with⟨rfl,q⟩|⟨rfl,q⟩
 ·exact⟨φ,α',τ,μ',sr.step st,m,q⟩
 ·exact q.ok (Stp.refl _ _) m
theorem z1j{r:List Expr}(ha:PT X a (rdT D W ft))(hb:PW X (.BoolOp .Or (b::r) pos) (rdT D W gt)):PW X (.BoolOp .Or (a::b::r) pos) (rdT D W (tOr ft gt)):=by
 intro whole pins s σ H Q I hq
 refine z0E ha hb whole pins s σ H Q I ?_
 obtain⟨φ,α,τ,μ,sr,mr,p⟩:=hq
 refine⟨φ,α,τ,μ,sr,mr,p.bind.mono λc μ' α' H' st m q=>?_⟩
 rcases q.br with⟨rfl,q⟩|⟨rfl,q⟩
 ·exact q.ok (Stp.refl _ _) m
 ·exact⟨φ,α',τ,μ',sr.step st,m,q⟩
theorem YI(ha:PT X a (rdT D W ft)):PT X (.UnaryOp .Not a pos) (rdT D W (vd ft)):=by
 intro pins s σ H Q I hq
 refine Uk ha pins s σ H Q I ?_
 obtain⟨φ,α,τ,μ,sr,mr,p⟩:=hq
 exact⟨φ,α,τ,μ,sr,mr,p.bind.mono λc μ' α' H' st m q=>q.ok (Stp.refl _ _) m⟩
theorem z1G(hc:PT X c (rdT D W ft))(ha:PE X a (rdE D W f))(hb:PE X b (rdE D W g)):PE X (.IfExp c a b pos) (rdE D W (eIf ft f g)):=by
 rintro pins s σ H Q I ⟨φ,α,τ,μ,sr,mr,p⟩
 refine wpAny_IfExp (thn (z0K hc I sr mr p) ?_)
 rintro d s1 ⟨H1,μ1,α1,I1,st1,sr1,mr1,p1⟩
 rcases p1.br with⟨rfl,p1⟩|⟨rfl,p1⟩
 ·exact ha pins s1 σ H1 Q I1 ⟨φ,α1,τ,μ1,sr1,mr1,p1⟩
 ·exact hb pins s1 σ H1 Q I1 ⟨φ,α1,τ,μ1,sr1,mr1,p1⟩
noncomputable def qc:Expr->Bool
 |.Name _ _=>true
 |.Attribute _ _ _=>true
 |.Subscript _ _ _=>true
 |.Call (.Name x _) _ _ _=>x != ("super":Str)
 |.Call (.Attribute _ _ _) _ _ _=>true
 |_=>false
theorem Post.ex3{β δ1 δ2 δ3:Type}{R:β->Mem->List Addr->Hp->Prop}{P:δ1->δ2->Prop}{P2:δ1->δ2->δ3->Prop}{r:δ1->δ2->δ3->RE β}(p:Post D W φ α H σ R (λK Z=>∃x y z,P x y/\P2 x y z/\r x y z K Z)):∃x y z,P x y/\P2 x y z/\Post D W φ α H σ R (r x y z):=by
 obtain⟨K,Z,⟨x,y,z,h1,h2,q⟩,h⟩:=p
 exact⟨x,y,z,h1,h2,K,Z,q,h⟩
theorem Post.ex2{β δ1 δ2:Type}{R:β->Mem->List Addr->Hp->Prop}{P:δ1->Prop}{P2:δ1->δ2->Prop}{r:δ1->δ2->RE β}(p:Post D W φ α H σ R (λK Z=>∃x y,P x/\P2 x y/\r x y K Z)):∃x y,P x/\P2 x y/\Post D W φ α H σ R (r x y):=by
 obtain⟨K,Z,⟨x,y,h1,h2,q⟩,h⟩:=p
 exact⟨x,y,h1,h2,K,Z,q,h⟩
theorem wO{b:Expr}(h:qY b=true):K1 b:=by
 intro o i
 cases b<;>first|(simp[qY] at h;done)|rfl
theorem xB{D:DP}{ts:List T}{xs:List V}{i:Int}{t:T}(l:DenL D φ α H ts xs)(h:yO ts i=some t):∃v,atI xs i=some v/\Den D φ α H t v:=by
 unfold yO at h
 have e:ixN xs.length i=X5 ts.length i:=by rw[l.length];rfl
 unfold atI
 rw[e]
 cases q:X5 ts.length i with
 |none=>rw[q] at h;cases h
 |some j=>
  rw[q] at h
  exact l.get h
theorem z16(hb':qY b=true)(hK:X.K=D.K)(ha:PE X a (rdE D W f))(hb:PE X b (rdE D W g)):PE X (.Subscript a b pos) (rdE D W (eIx f g)):=by
 rintro pins s σ H Q I ⟨φ,α,τ,μ,sr,mr,p⟩
 refine Subscript_ (thn (sub ha I sr mr p) ?_)
 rintro u s1 ⟨v,H1,t,μ1,α1,I1,r1,st1,sr1,mr1,d1,p1⟩
 refine thn (sub hb I1 sr1 mr1 p1) ?_
 rintro u' s2 ⟨v',H2,t',μ2,α2,I2,r2,st2,sr2,mr2,d2,p2⟩
 have d1:=d1.step st2
 unfold XF at p2
 split at p2
 ·cases d2
  split at p2
  ·obtain⟨w,hw,p2⟩:=p2.som
   obtain⟨ad,xs,rfl,_,_,r,l⟩:=d1
   obtain⟨z,hz,dz⟩:=xB l hw
   exact QV a b pins s2 σ H2 _ _ _ _ Q I2 r1 r2 ⟨ad,xs,_,z,rfl,rfl,.inl r,hz,p2.here mr2 dz⟩ (wO hb' _ _)
  ·obtain⟨w,hw,p2⟩:=p2.som
   obtain⟨ad,xs,rfl,_,_,r,l⟩:=d1
   obtain⟨z,hz,dz⟩:=xB l hw
   exact z0m a b pins s2 σ H2 _ _ _ _ Q I2 r1 r2 ⟨ad,xs,_,z,rfl,rfl,.inl r,hz,p2.here mr2 dz⟩ (wO hb' _ _)
  ·obtain⟨ts,w,hj,hw,p2⟩:=p2.ex2
   obtain⟨ad,hi',rfl⟩:=d1
   obtain⟨xs,e2,l⟩:=mr2.ob _ ad _ hi' hj
   obtain⟨z,hz,dz⟩:=xB l hw
   exact QV a b pins s2 σ H2 _ _ _ _ Q I2 r1 r2 ⟨ad,xs,_,z,rfl,rfl,.inl (.inl e2),hz,Post.here p2 mr2 dz⟩ (wO hb' _ _)
  ·obtain⟨hl,p2⟩:=p2.grd
   obtain⟨c,hc,p2⟩:=p2.som
   have d1:v=.str _:=d1
   subst d1
   exact z01 a b pins s2 σ H2 _ _ _ _ Q I2 r1 r2 ⟨_,_,c,rfl,rfl,zB hl,hc,p2.here mr2 rfl⟩ (wO hb' _ _)
  ·exact p2.elim
 ·exact p2.elim
noncomputable def noStar:Expr->Bool
 |.Starred _ _=>false
 |_=>true
theorem z7{e:Expr}{es:List Expr}{env:Env}(h:noStar e=true):starEach (e::es) env=(false,eval e env)::starEach es env:=by
 cases e<;>first|(simp[noStar] at h;done)|rfl
theorem qm{es:List Expr}{env:Env}{pos:Pos}(h:es.all noStar=true):(backTo pos (starEach es env)).any (·.1)=false:=by
 induction es with
 |nil=>rfl
 |cons e es ih=>
  simp only[List.all_cons,Bool.and_eq_true] at h
  rw[z7 h.1]
  have:=ih h.2
  first
   |(simp[backTo] at this ⊢;exact this)
   |(simpa[backTo] using this)
theorem Uc:PA X [] (rdA D W 0 (evs [])):=by
 rintro pos pins s σ H Q I ⟨φ,α,τ,μ,sr,mr,p⟩
 exact qp pos pins s σ H Q I (Post.ok p (Stp.refl _ _) mr [] rfl rfl)
theorem KQ{e:Expr}{es:List Expr}{fs:List De}{n:Nat}(hs:noStar e=true)(ha:PE X e (rdE D W f))(hr:PA X es (rdA D W n (evs fs))):PA X (e::es) (rdA D W (n+1) (evs (f::fs))):=by
 intro pos pins s σ H Q I hq
 refine zI ha hr (z7 hs) pos pins s σ H Q I ?_
 obtain⟨φ,α,τ,μ,sr,mr,p⟩:=hq
 have p:Post D W φ α H σ _ ((f τ μ).bind λt μ1=>(evs fs τ μ1).bind λts μ2=>.ok (t::ts) μ2):=p
 refine⟨φ,α,τ,μ,sr,mr,p.bind.mono λt μ1 α1 H1 st m q v d=>?_⟩
 refine⟨φ,α1,τ,μ1,sr.step st,m,q.bind.mono λts μ2 α2 H2 st2 m2 q2 vs dl hn=>?_⟩
 exact q2.ok (Stp.refl _ _) m2 _ ⟨v,vs,rfl,d.step st2,dl⟩ (by simp[hn])
noncomputable def EsOk (X:Cx)(D:DP)(W:XW):List Expr->List De->Prop
 |[],[]=>True
 |e::es,f::fs=>noStar e=true/\PE X e (rdE D W f)/\EsOk X D W es fs
 |_,_=>False
theorem wx:∀{es:List Expr} {fs:List De},EsOk X D W es fs->PA X es (rdA D W es.length (evs fs))
 |[],[],_=>Uc
 |e::es,f::fs,h=>KQ h.1 h.2.1 (wx h.2.2)
 |[],_::_,h=>h.elim
 |_::_,[],h=>h.elim
theorem EsOk.stars:∀{es:List Expr} {fs:List De},EsOk X D W es fs->es.all noStar=true
 |[],[],_=>rfl
 |e::es,f::fs,h=>by simp[h.1,EsOk.stars h.2.2]
 |[],_::_,h=>h.elim
 |_::_,[],h=>h.elim
theorem Yq{es:List Expr}{fs:List De}(hl:es.length<=room)(h:EsOk X D W es fs):PE X (.List es pos) (rdE D W (X1 fs)):=by
 refine PE.mono (Vy (wx h)) ?_
 rintro σ H Q ⟨φ,α,τ,μ,sr,mr,p⟩
 refine⟨φ,α,τ,μ,sr,mr,p.bind.mono λts μ1 α1 H1 st m q vs dl hn=>⟨by rw[hn];exact zB hl,λz hz=>?_⟩⟩
 exact q.fresh m (zk hz) ⟨z,vs,rfl,zr m hz,zq m hz,.inl z8,dl.step (Stp.new (zk hz))⟩
theorem Jy{es:List Expr}{fs:List De}{kk:Nat}(hl:es.length<=room)(h:EsOk X D W es fs):PE X (.Tuple es kk pos) (rdE D W (zE fs)):=by
 refine PE.mono (Vr (wx h)) ?_
 rintro σ H Q ⟨φ,α,τ,μ,sr,mr,p⟩
 refine⟨φ,α,τ,μ,sr,mr,p.bind.mono λts μ1 α1 H1 st m q vs dl hn=>⟨by rw[hn];exact zB hl,λz hz=>?_⟩⟩
 exact q.fresh m (zk hz) ⟨z,vs,rfl,zr m hz,zq m hz,.inl z8,dl.step (Stp.new (zk hz))⟩
end
section
open PySem.W
theorem yq{prog:Program}{w:World}{A:Around}{E:Value->Shared->Prop}{s:Shared}{K:Frag}{x D:Addr}{ox:Obj}{od:Option Obj}{Q:Option Value->Shared->Prop}(X:K.In s.heap)(I:InstAt s.heap x ox D od)
 (hga:findIn K (.ref D) "__getattribute__"=some (some (.builtin "BaseException.__getattribute__"))) (hk:findIn K (.ref D) "__getattr__"=some none)
 (hf:findObj K D od "__class__"=some (.bind (.builtin "getset_descriptor.__get__") (.builtin "object.__class__"))) (hm:mroIn K D (.type "object")=some true) (hb:mroIn K D (.type "BaseException")=some true)
 (h:Q (some (.ref D)) {s with toks:=s.toks+1}):wpAny (model prog w) A (getAttr? (.ref x) "__class__") Q E s:=by
 obtain⟨hh,g,d,t,os⟩:=s
 have L0:=I.type (M:=model prog w)
 have L1:=looks_findIn (M:=model prog w) X hga
 have L2:=looks_findIn (M:=model prog w) X hk
 have L3:=looks_find (M:=model prog w) X I hf
 have L4:=looks_mroIn (M:=model prog w) X hb
 have f3:=PySem.F.attr_ValueError.ga.bind (.ref x)
 unfold getAttr? getAttrBy? getAttrBy
 refine wpAny_bind (wpAny_mkText (wpAny_bind (wpAny_attempt (wpAny_holding (wpAny_bind (L0.at (wpAny_bind (L1.at ?_))))))))
 show wpAny _ _ (getAttrByItsOwn (.ref x) _ (.ref D) (.builtin "BaseException.__getattribute__") false false) _ _ _
 unfold getAttrByItsOwn hookBefore
 refine wpAny_bind ?_
 show wpAny _ _ (typeLookup (.ref D) "__getattr__") _ _ _
 refine L2.at ?_
 refine wpAny_bind (wpAny_attempt (wpAny_holding ?_))
 unfold callGetattribute boundAndCalled
 show wpAny _ _ (bindSpecial (.builtin "BaseException.__getattribute__") (.ref x) >>= _) _ _ _
 rw[f3]
 refine wpAny_bind (wpAny_pure ?_)
 show wpAny _ _ (call (.builtin "BaseException.__getattribute__") [.ref x,.str "__class__" _]) _ _ _
 refine wpAny_call (codeAny_call_builtin PySem.F.attr_ValueError.ga.plain PySem.F.entry_bexc_ga ?_)
 have hkd:builtinKind "BaseException.__getattribute__"=some .slot:=by decide +kernel
 have hsp:splitId "BaseException.__getattribute__"=some ("BaseException","__getattribute__"):=by decide +kernel
 have ha:=PySem.F.args_bexc_ga (.ref x) (.str "__class__" t)
 have LI:Looks (model prog w) hh (isInstance (.ref x) (.type "BaseException")) true:=L0.andThen L4
 simp only[checkBuiltinCall,hkd,hsp]
 refine wpAny_bind (LI.at ?_)
 simp only[Bool.not_true,Bool.false_eq_true,if_false]
 refine wpAny_of_eq (a:=()) ha ?_
 unfold Builtin.«object.__getattribute__»
 refine wpAny_bind (m:=slotArgs _ _ _) (wpAny_pure ?_)
 dsimp only
 refine wpAny_bind ?_
 show wpAny _ _ (Builtin.ObjectAttr.attrName (.str "__class__" t)) _ _ _
 first
  |exact wpAny_pure (wpAny_bind (L0.at (wpAny_bind (L3.at ?_))))
  |(refine wpAny_pure (wpAny_bind (L0.at (wpAny_bind (L3.at ?_)))))
  |(unfold Builtin.ObjectAttr.attrName;refine wpAny_pure (wpAny_bind (L0.at (wpAny_bind (L3.at ?_)))))
 dsimp only
 unfold Builtin.ObjectAttr.bindTo
 show wpAny _ _ (holding [Value.builtin "object.__class__"] (call (.builtin "getset_descriptor.__get__") [.builtin "object.__class__",.ref x,.ref D]) >>= ret) _ _ _
 refine wpAny_bind (wpAny_holding (wpAny_call (class_get (s:=⟨hh,g,d,t+1,os⟩) X I hm ?_)))
 refine wpAny_pure ?_
 exact handed_on rfl (wpAny_pure h)
theorem XCls.fo{K:Frag}{C:Addr}(h:XCls K C)(od:Option Obj):findObj K C od "__class__"=some (.bind (.builtin "getset_descriptor.__get__") (.builtin "object.__class__")):=by
 have hc:=h.cl
 obtain⟨cd,e⟩:=Option.isSome_iff_exists.mp hc
 unfold findObj
 rw[e,h.fi]
 simp only[Option.bind_some]
 rw[h.sp]
 simp only[Option.bind_some]
 rw[h.tk]
 rfl
noncomputable def XcP (x C:Addr)(d:Option Addr)(h:Heap):Prop:=Ux x C d h/\∀dx,d=some dx->∃o,h.get? dx=some o
theorem Jw{K:Frag}{x C:Addr}{d:Option Addr}(hC:XCls K C):KitX K (.ref x) (.ref C) (XcP x C d) where
 ty:=λM h _ p=>by
  obtain⟨⟨oe,vs,h1,h2,h3,h4⟩,_⟩:=p
  exact h2▸(Looks.ld h1).andThen .now
 it:=λM h X _=>by
  have hcD:=hC.cl
  unfold clsIn at hcD
  split at hcD
  ·rename_i c' d' cd' sl' ho
   intro A' Q' E' s' k q
   unfold isType loadHead
   exact wpAny_bind (wpAny_loadPart (k _ _ (X _ _ ho)) (wpAny_pure q))
  ·cases hcD
 ne:=λh tp dd its n sl X htp=>by
  refine Bool.eq_false_iff.mpr λq=>?_
  have e:C=tp:=Value.ref.inj (beq_iff_eq.mp q)
  subst e
  have hcD:=hC.cl
  unfold clsIn at hcD
  split at hcD
  ·rename_i c' d' cd' sl' ho
   have z:=(X _ _ ho).symm.trans htp
   cases z
  ·cases hcD
 ca:=λX p k=>by
  obtain⟨⟨oe,vs,h1,h2,h3,h4⟩,h5⟩:=p
  cases d with
  |none=>
   refine yq (ox:=oe) (od:=none) X ⟨h1,h2,?_,?_⟩ hC.ga hC.hk (hC.fo _) hC.ob hC.bx k
   ·unfold notCls;rw[h3]
   ·rw[h4];trivial
  |some dx=>
   obtain⟨o,ho⟩:=h5 dx rfl
   refine yq (ox:=oe) (od:=some o) X ⟨h1,h2,?_,?_⟩ hC.ga hC.hk (hC.fo _) hC.ob hC.bx k
   ·unfold notCls;rw[h3]
   ·rw[h4];exact ho
end
section
variable {X:Cx}{D:DP}{W:XW}{Γ:Cn}{k:Nat}{pins:List (Addr×Obj)}{s:Shared}{σ:St}{H:Hp}{φ α:List Addr}{τ:Sl}{μ:Mem}{f g h:De}{a b c:Expr}{pos:Pos}{es:List Expr}{fs:List De}
theorem qJ{e:Expr}{f:Str}{env:Env}(h:qc e=true):attributeBase e f env (eval e env)=eval e env:=by
 cases e with
 |Call g args kws p=>
  cases g with
  |Name x p0=>
   have hx:(x != ("super":Str))=true:=h
   cases args<;>cases kws<;>first|rfl|(unfold attributeBase;simp[hx])
  |Attribute _ _ _=>rfl
  |_=>exact absurd (show false=true from h) Bool.false_ne_true
 |_=>first|exact absurd (show false=true from h) Bool.false_ne_true|rfl
theorem XDict.ext{D:DP}{fs:List (Nat×T)}{d:Option Addr}(x:XDict D φ α H fs d)(I:Inv X pins σ H s):∀dx,d=some dx->∃o,s.heap.get? dx=some o:=λdx e=>by
 subst e
 obtain⟨gs,_,_,e,_⟩:=x
 exact yI (I.hok dx _ e)
noncomputable def rdO (D:DP)(W:XW)(f:Dp):TO:=λσ H Q=>RdP D H σ λφ α τ μ=>Post D W φ α H σ (λo _ _ H'=>Q o H') (f τ μ)
theorem Xx:PO X none (rdO D W pN):=by
 rintro pins s σ H Q I ⟨φ,α,τ,μ,sr,mr,p⟩
 exact KI pins s σ H Q I (Post.ok p (Stp.refl _ _) mr)
theorem JS(h:PE X a (rdE D W f)):PO X (some a) (rdO D W (pS f)):=by
 rintro pins s σ H Q I ⟨φ,α,τ,μ,sr,mr,p⟩
 refine KY h pins s σ H Q I ⟨φ,α,τ,μ,sr,mr,p.bind.mono λt μ' α' H' st m q v d=>?_⟩
 split at q
 ·cases d
  exact⟨_,rfl,q.ok (Stp.refl _ _) m⟩
 ·exact q.elim
theorem jc{ts:List T}{xs:List V}(l:DenL D φ α H ts xs)(lo hi:Option Int):DenL D φ α H (uj ts lo hi) (xO xs lo hi):=by
 have e:ts.length=xs.length:=l.length
 have e1:∀n d o,Vp n d o=HT.sIx n d o:=λn d o=>by cases o<;>rfl
 unfold uj xO
 rw[e1,e1,e]
 exact (l.drop _).take _
theorem j6{prog:Program}{w:World}{A:Around}{E:Value->Shared->Prop}{s:Shared}{t sl:Addr}{items:Array Value}{vl vu:Value}{lo hi:Option Int}{Q:Value->Shared->Prop}(ht:IsTup s.heap t items)(hs:s.heap.IsSliceOf sl vl vu .none)(pl:IsPart vl lo)(pu:IsPart vu hi)
  (hw:HT.sIx items.size 0 lo=0/\HT.sIx items.size items.size hi=items.size) (h:Q (.ref t) s):wpAny (model prog w) A (getItem (.ref t) (.ref sl)) Q E s:=by
 obtain⟨os,hos,hcs,hds⟩:=id hs
 have hTs:s.TypeIs (.ref sl) "slice":=⟨os,hos,hcs⟩
 unfold getItem
 try with_reducible refine wpAny_holding ?_
 first|refine wpAny_bind (wpAny_pure ?_)|skip
 refine wpAny_bind (wpAny_sequenceKey ht.typeIs (by decide) ?_)
 refine wpAny_bind (wpAny_callSpecial?_slot (name:=Str.ofString "__getitem__") ht.typeIs slot_tuple_getitem (wpAny_call_entry slot_tuple_getitem ht.typeIs entry_tuple_getitem ?_ (args_tuple_getitem _ _)))
 show wpAny _ _ (Builtin.Tuple.tupleItemsOf (.ref t) >>= _) _ _ s
 refine wpAny_bind (tupleItemsOf_ ht ?_)
 refine wpAny_bind (wpAny_typeOf hTs ?_)
 rw[if_pos (by decide)]
 refine wpAny_bind (HT.sliceApplied_gen hs pl pu ?_)
 show wpAny _ _ (if (((HT.sIx items.size 0 lo:Nat):Int) == 0&&(1:Int) == 1&&(HT.sIx items.size items.size hi-HT.sIx items.size 0 lo) == items.size)=true then _ else _) _ _ s
 rw[if_pos (by rw[hw.1,hw.2];simp)]
 refine wpAny_bind ?_
 unfold Builtin.Tuple.tupleIsExact
 refine wpAny_bind (wpAny_typeOf ht.typeIs (wpAny_pure ?_))
 rw[if_pos (by decide)]
 first
  |exact wpAny_bind (wpAny_rule (wpAny_pure ⟨_,rfl,wpAny_pure h⟩))
  |exact wpAny_bind (wpAny_rule (wpAny_bind (wpAny_pure (wpAny_pure ⟨_,rfl,wpAny_pure h⟩))))
theorem Xh:SlR X (λx lo hi H Q=>∃a xs,x=.ref a/\SqT X.K H a xs/\(HT.sIx xs.length 0 lo=0/\HT.sIx xs.length xs.length hi=xs.length)/\Q (.ref a) H):=by
 intro pins s σ H x v vl vu lo hi sl Q I rx hs pl pu h
 obtain⟨a,xs,rfl,hx,hw,q⟩:=h
 cases rx
 obtain⟨its,r,ht,hz⟩:=I.tuple hx
 have hlen:its.toArray.size=xs.length:=by rw[List.size_toArray];exact r.length.symm
 exact⟨"tuple",_,PyProof.Rows.slot_tuple_getitem.lookup,ht.typeIs,j6 ht hs pl pu (by rw[hlen];exact hw) ⟨.ref a,H,I,rfl,q⟩⟩
theorem UB:SlR X (λx lo hi H Q=>∃z,x=.str z/\z.length<=sizeLine/\Q (.str (Txt.slice z lo hi)) H):=by
 intro pins s σ H x v vl vu lo hi sl Q I rx hs pl pu h
 obtain⟨z,rfl,hz,q⟩:=h
 obtain⟨t0,rfl⟩:=rx
 refine⟨"str",_,F.slot_str_getitem.lookup,typeIs_str _ _ _,?_⟩
 obtain⟨o,h1,h2,h3⟩:=hs
 have fin:∀(l u:Option (Int×Tok)),vl=partValue l->vu=partValue u->lo=l.map (·.1)->hi=u.map (·.1)->wpAny (model X.prog X.w) X.A (getItem (.str z t0) (.ref sl)) (EP X pins σ Q) X.xe s:=by
  rintro l u rfl rfl rfl rfl
  exact wpAny_getItem_str_slice (l:=l) (u:=u) (st:=none) ⟨o,h1,h2,h3⟩ rfl (post_val_or_str ⟨Nat.le_trans (Txt.slice_le z _ _) hz,λt' k=>⟨.str _,H,I.tok _,⟨t',rfl⟩,q⟩⟩)
 cases pl with
 |none=>
  cases pu with
  |none=>exact fin none none rfl rfl rfl rfl
  |int j u=>exact fin none (some (j,u)) rfl rfl rfl rfl
 |int i t=>
  cases pu with
  |none=>exact fin (some (i,t)) none rfl rfl rfl rfl
  |int j u=>exact fin (some (i,t)) (some (j,u)) rfl rfl rfl rfl
theorem J7{lo hi:Option Expr}{fo go:Dp}{p2:Pos}(ha:PE X a (rdE D W f))(hl:PO X lo (rdO D W fo))(hu:PO X hi (rdO D W go)):PE X (.Subscript a (.Slice lo hi none p2) pos) (rdE D W (eSl f fo go)):=by
 refine PE.mono (VC (J_.or (z03.or (Xh.or UB))) ha hl hu) ?_
 rintro σ H Q ⟨φ,α,τ,μ,sr,mr,p⟩
 refine⟨φ,α,τ,μ,sr,mr,p.bind.mono λt μ1 α1 H1 st m q v d=>?_⟩
 refine⟨φ,α1,τ,μ1,sr.step st,m,q.bind.mono λl μ2 α2 H2 st2 m2 q2=>?_⟩
 refine⟨φ,α2,τ,μ2,(sr.step st).step st2,m2,q2.bind.mono λu μ3 α3 H3 st3 m3 q3=>?_⟩
 unfold z12 at q3
 split at q3
 ·obtain⟨ad,xs,rfl,_,_,r,dl⟩:=(d.step st2).step st3
  refine .inl ⟨ad,xs,rfl,.inl r,λz hz=>?_⟩
  exact q3.fresh m3 (zk hz) ⟨z,_,rfl,zr m3 hz,zq m3 hz,.inl z8,jc (dl.step (Stp.new (zk hz))) _ _⟩
 ·obtain⟨ad,xs,rfl,n1,n2,r,dl⟩:=(d.step st2).step st3
  by_cases hw:HT.sIx xs.length 0 l=0/\HT.sIx xs.length xs.length u=xs.length
  ·refine .inr (.inr (.inl ⟨ad,xs,rfl,.inl r,hw,?_⟩))
   have e:xO xs l u=xs:=by unfold xO;rw[hw.1,hw.2];simp
   have dd:=jc dl l u
   rw[e] at dd
   exact q3.here m3 ⟨ad,xs,rfl,n1,n2,r,dd⟩
  ·refine .inr (.inl ⟨ad,xs,rfl,.inl r,hw,λz hz=>?_⟩)
   exact q3.fresh m3 (zk hz) ⟨z,_,rfl,zr m3 hz,zq m3 hz,.inl z8,jc (dl.step (Stp.new (zk hz))) _ _⟩
 ·obtain⟨hz,q3⟩:=q3.grd
  have d:v=.str _:=d
  subst d
  exact .inr (.inr (.inr ⟨_,rfl,zB hz,q3.here m3 rfl⟩))
 ·obtain⟨ts,hj,q3⟩:=q3.ex1
  obtain⟨ad,hi',rfl⟩:=(d.step st2).step st3
  obtain⟨xs,e2,dl⟩:=m3.ob _ ad _ hi' hj
  refine .inl ⟨ad,xs,rfl,.inl (.inl e2),λz hz=>?_⟩
  exact Post.fresh q3 m3 (zk hz) ⟨z,_,rfl,zr m3 hz,zq m3 hz,.inl z8,jc (dl.step (Stp.new (zk hz))) _ _⟩
 ·exact q3.elim
theorem ki{g:Fn}{fa:Addr}{fd:FuncData}{ps:List Str}{kk:Nat}{us:List Value}{vs:List V}{ts:List T}{Q:VK}(C:Ck D W Γ X k)(F:FnOk X.prog X.w X.K X.mg X.base (CX1 X.prog X.w) kk fa fd ps (spN D ps.length g))
  (hr:Room kk X.A) (hb:Binds X.K fd ps []) (har:∀ts μ K Z,g ts μ K Z->ts.length=ps.length) (I:Inv X pins σ H s) (r:Vals vs us) (mr:MRel D φ α H μ) (d:DenL D φ α H ts vs) (p:Post D W φ α H σ (RV D φ Q) (g ts μ)) :
  wpAny (model X.prog X.w) X.A (call (.ref fa) us) (EP X pins σ Q) X.xe s:=by
 obtain⟨K,Z,q,hq,hz⟩:=p
 have hl:ts.length=ps.length:=har ts μ K Z q
 have sp:spN D ps.length g vs H Q (λc d H'=>W c d σ H'):=⟨by rw[←d.length];exact hl,φ,α,ts,μ,d,mr,K,Z,q,hq,hz⟩
 have hl2:us.length=ps.length:=by rw[←r.length,←d.length];exact hl
 refine wpAny_call (codeAny_mono (F.run X.A X.stack s H ⟨us,[]⟩ us vs Q (λc d H'=>W c d σ H') hr I.env0 (by simpa using hb s us I.kIn (by simpa using hl2)) r sp) λr s' hq=>?_)
 cases r with
 |error e=>exact C.xe e s' (uD (E:=λc d H'=>W c d σ H') I hq λcls d H' w=>w)
 |ok fl=>
  cases fl with
  |ret u=>exact I.after hq
  |next=>exact False.elim hq
  |brk=>exact False.elim hq
  |cont=>exact False.elim hq
theorem KZ(C:Ck D W Γ X k){x:Str}{g:Fn}{p0:Pos}(hx:x∈Γ.G)(hg:Γ.gl x=.fn g)(hc:Γ.calm=true)(ha:EsOk X D W es fs):PE X (.Call (.Name x p0) es [] pos) (rdE D W (zd g fs)):=by
 have q:=C.glo x hx
 rw[hg] at q
 obtain⟨fa,hm,fd,ps,kk,hk,hb,hkk,Fn,har⟩:=q
 have hr:=(C.rom hc).mono hkk
 have hs:=ha.stars
 have pa:=wx ha
 rintro pins s σ H Q I ⟨φ,α,τ,μ,sr,mr,p⟩
 refine wpAny_Call_Name_kw (wN I (C.glb x hx) hm ?_ (C.dbG x hx))
 cases es with
 |nil=>
  cases fs with
  |nil=>exact PySem.W.callWith_K0 I.kIn hk (ki (ts:=[]) C Fn hr hb har I .nil mr rfl p)
  |cons f fs=>exact ha.elim
 |cons e es=>
  simp only[List.all_cons,Bool.and_eq_true] at hs
  refine PySem.W.callWith_K (h₀:=X.base) I.ok.mod.kin hk (thn (JQ pa I sr mr p) ?_) (z7 hs.1) (qm hs.2)
  rintro us s1 ⟨vs,H1,ts,μ1,α1,I1,r1,st1,sr1,mr1,d1,_,p1⟩
  exact⟨I1.kIn,ki C Fn hr hb har I1 r1 mr1 d1 p1⟩
theorem run_mk{c:Nat}{g:Fn}{C0 fI:Addr}{fd:FuncData}{ps:List Str}{kk:Nat}{us:List Value}{vs:List V}{ts:List T}{Q:VK}(C:Ck D W Γ X k)(ad:D.cad c=some C0)(M:Mk X.K C0 fI)(F:FnOk X.prog X.w X.K X.mg X.base (CX1 X.prog X.w) kk fI fd ps (spN D ps.length g))
  (hr:Room (kk+1) X.A) (hb:Binds X.K fd ps []) (har:∀ts μ K Z,g ts μ K Z->ts.length=ps.length) (I:Inv X pins σ H s) (r:Vals vs us) (mr:MRel D φ α H μ) (d:DenL D φ α H ts vs) (p:Post D W φ α H σ (RV D φ Q) (Zq c g ts μ)) :
  wpAny (model X.prog X.w) X.A (call (.ref C0) us) (EP X pins σ Q) X.xe s:=by
 obtain⟨K,Z,⟨hp,hg⟩,hk,hz⟩:=p
 have hl:(T.mut 0::ts).length=ps.length:=har _ _ _ _ hg
 have hq:∀x dx,H x=none->H dx=none->dx≠x->spN D ps.length g (.ref x::(vs++[])) (upd (upd H dx (.own x)) x (.ins C0 dx [])) (λv H2=>v=.non/\Q (.ref x) H2) (λc d H'=>W c d σ H'):=by
  intro x dx hx hdx hne
  have sm:vH H (upd (upd H dx (.own x)) x (.ins C0 dx [])):=λb o e=>by rw[za (zL e hx),za (zL e hdx)];exact e
  have st0:Stp [] H [x] (upd (upd H dx (.own x)) x (.ins C0 dx [])):=⟨⟨[x],rfl,λb hb'=>by rw[List.mem_singleton.mp hb'];exact hx⟩,λb o _ e=>sm b o e,λb e=>by
   cases q:H b with
   |none=>rfl
   |some o=>rw[sm b o q] at e;cases e⟩
  have nx:x∉φ++α:=λz=>(List.mem_append.mp z).elim (zr mr hx) (zq mr hx)
  have ph:∀b∈φ++α,∃o,H b=some o/\noF o=true:=λb hb'=>(List.mem_append.mp hb').elim (mr.phi b) λz=>by
   obtain⟨i,hi⟩:=List.mem_iff_getElem?.mp z
   have hl':i<μ.length:=by rw[←mr.len];exact (List.getElem?_eq_some_iff.mp hi).1
   exact (mr.ob i b μ[i] hi (by simp[hl'])).some
  refine⟨by simp only[List.length_cons,List.append_nil] at hl ⊢;rw[←d.length];exact hl,φ++α,[x],.mut 0::ts,[.obj c []],⟨.ref x,vs++[],rfl,⟨x,rfl,rfl⟩,by rw[List.append_nil];exact (DenL.hide hp d Xi).step st0⟩,⟨rfl,by simp,λb hb'=>by rw[List.mem_singleton.mp hb'];exact nx,λb hb'=>let ⟨o,e,n⟩:=ph b hb';⟨o,sm b o e,n⟩,λi a o e1 e2=>?_⟩,?_⟩
  ·cases i with
   |zero=>simp at e1 e2;subst e1 e2;exact⟨C0,dx,[],ad,z8,rfl⟩
   |succ i=>simp at e1
  have back:∀{α2:List Addr} {H3:Hp},Stp [x] (upd (upd H dx (.own x)) x (.ins C0 dx [])) α2 H3->vH H H3:=λst b o e=>st.keep b o (λz=>by rw[List.mem_singleton.mp z,hx] at e;cases e) (sm b o e)
  refine⟨_,_,hg,?_,?_⟩
  ·rintro t μ2 ⟨rfl,fs,h0,hpf,q⟩ α2 H3 st m v dv
   refine⟨dv,?_⟩
   obtain⟨β,rfl,_⟩:=st.ext
   obtain⟨C1,dx1,gs,ad1,e1,lf⟩:=m.ob 0 x _ rfl h0
   have sm3:=back st
   exact hk _ _ q α H3 (Stp.new sm3) (mr.new sm3) _ ⟨x,C1,dx1,gs,rfl,zr mr hx,zq mr hx,ad1,e1,DenF.hide hpf lf Z4⟩
  ·rintro e fs μ2 ⟨hpf,q⟩ α2 H3 C1 d1 st m had xd
   have sm3:=back st
   exact hz _ _ _ q α H3 C1 d1 (Stp.new sm3) (mr.new sm3) had (XDict.hide hpf xd Z4)
 have hq1:=hq (s.heap.objs.size+1) s.heap.objs.size (I.hok.fresh (Nat.le_succ _)) (I.hok.fresh (Nat.le_refl _)) (Nat.ne_of_lt (Nat.lt_succ_self _))
 have I2:=Inv.made (C:=C0) I
 have r2:Vals (V.ref (s.heap.objs.size+1)::(vs++[])) (Value.ref (s.heap.objs.size+1)::us):=.cons rfl (by rw[List.append_nil];exact r)
 have hlu:(Value.ref (s.heap.objs.size+1)::us++[]).length=ps.length:=by
  rw[List.append_nil,List.length_cons,←r.length,←d.length]
  exact hl
 refine wpAny_call (u_ (f:=fI) I.kIn M.makes M.init (beq_iff_eq.mp M.fn) (codeAny_mono (F.run _ X.stack _ _ ⟨Value.ref (s.heap.objs.size+1)::us,[]⟩ (Value.ref (s.heap.objs.size+1)::us) _ _ (λc d H'=>W c d σ H') (hr.make C0 us [])
  (I2.env0.make C0 us []) (by simpa using hb _ (Value.ref (s.heap.objs.size+1)::us) I2.kIn hlu) r2 hq1) λr s' hq'=>?_))
 cases r with
 |error e=>exact C.xe e s' (uD (E:=λc d H'=>W c d σ H') I2 hq' λcls d H' w=>w)
 |ok fl=>
  cases fl with
  |ret u=>
   obtain⟨v,H',I3,rv,ev,q3⟩:=I2.after hq'
   subst ev
   exact⟨rv,⟨V.ref (s.heap.objs.size+1),H',I3,rfl,q3⟩⟩
  |next=>exact False.elim hq'
  |brk=>exact False.elim hq'
  |cont=>exact False.elim hq'
theorem Xn(C:Ck D W Γ X k){x:Str}{c:Nat}{g:Fn}{p0:Pos}(hx:x∈Γ.G)(hg:Γ.gl x=.mk c true g)(hc:Γ.calm=true)(ha:EsOk X D W es fs):PE X (.Call (.Name x p0) es [] pos) (rdE D W (eMk c g fs)):=by
 have q:=C.glo x hx
 rw[hg] at q
 obtain⟨C0,fI,fd,ps,kk,ad,hm,M,hb,hkk,Fn,har⟩:=q
 have hr:=(C.rom hc).mono hkk
 have hs:=ha.stars
 have pa:=wx ha
 rintro pins s σ H Q I ⟨φ,α,τ,μ,sr,mr,p⟩
 refine wpAny_Call_Name_kw (wN I (C.glb x hx) hm ?_ (C.dbG x hx))
 cases es with
 |nil=>
  cases fs with
  |nil=>exact PySem.W.callWith_K0 I.kIn M.kp (run_mk (ts:=[]) C ad M Fn hr hb har I .nil mr rfl p)
  |cons f fs=>exact ha.elim
 |cons e es=>
  simp only[List.all_cons,Bool.and_eq_true] at hs
  refine PySem.W.callWith_K (h₀:=X.base) I.ok.mod.kin M.kp (thn (JQ pa I sr mr p) ?_) (z7 hs.1) (qm hs.2)
  rintro us s1 ⟨vs,H1,ts,μ1,α1,I1,r1,st1,sr1,mr1,d1,_,p1⟩
  exact⟨I1.kIn,run_mk C ad M Fn hr hb har I1 r1 mr1 d1 p1⟩
theorem UA(C:Ck D W Γ X k){x:Str}{n:Nat}(hp:qc a=true)(hn:(x,n)∈Γ.fld)(ha:PE X a (rdE D W f)):PE X (.Attribute a x pos) (rdE D W (ze f n)):=by
 refine PE.mono (z05 ha (qJ hp)) ?_
 rintro σ H Q ⟨φ,α,τ,μ,sr,mr,p⟩
 refine⟨φ,α,τ,μ,sr,mr,p.bind.mono λt μ1 α1 H1 st m q v d=>?_⟩
 unfold xD at q
 split at q
 ·split at q
  ·rename_i c fs _ w hw
   obtain⟨ad,C0,dx,gs,rfl,_,_,e1,e2,l⟩:=d
   obtain⟨y,z,hy,hz,dz⟩:=l.look hw
   obtain⟨c0,c1,c2⟩:=C.fld c C0 x n e1 hn
   rw[hy] at c0;cases c0
   exact⟨ad,C0,dx,gs,z,rfl,e2,c1,c2,hz,q.here m dz⟩
  ·exact q.elim
 ·obtain⟨c,fs,w,hi,hw,q⟩:=q.ex3
  obtain⟨ad,hi',rfl⟩:=d
  obtain⟨C0,dx,gs,e1,e2,l⟩:=m.ob _ ad _ hi' hi
  obtain⟨y,z,hy,hz,dz⟩:=l.look hw
  obtain⟨c0,c1,c2⟩:=C.fld c C0 x n e1 hn
  rw[hy] at c0;cases c0
  exact⟨ad,C0,dx,gs,z,rfl,e2,c1,c2,hz,Post.here q m dz⟩
 ·exact q.elim
end
section
variable {X:Cx}{D:DP}{W:XW}{Γ:Cn}{k:Nat}{pins:List (Addr×Obj)}{s:Shared}{σ:St}{H:Hp}{φ α:List Addr}{τ:Sl}{μ:Mem}{f g h:De}{a b c:Expr}{pos:Pos}{es:List Expr}
theorem Qu{B:Prop}(C:Ck D W Γ X k){c:Nat}{C0 dx ad:Addr}{gs:List (Str×V)}(I:Inv X pins σ H s)(e1:D.cad c=some C0)(ea:H ad=some (.ins C0 dx gs))
  (hh:∀tv P,uN D c tv->PySem.W.KitX X.K (.ref ad) tv P->P s.heap->(Value.ref ad)≠.builtin "__main__.__loader__#opaque"->B):B:=by
 have o:=C.ocx c C0 e1
 obtain⟨mA,O,_⟩:=vX I.hok ea
 obtain⟨od,J,_⟩:=O.look
 exact hh _ _ (.inr (.inr (.inr (.inr (.inr (.inr (.inr (.inr ⟨C0,e1,rfl⟩)))))))) (PySem.W.kitx_own (o.cl.get _) o.cl.hd o.fi o.sp o.tk o.ob) J (λz=>nomatch z)
theorem Yf{B:Prop}(C:Ck D W Γ X k){t:T}{v:V}{u:Value}{n:Nat}(I:Inv X pins σ H s)(d:Den D φ α H t v)(r:RelV v u)(ht:tyN t μ=some n)
  (hh:∀tv P,uN D n tv->PySem.W.KitX X.K u tv P->P s.heap->u≠.builtin "__main__.__loader__#opaque"->B):B:=by
 cases t with
 |non=>cases d;cases r;cases ht;exact hh _ _ (.inl ⟨rfl,rfl⟩) PySem.W.kitx_none True.intro (λz=>nomatch z)
 |bl b=>cases d;cases r;cases ht;exact hh _ _ (.inr (.inl ⟨rfl,rfl⟩)) PySem.W.kitx_bool True.intro (λz=>nomatch z)
 |int i=>cases d;obtain⟨t,rfl⟩:=r;cases ht;exact hh _ _ (.inr (.inr (.inl ⟨rfl,rfl⟩))) PySem.W.kitx_int True.intro (λz=>nomatch z)
 |str i=>cases d;obtain⟨t,rfl⟩:=r;cases ht;exact hh _ _ (.inr (.inr (.inr (.inl ⟨rfl,rfl⟩)))) PySem.W.kitx_str True.intro (λz=>nomatch z)
 |tup ts=>
  obtain⟨ad,xs,rfl,_,_,q,_⟩:=d;cases r;cases ht
  obtain⟨its,_,⟨o,h1,h2,_⟩,_⟩:=I.tuple (.inl q)
  exact hh _ _ (.inr (.inr (.inr (.inr (.inl ⟨rfl,rfl⟩))))) PySem.W.kitx_tuple ⟨o,h1,h2⟩ (λz=>nomatch z)
 |lst ts=>
  obtain⟨ad,xs,rfl,_,_,q,_⟩:=d;cases r;cases ht
  obtain⟨its,_,p,_⟩:=I.list (.inl q)
  obtain⟨o,h1,h2,_⟩:=p.isList
  exact hh _ _ (.inr (.inr (.inr (.inr (.inr (.inl ⟨rfl,rfl⟩)))))) PySem.W.kitx_list ⟨o,h1,h2⟩ (λz=>nomatch z)
 |exc c fs=>
  obtain⟨ad,C0,dd,rfl,_,_,e1,e2,xd⟩:=d;cases r;cases ht
  have hx:=C.xcx n C0 e1
  obtain⟨p,_⟩:=(show ObjOk X.prog X.w H s.heap ad (.ext (Ux ad C0 dd)) from I.hok ad _ e2)
  have xd:XDict D φ α H fs dd:=by cases dd<;>exact xd
  exact hh _ _ (.inr (.inr (.inr (.inr (.inr (.inr (.inl ⟨C0,e1,rfl⟩))))))) (Jw hx) ⟨p,xd.ext I⟩ (λz=>nomatch z)
 |dic kvs=>
  obtain⟨ad,gs,rfl,_,_,e,_⟩:=d;cases r;cases ht
  obtain⟨_,_,vs,_,dd⟩:=(show ObjOk X.prog X.w H s.heap ad (.dK gs) from I.hok ad _ e)
  exact hh _ _ (.inr (.inr (.inr (.inr (.inr (.inr (.inr (.inl ⟨rfl,rfl⟩)))))))) PySem.W.kitx_dict dd.typeIs (λz=>nomatch z)
 |obj c fs=>
  obtain⟨ad,C0,dx,gs,rfl,_,_,e1,e2,l⟩:=d;cases r;cases ht
  exact Qu C I e1 e2 hh
 | «mut» i=>cases ht
 |clo j cs=>cases ht
theorem KL{B:Prop}(C:Ck D W Γ X k){i:Nat}{v:V}{u:Value}{o:MO}(I:Inv X pins σ H s)(mr:MRel D φ α H μ)(d:Den D φ α H (.mut i) v)(r:RelV v u)(ht:μ[i]?=some o)(hnt:XO o=false)
  (hh:∀tv P,uN D (tyO o) tv->PySem.W.KitX X.K u tv P->P s.heap->u≠.builtin "__main__.__loader__#opaque"->B):B:=by
 obtain⟨ad,hi,rfl⟩:=d
 cases r
 have dd:=mr.ob i ad o hi ht
 cases o with
 |lst ts=>
  obtain⟨xs,q,_⟩:=dd
  obtain⟨its,_,p,_⟩:=I.list (.inl (.inl q))
  obtain⟨o,h1,h2,_⟩:=p.isList
  exact hh _ _ (.inr (.inr (.inr (.inr (.inr (.inl ⟨rfl,rfl⟩)))))) PySem.W.kitx_list ⟨o,h1,h2⟩ (λz=>nomatch z)
 |obj c fs=>
  obtain⟨C0,dx,gs,e1,e2,l⟩:=dd
  exact Qu C I e1 e2 hh
 |dic kvs=>
  obtain⟨gs,e,_⟩:=dd
  obtain⟨_,_,vs,_,dd⟩:=(show ObjOk X.prog X.w H s.heap ad (.dK gs) from I.hok ad _ e)
  exact hh _ _ (.inr (.inr (.inr (.inr (.inr (.inr (.inr (.inl ⟨rfl,rfl⟩)))))))) PySem.W.kitx_dict dd.typeIs (λz=>nomatch z)
 |tab j=>cases hnt
theorem QK{B:Prop}(C:Ck D W Γ X k){t:T}{v:V}{u:Value}{cs:List Nat}{Q:VK}(I:Inv X pins σ H s)(mr:MRel D φ α H μ)(d:Den D φ α H t v)(r:RelV v u)(q:Post D W φ α H σ (RV D φ Q) (VU cs t μ))
  (hh:∀n tv P,Post D W φ α H σ (RV D φ Q) (.ok (.bl (isAny n cs)) μ)->uN D n tv->PySem.W.KitX X.K u tv P->P s.heap->u≠.builtin "__main__.__loader__#opaque"->B):B:=by
 unfold VU at q
 split at q
 ·obtain⟨o,ho,q⟩:=q.som
  rcases q.br with⟨_,q⟩|⟨hb,q⟩
  ·exact q.elim
  ·exact KL C I mr d r ho hb λtv P=>hh _ tv P q
 ·split at q
  ·rename_i tn htn
   exact Yf C I d r htn λtv P=>hh _ tv P q
  ·exact q.elim
noncomputable def wQ(Γ:Cn):List Expr->Option (List Nat)
 |[]=>some []
 |e::r=>match e with
  |.Name x _=>if (idx Γ.N x).isNone&&Γ.G.contains x then (match Γ.cls.lookup x with
   |some c=>(wQ Γ r).map (c::·)
   |none=>none) else none
  |_=>none
noncomputable def xw(Γ:Cn)(e:Expr):Option (List Nat):=match e with
 |.Name _ _=>wQ Γ [e]
 |.Tuple es _ _=>if decide (es.length<=room) then wQ Γ es else none
 |_=>none
theorem lookup_mem{β:Type}{x:Str}{v:β}:∀{l:List (Str×β)},l.lookup x=some v->(x,v)∈l
 |[],h=>by cases h
 |(y,w)::r,h=>by
  rw[List.lookup_cons] at h
  cases q:x == y with
  |true=>rw[q] at h;cases h;rw[beq_iff_eq.mp q];exact List.mem_cons_self
  |false=>rw[q] at h;exact List.mem_cons_of_mem _ (lookup_mem h)
theorem Y5(C:Ck D W Γ X k){x:Str}{c:Nat}(hc:x∈Γ.G)(hl:(x,c)∈Γ.cls):∃u v,Vh X x u/\ClsV v u/\∀p0,PE X (.Name x p0) (tC v):=by
 obtain⟨u,v,cv,r⟩:=C.clv x c hl
 refine⟨u,v,cv,r,λp0=>?_⟩
 rcases cv with h|⟨h,hb,hn⟩
 ·exact W6 (C.glb x hc) h r.rel (C.dbG x hc)
 ·exact Kv (C.glb x hc) h hb r.rel hn (C.dbG x hc)
theorem uH(C:Ck D W Γ X k):∀{es:List Expr} {cs:List Nat},wQ Γ es=some cs->∃us vs,(∀us',Vals vs us'->us'=us)/\vs.length=es.length/\es.all noStar=true/\PA X es (λ_ H Q=>Q vs H)/\∀t tv,uN D t tv->PySem.W.kitAny X.K tv us=some (isAny t cs)
 |[],cs,h=>by
  simp[wQ] at h;subst h
  exact⟨[],[],λus' r=>by cases r;rfl,rfl,rfl,λpos pins s σ H Q I q=>qp pos pins s σ H Q I q,λt tv _=>rfl⟩
 |e::es,cs,h=>by
  unfold wQ at h
  split at h
  ·rename_i x p0
   split at h
   ·rename_i hc
    simp only[Bool.and_eq_true,List.contains_iff_mem] at hc
    split at h
    ·rename_i c hl
     cases hr:wQ Γ es with
     |none=>rw[hr] at h;cases h
     |some cs'=>
      rw[hr] at h
      cases h
      have hm:=lookup_mem hl
      obtain⟨us,vs,rv,hl,hs,hp,hk⟩:=uH C hr
      obtain⟨u,v,cv,r,pe⟩:=Y5 C hc.2 hm
      refine⟨u::us,v::vs,λus' q=>by cases q with|cons q1 q2=>rw[r.only q1,rv _ q2],by simp[hl],by simp[noStar,hs],λpos pins s σ H Q I q=>zI (pe p0) hp (z7 rfl) pos pins s σ H Q I q,λt tv ht=>?_⟩
      have k1:=C.isi t x c hm tv u ht cv
      have k2:=hk t tv ht
      unfold PySem.W.kitAny
      rw[k1]
      rw[ZF]
      cases hb:v_ t c with
      |true=>rfl
      |false=>exact k2
    ·cases h
   ·cases h
  ·cases h
theorem Y8 (C:Ck D W Γ X k) {cs:List Nat} {p0:Pos} (hx:("isinstance":Str)∈Γ.G) (hg:Γ.gl "isinstance"=.none) (hs:noStar a=true) (hcs:xw Γ c=some cs) (ha:PE X a (rdE D W f)):PE X (.Call (.Name "isinstance" p0) [a,c] [] pos) (rdE D W (WY cs f)):=by
 have hm:=C.glo _ hx
 rw[hg] at hm
 rintro pins s σ H Q I ⟨φ,α,τ,μ,sr,mr,p⟩
 refine wpAny_Call_Name_kw (vS I (C.glb _ hx) hm boot_isinstance ?_ (by decide) (C.dbG _ hx))
 unfold xw at hcs
 split at hcs
 ·rename_i cn pc
  obtain⟨us0,vs0,hu,hl,hst,hp,hk⟩:=uH C hcs
  refine PyProof.Rows.callWith_builtin1 (thn (zI ha hp (z7 hs) pos pins s σ H (λvs H1=>∃v t μ1 α1,vs=v::vs0/\Stp α H α1 H1/\MRel D φ α1 H1 μ1/\Den D φ α1 H1 t v/\Post D W φ α1 H1 σ (RV D φ Q) (VU cs t μ1)) I ⟨φ,α,τ,μ,sr,mr,p.bind.mono λt μ' α' H' st m q v d=>⟨v,t,μ',α',rfl,st,m,d,q⟩⟩) ?_) (z7 hs) (qm (by rfl))
  rintro us s1 ⟨vs,H1,I1,rv,v,t,μ1,α1,rfl,st,m,d,q⟩
  cases rv with
  | @cons _ u _ us' r1 r2=>
  obtain rfl:=hu us' r2
  have hlu:us'.length=1:=by rw[←r2.length];exact hl
  match us',hlu with
  |[uc],_=>
  refine QK C I1 m d r1 q λtn tv P q ht kx hP hne=>?_
  have kk:=hk tn tv ht
  have k1:PySem.W.kitOne X.K tv uc=some (isAny tn cs):=by
   unfold PySem.W.kitAny at kk
   split at kk
   ·rename_i hb;rw[hb];exact kk
   ·rename_i hb;rw[hb];exact kk
   ·cases kk
  exact PySem.W.kia_one kx I1.kIn hP k1 hne λtk=>⟨.bl _,H1,I1.tok tk,rfl,q.here m rfl⟩
 ·rename_i ees kk pc
  split at hcs
  case isFalse=>cases hcs
  rename_i hlen
  obtain⟨us0,vs0,hu,hl,hst,hp,hk⟩:=uH C hcs
  refine PyProof.Rows.callWith_builtin1 (thn (zI ha (zI (Vr hp) qp (z7 rfl)) (z7 hs) pos pins s σ H (λvs H2=>∃v tp H1 t μ1 α1,vs=[v,.ref tp]/\H1 tp=none/\H2=upd H1 tp (.tup vs0)/\Stp α H α1 H1/\MRel D φ α1 H1 μ1/\Den D φ α1 H1 t v/\Post D W φ α1 H1 σ (RV D φ Q) (VU cs t μ1)) I ⟨φ,α,τ,μ,sr,mr,p.bind.mono λt μ' α' H' st m q v d=>⟨by rw[hl];exact zB (by simpa using hlen),λtp htp=>⟨v,tp,H',t,μ',α',rfl,htp,rfl,st,m,d,q⟩⟩⟩) ?_) (z7 hs) (qm (by rfl))
  rintro us s1 ⟨vs,H2,I1,rv,v,tp,H1,t,μ1,α1,rfl,htp,rfl,st,m,d,q⟩
  obtain⟨u,ut,rfl,r1,r2⟩:=vals2 rv
  have r2:ut=Value.ref tp:=r2
  subst r2
  have sm:vH H1 (upd H1 tp (.tup vs0)):=zk htp
  refine QK C I1 (m.new sm) (d.step (Stp.new sm)) r1 (q.step (Stp.new sm)) λtn tv P q ht kx hP hne=>?_
  obtain⟨_,its,rvs,⟨o,ho,hcl,n,hd⟩⟩:=(show ObjOk X.prog X.w _ s1.heap tp (.tup vs0) from I1.hok tp _ z8)
  obtain rfl:=hu its rvs
  obtain⟨oc,odd,odt,osl⟩:=o
  simp only at hcl hd
  subst hcl hd
  exact PySem.W.kia_tup kx I1.kIn hP ho (hk tn tv ht) hne λtk=>⟨.bl _,_,I1.tok tk,rfl,q.here (m.new sm) rfl⟩
 ·cases hcs
end
section
variable {X:Cx}{D:DP}{W:XW}{Γ:Cn}{k:Nat}{pins:List (Addr×Obj)}{s:Shared}{σ:St}{H:Hp}{φ α:List Addr}{τ:Sl}{μ:Mem}{f g h:De}{a b c:Expr}{pos:Pos}{es:List Expr}
noncomputable def B1 (X:Cx)(D:DP)(W:XW)(fv:Value)(op:T->Mem->RE T):Prop:=
 ∀(pins:List (Addr×Obj)) (s:Shared) (σ:St) (H:Hp) (φ α:List Addr) (μ:Mem) (t:T) (v:V) (u:Value) (Q:VK),Inv X pins σ H s->MRel D φ α H μ->Den D φ α H t v->RelV v u->Post D W φ α H σ (RV D φ Q) (op t μ)->
  wpAny (model X.prog X.w) X.A (call fv [u]) (EP X pins σ Q) X.xe s
theorem XI (C:Ck D W Γ X k) {x:Str} {id:String} {op:T->Mem->RE T} {p0:Pos} (hx:x∈Γ.G) (hg:Γ.gl x=.none) (hv:bootBuiltins x=some (.builtin id)) (hn:x≠"__name__") (hs:noStar a=true) (hb:B1 X D W (.builtin id) op) (ha:PE X a (rdE D W f)) :
  PE X (.Call (.Name x p0) [a] [] pos) (rdE D W (eB1 op f)):=by
 have hm:=C.glo _ hx
 rw[hg] at hm
 rintro pins s σ H Q I ⟨φ,α,τ,μ,sr,mr,p⟩
 refine wpAny_Call_Name_kw (vS I (C.glb _ hx) hm hv ?_ hn (C.dbG _ hx))
 refine PyProof.Rows.callWith_builtin1 (thn (zI ha qp (z7 hs) pos pins s σ H (λvs H1=>∃v t μ1 α1,vs=[v]/\Stp α H α1 H1/\MRel D φ α1 H1 μ1/\Den D φ α1 H1 t v/\Post D W φ α1 H1 σ (RV D φ Q) (op t μ1)) I ⟨φ,α,τ,μ,sr,mr,p.bind.mono λt μ' α' H' st m q v d=>⟨v,t,μ',α',rfl,st,m,d,q⟩⟩) ?_) (z7 hs) (qm (by rfl))
 rintro us s1 ⟨vs,H1,I1,rv,v,t,μ1,α1,rfl,st,m,d,q⟩
 obtain⟨u,rfl,r1⟩:=vals1 rv
 exact hb pins s1 σ H1 φ α1 μ1 t v u Q I1 m d r1 q
theorem z0Z:B1 X D W (.builtin "len") wM:=by
 intro pins s σ H φ α μ t v u Q I mr d r p
 unfold wM at p
 split at p
 ·obtain⟨ad,xs,rfl,_,_,q,l⟩:=d
  exact wA pins s σ H _ _ Q I (.cons r .nil) ⟨ad,xs,rfl,.inl (.inl q),by rw[←l.length];exact p.here mr rfl⟩
 ·obtain⟨ad,xs,rfl,_,_,q,l⟩:=d
  exact wA pins s σ H _ _ Q I (.cons r .nil) ⟨ad,xs,rfl,.inr (.inl q),by rw[←l.length];exact p.here mr rfl⟩
 ·cases d
  obtain⟨hl,p⟩:=p.grd
  exact uw pins s σ H _ _ Q I (.cons r .nil) ⟨_,rfl,zB hl,p.here mr rfl⟩
 ·obtain⟨ts,hj,p⟩:=p.ex1
  obtain⟨ad,hi,rfl⟩:=d
  obtain⟨xs,q,l⟩:=mr.ob _ ad _ hi hj
  exact wA pins s σ H _ _ Q I (.cons r .nil) ⟨ad,xs,rfl,.inl (.inl (.inl q)),by rw[←l.length];exact Post.here p mr rfl⟩
 ·exact p.elim
theorem ko{p:Addr}{o:HO}(hp:H p=none):Stp α H (α++[p]) (upd H p o):=⟨⟨[p],rfl,by simpa using hp⟩,λb u _ e=>zk hp b u e,λb e=>by
 by_cases z:b=p
 ·rw[z,z8] at e;cases e
 ·rw[za z] at e;exact e⟩
theorem MRel.lay{p:Addr}{ts:List T}{vs:List V}(m:MRel D φ α H μ)(hp:H p=none)(l:DenL D φ α H ts vs):MRel D φ (α++[p]) (upd H p (.lst vs)) (μ++[.lst ts]):=by
 have st:Stp α H (α++[p]) (upd H p (.lst vs)):=ko hp
 have hl:=m.len
 refine⟨by simp[hl],?_,λb hb=>?_,λb hb=>?_,λi a o e1 e2=>?_⟩
 ·rw[List.nodup_append]
  refine⟨m.nd,by simp,λa ha b hb=>?_⟩
  rw[List.mem_singleton.mp hb]
  intro z
  exact zq m hp (z▸ha)
 ·rcases List.mem_append.mp hb with h|h
  ·exact m.dis b h
  ·rw[List.mem_singleton.mp h];exact zr m hp
 ·obtain⟨u,e,n⟩:=m.phi b hb
  exact⟨u,zk hp b u e,n⟩
 ·by_cases hi:i<α.length
  ·rw[List.getElem?_append_left hi] at e1
   rw[List.getElem?_append_left (by omega)] at e2
   have d:=m.ob i a o e1 e2
   obtain⟨u,q,_⟩:=d.some
   exact d.step st ((zk hp _ _ q).trans q.symm)
  ·rw[List.getElem?_append_right (by omega)] at e1 e2
   have hi':i-α.length=0:=by
    by_cases z:i-α.length=0
    ·exact z
    ·rw[List.getElem?_eq_none (by simp;omega)] at e1;cases e1
   have hi2:i-μ.length=0:=by omega
   rw[hi'] at e1
   rw[hi2] at e2
   have e1:some p=some a:=e1
   have e2:some (MO.lst ts)=some o:=e2
   cases e1;cases e2
   exact⟨vs,z8,l.step st⟩
theorem Post.lay{Q:VK}{p:Addr}{ts:List T}{vs:List V}(q:Post D W φ α H σ (RV D φ Q) (.ok (.mut μ.length) (μ++[.lst ts])))(m:MRel D φ α H μ)(hp:H p=none)(l:DenL D φ α H ts vs):Q (.ref p) (upd H p (.lst vs)):=
 q.ok (ko hp) (m.lay hp l) _ ⟨p,by rw[←m.len,List.getElem?_append_right (Nat.le_refl _)];simp,rfl⟩
theorem UW{fs:List De}(hl:es.length<=room)(ha:EsOk X D W es fs):PE X (.List es pos) (rdE D W (ke fs)):=by
 refine PE.mono (Vy (wx ha)) ?_
 rintro σ H Q ⟨φ,α,τ,μ,sr,mr,p⟩
 refine⟨φ,α,τ,μ,sr,mr,p.bind.mono λts μ1 α1 H1 st m q vs dl hn=>⟨by rw[hn];exact zB hl,λz hz=>q.lay m hz dl⟩⟩
theorem Stp.turn{x:Addr}{o:HO}(hx:x∈α)(hh:∃o',H x=some o'):Stp α H α (upd H x o):=by
 refine⟨⟨[],by simp,by simp⟩,λb u n e=>?_,λb e=>?_⟩
 ·rw[za (λ(z:b=x)=>n (by rw[z];exact hx))];exact e
 ·by_cases z:b=x
  ·rw[z,z8] at e;cases e
  ·rw[za z] at e;exact e
theorem MRel.turn{i:Nat}{x:Addr}{o:HO}{mo:MO}(m:MRel D φ α H μ)(hx:α[i]?=some x)(hi:i<μ.length)(st:Stp α H α (upd H x o))(d:DenO D φ α (upd H x o) mo x):MRel D φ α (upd H x o) (μ.set i mo):=by
 refine⟨by simp[m.len],m.nd,m.dis,λb hb=>?_,λj y o' e1 e2=>?_⟩
 ·obtain⟨u,hu,n⟩:=m.phi b hb
  exact⟨u,st.keep b u (λz=>m.dis b z hb) hu,n⟩
 ·by_cases q:i=j
  ·subst q
   rw[hx] at e1;cases e1
   rw[List.getElem?_set_self hi] at e2;cases e2
   exact d
  ·rw[List.getElem?_set_ne q] at e2
   have ne:y≠x:=λz=>by
    subst z
    obtain⟨h1,e1'⟩:=List.getElem?_eq_some_iff.mp e1
    obtain⟨h2,e2'⟩:=List.getElem?_eq_some_iff.mp hx
    exact q ((List.getElem_inj m.nd).mp (e2'.trans e1'.symm))
   exact DenO.step st (za ne) (m.ob j y o' e1 e2)
theorem JC{i:Nat}{x:Addr}{xs:List V}{ts:List T}{v:V}{t:T}(m2:MRel D φ α H μ)(hx2:α[i]?=some x)(hμ:μ[i]?=some (.lst ts))(hH:H x=some (.lst xs))(l:DenL D φ α H ts xs)(d:Den D φ α H t v) :
  Stp α H α (upd H x (.lst (xs++[v])))/\MRel D φ α (upd H x (.lst (xs++[v]))) (μ.set i (.lst (ts++[t]))):=by
 have st3:Stp α H α (upd H x (.lst (xs++[v]))):=Stp.turn (List.mem_of_getElem? hx2) ⟨_,hH⟩
 have hi:i<μ.length:=(List.getElem?_eq_some_iff.mp hμ).1
 exact⟨st3,m2.turn hx2 hi st3 ⟨_,z8,(l.step st3).append ⟨v,[],rfl,d.step st3,rfl⟩⟩⟩
theorem Yd{o:Expr}{pa pc:Pos}{go:De}(hp:qc o=true)(hs:noStar a=true)(hline:(pa.endLine == pc.line)=true)(ho:PE X o (rdE D W go))(ha:PE X a (rdE D W f)) :
  PE X (.Call (.Attribute o "append" pa) [a] [] pc) (rdE D W (wX go f)):=by
 have hb:starEach [a] X.env=[(false,eval a X.env)]:=z7 hs
 refine PE.mono (XX PySem.F.plainAttrs_list PySem.F.slot_list_append PySem.F.type_list_append y6 ho (zI ha qp (z7 hs)) (qJ hp) (by rw[hb];rfl) hline (z7 hs) rfl) ?_
 rintro σ H Q ⟨φ,α,τ,μ,sr,mr,p⟩
 refine⟨φ,α,τ,μ,sr,mr,p.bind.mono λot μ1 α1 H1 st1 m1 q ov dv=>?_⟩
 split at q
 case h_2=>exact q.elim
 rename_i i
 obtain⟨K,Z,⟨⟨ts0,hμ0⟩,hf⟩,hk,hz⟩:=q
 obtain⟨x,hx,rfl⟩:=dv
 obtain⟨xs0,hH0,l0⟩:=m1.ob _ x _ hx hμ0
 refine⟨.inl ⟨rfl,_,.inl (.inl hH0)⟩,φ,α1,τ,μ1,sr.step st1,m1,_,Z,hf,?_,hz⟩
 rintro t μ2 ⟨ts,hμ,hl,q2⟩ α2 H2 st2 m2 v d
 obtain⟨β,e2,_⟩:=st2.ext
 have hx2:α2[i]?=some x:=by
  rw[e2,List.getElem?_append_left (List.getElem?_eq_some_iff.mp hx).1];exact hx
 obtain⟨xs,hH,l⟩:=m2.ob i x _ hx2 hμ
 obtain⟨st3,m3⟩:=JC m2 hx2 hμ hH l d
 refine⟨x,xs,v,rfl,rfl,hH,?_,?_⟩
 ·rw[←l.length];exact Nat.lt_of_lt_of_le hl (zB (Nat.le_refl _))
 ·exact hk _ _ q2 α2 _ (st2.trans st3) m3 .non rfl
end
structure ItV(D:DP)(J:It)(Ok:List Addr->List Addr->Hp->Prop)(xs:List T):Prop where
 go:∀(i:Nat) φ α H,Ok φ α H->i<xs.length->J.go i H
 yld:∀(i:Nat) φ α H v H' t,Ok φ α H->xs[i]?=some t->J.yld i H v H'->vH H H'/\Den D φ α H' t v
 stop:∀φ α H,Ok φ α H->J.stop xs.length H
noncomputable def OkI (D:DP)(φ α:List Addr)(H:Hp)(xs:List T)(lv:Mem->Prop)(Ok:List Addr->List Addr->Hp->Prop):Prop:=∀φ' α' H' μ',Lk φ α H φ' α' H'->MRel D φ' α' H' μ'->lv μ'->Ok φ' α' H'
noncomputable def rdI (D:DP)(W:XW)(f:Di):TI:=λσ H R=>RdP D H σ λφ α τ μ=>
 Post D W φ α H σ (λp μ' α' H'=>∀J Ok,ItV D J Ok p.1->OkI D φ α' H' p.1 p.2 Ok->p.2 μ'->R J H') (f τ μ).re
theorem Lk.trans{φ φ1 φ2 α α1 α2:List Addr}{H H1 H2:Hp}(a:Lk φ α H φ1 α1 H1)(b:Lk φ1 α1 H1 φ2 α2 H2):Lk φ α H φ2 α2 H2:=
 ⟨λx o n1 n2 e=>let ⟨m1,m2,e1⟩:=a.ob x o n1 n2 e;b.ob x o m1 m2 e1,λi x e=>b.st i x (a.st i x e)⟩
theorem Qw{D:DP}{φ α:List Addr}{H:Hp}{γ:Type}{f:γ->T}{xs:List γ}{i:Nat}{t:T}(h:(xs.map f)[i]?=some t):∃a,xs[i]?=some a/\t=f a:=by
 rw[List.getElem?_map] at h
 cases q:xs[i]? with
 |none=>rw[q] at h;cases h
 |some a=>rw[q] at h;cases h;exact⟨a,rfl,rfl⟩
section
variable {X:Cx}{D:DP}{W:XW}{Γ:Cn}{k:Nat}{pins:List (Addr×Obj)}{s:Shared}{σ:St}{H:Hp}{φ α:List Addr}{τ:Sl}{μ:Mem}{f g h:De}{a b c tg:Expr}{pos:Pos}{es:List Expr}
theorem Z5{K:PySem.W.Frag}{ad:Addr}{xs:List T}:ItV D (Itl K ad) (λφ α H=>∃vs,Rd H ad (.lst vs)/\DenL D φ α H xs vs) xs:=
 ⟨λi φ α H ⟨vs,ok,l⟩ hi=>⟨vs,vs[i]'(by rw[←l.length];exact hi),.inl ok,by simp⟩,λi φ α H v H' t ⟨vs,ok,l⟩ hi y=>by
  obtain⟨rfl,y⟩:=y
  obtain⟨x,hx,d⟩:=l.get hi
  have e:=y vs (.inl ok)
  rw[e] at hx;cases hx;exact⟨λ_ _ z=>z,d⟩,λφ α H ⟨vs,ok,l⟩=>⟨vs,.inl ok,by rw[l.length];exact Nat.le_refl _⟩⟩
theorem JX{K:PySem.W.Frag}{ad:Addr}{xs:List T}:ItV D (Itt K ad) (λφ α H=>∃vs,Rd H ad (.tup vs)/\DenL D φ α H xs vs) xs:=
 ⟨λi φ α H ⟨vs,ok,l⟩ hi=>⟨vs,vs[i]'(by rw[←l.length];exact hi),.inl ok,by simp⟩,λi φ α H v H' t ⟨vs,ok,l⟩ hi y=>by
  obtain⟨rfl,y⟩:=y
  obtain⟨x,hx,d⟩:=l.get hi
  have e:=y vs (.inl ok)
  rw[e] at hx;cases hx;exact⟨λ_ _ z=>z,d⟩,λφ α H ⟨vs,ok,l⟩=>⟨vs,.inl ok,by rw[l.length];exact Nat.le_refl _⟩⟩
theorem WM{n i j:Nat}(h:(List.range n)[i]?=some j):j=i:=by
 have:=(List.getElem?_eq_some_iff.mp h).2
 simpa using this.symm
noncomputable def ItC(z:Str):It:=⟨λi _=>i<z.cps.toList.length,λi H x H'=>H'=H/\∃c,z.cps.toList[i]?=some c/\x=.str ⟨#[c]⟩,λi _=>z.cps.toList.length<=i⟩
theorem K3{z:Str}:ItV D (ItC z) (λ_ _ _=>True) (z.cps.toList.map λc=>T.str ⟨#[c]⟩):=
 ⟨λi φ α H _ hi=>by (show i<_);simpa using hi,λi φ α H v H' t _ hi y=>by
  obtain⟨j,hj,rfl⟩:=Qw (D:=D) (φ:=φ) (α:=α) (H:=H) hi
  obtain⟨rfl,c,hc,rfl⟩:=y
  rw[hj] at hc;cases hc;exact⟨λ_ _ z=>z,rfl⟩,λφ α H _=>by show _<=_;simp⟩
theorem V_ {P:Program} {w:World} {K:PySem.W.Frag} {tg:Expr} {kd:String} (hk:kd="str_ascii_iterator"\/kd="str_iterator") (it:Addr) (z:Str) (t0:Tok):Turn P w K tg (ItC z) [it] it (λi h=>h.IsStrIter it kd z t0 i) where
 mem:=by simp
 obj:=λi h st b hb=>by
  have e:b=it:=by simpa using hb
  subst e
  obtain⟨o,e,c,d⟩:=st
  exact⟨o,e,λv z=>by rw[d] at z;cases z⟩
 keep:=λi h h' st k=>let ⟨o,ho,r⟩:=st;⟨o,k it (by simp) o ho,r⟩
 item:=by
  intro X hP hw hK hc i pins s σ H E I hf st hg
  subst hP hw hK
  obtain⟨f0,f1,f2,f3,f4,f5⟩:=hf it (by simp)
  have hi:i<z.cps.size:=by simpa[ItC] using hg
  have hcx:z.cps[i]?=some z.cps[i]:=Array.getElem?_eq_getElem hi
  have hcl:z.cps.toList[i]?=some z.cps[i]:=by rw[Array.getElem?_toList];exact hcx
  rcases hk with rfl|rfl
  ·refine wpAny_pyNext_ascii_item st hcx λh' st' sb=>?_
   have I1:Inv X pins σ H {s with heap:=h',toks:=s.toks+1}:=I.turned (λb o hb e=>(sb.2 b hb).trans e) f0 f1 f3 f4 f5
   obtain⟨o,e,c,d⟩:=id st'
   exact⟨.str ⟨#[z.cps[i]]⟩ s.toks,rfl,yE (s:={s with heap:=h',toks:=s.toks+1}) e c d (by decide) ⟨.str ⟨#[z.cps[i]]⟩,H,I1,⟨_,rfl⟩,⟨rfl,z.cps[i],hcl,rfl⟩,st',λb hb=>(hf b hb).1⟩⟩
  ·refine wpAny_pyNext_wide_item st hcx λh' st' sb=>?_
   have I1:Inv X pins σ H {s with heap:=h',toks:=s.toks+1}:=I.turned (λb o hb e=>(sb.2 b hb).trans e) f0 f1 f3 f4 f5
   obtain⟨o,e,c,d⟩:=id st'
   exact⟨.str ⟨#[z.cps[i]]⟩ s.toks,rfl,yE (s:={s with heap:=h',toks:=s.toks+1}) e c d (by decide) ⟨.str ⟨#[z.cps[i]]⟩,H,I1,⟨_,rfl⟩,⟨rfl,z.cps[i],hcl,rfl⟩,st',λb hb=>(hf b hb).1⟩⟩
 done:=by
  intro X hP hw hK hc i pins s σ H E I hf st hg
  subst hP hw hK
  obtain⟨f0,f1,f2,f3,f4,f5⟩:=hf it (by simp)
  have hx:z.cps[i]?=none:=Array.getElem?_eq_none (by have:z.cps.toList.length<=i:=hg;simpa using this)
  rcases hk with rfl|rfl
  ·exact wpAny_pyNext_ascii_end (I.ok.hd hc) st hx λh' eb=>⟨rfl,I.turned (t':=s.toks) (λb o hb e=>eb b o hb e) f0 f1 f3 f4 f5⟩
  ·exact wpAny_pyNext_wide_end (I.ok.hd hc) st hx λh' eb=>⟨rfl,I.turned (t':=s.toks) (λb o hb e=>eb b o hb e) f0 f1 f3 f4 f5⟩
 self:=λ_ _ _ _ _ st h=>by
  rcases hk with rfl|rfl
  ·exact wpAny_pyIter_striter_ascii st h
  ·exact wpAny_pyIter_striter_wide st h
theorem Kf(ha:PE X a (rdE D W f)):PI X tg a (rdI D W (iE f)):=by
 rintro pins s σ H R I ⟨φ,α,τ,μ,sr,mr,p⟩
 refine thn (sub ha I sr mr p) ?_
 rintro u s1 ⟨v,H1,t,μ1,α1,I1,r1,st1,sr1,mr1,d1,p1⟩
 cases t with
 |lst ts=>
  obtain⟨ad,vs,rfl,n1,n2,q,l⟩:=d1
  cases r1
  obtain⟨its,rv,pl,hz⟩:=I1.list (.inl q)
  refine wpAny_pyIter_list pl.isList ?_
  refine⟨s1.heap.objs.size,[s1.heap.objs.size],_,_,H1,rfl,I1.kept (t':=s1.toks) λb o e=>Heap.get?_push_of_some _ e,yg ad _,⟨_,Heap.get?_push_size _ rfl,rfl,rfl⟩,λb hb=>?_,?_⟩
  ·have e:b=s1.heap.objs.size:=by simpa using hb
   subst e
   exact I1.fpOk (Nat.le_refl _) (I1.hok.fresh (Nat.le_refl _))
  ·have p2:Post D W φ α1 H1 σ _ (RE.ok (ts,lvT) μ1):=p1
   exact p2.ok (Stp.refl _ _) mr1 _ _ Z5 (λφ' α' H' μ' lk _ _=>by
    obtain⟨a',ws,e,_,_,q',l'⟩:=Den.lk lk (show Den D φ α1 H1 (.lst ts) (.ref ad) from ⟨ad,vs,rfl,n1,n2,q,l⟩)
    cases e;exact⟨ws,q',l'⟩) trivial
 |tup ts=>
  obtain⟨ad,vs,rfl,n1,n2,q,l⟩:=d1
  cases r1
  obtain⟨its,rv,pl,hz⟩:=I1.tuple (.inl q)
  refine wpAny_pyIter_tuple (show s1.heap.IsTuple ad its.toArray from pl) ?_
  refine⟨s1.heap.objs.size,[s1.heap.objs.size],_,_,H1,rfl,I1.kept (t':=s1.toks) λb o e=>Heap.get?_push_of_some _ e,Qe ad _,⟨_,Heap.get?_push_size _ rfl,rfl,rfl⟩,λb hb=>?_,?_⟩
  ·have e:b=s1.heap.objs.size:=by simpa using hb
   subst e
   exact I1.fpOk (Nat.le_refl _) (I1.hok.fresh (Nat.le_refl _))
  ·have p2:Post D W φ α1 H1 σ _ (RE.ok (ts,lvT) μ1):=p1
   exact p2.ok (Stp.refl _ _) mr1 _ _ JX (λφ' α' H' μ' lk _ _=>by
    obtain⟨a',ws,e,_,_,q',l'⟩:=Den.lk lk (show Den D φ α1 H1 (.tup ts) (.ref ad) from ⟨ad,vs,rfl,n1,n2,q,l⟩)
    cases e;exact⟨ws,q',l'⟩) trivial
 | «mut» j=>
  obtain⟨ad,hj,rfl⟩:=d1
  cases r1
  have p2:Post D W φ α1 H1 σ _ (λK _=>∃xs,μ1[j]?=some (.lst xs)/\K (xs,lvM j xs) μ1):=p1
  obtain⟨xs,hx,p2⟩:=p2.ex1
  obtain⟨vs,q,l⟩:=mr1.ob j ad _ hj hx
  obtain⟨its,rv,pl,hz⟩:=I1.list (.inl (.inl q))
  refine wpAny_pyIter_list pl.isList ?_
  refine⟨s1.heap.objs.size,[s1.heap.objs.size],_,_,H1,rfl,I1.kept (t':=s1.toks) λb o e=>Heap.get?_push_of_some _ e,yg ad _,⟨_,Heap.get?_push_size _ rfl,rfl,rfl⟩,λb hb=>?_,?_⟩
  ·have e:b=s1.heap.objs.size:=by simpa using hb
   subst e
   exact I1.fpOk (Nat.le_refl _) (I1.hok.fresh (Nat.le_refl _))
  ·have p2:Post D W φ α1 H1 σ _ (RE.ok (xs,lvM j xs) μ1):=p2
   exact p2.ok (Stp.refl _ _) mr1 _ _ Z5 (λφ' α' H' μ' lk m hl=>by
    obtain⟨ws,q',l'⟩:=m.ob j ad _ (lk.st j ad hj) hl
    exact⟨ws,.inl q',l'⟩) hx
 |str z=>
  have d1:v=.str z:=d1
  subst d1
  obtain⟨t0,rfl⟩:=r1
  have fin:∀{kd:String},(kd="str_ascii_iterator"\/kd="str_iterator")->PIE X pins σ tg R (.ref s1.heap.objs.size) {s1 with heap:=s1.heap.push {cls:=.type kd,data:=.fields #[.str z t0,.int 0 0]}}:=λ{kd} hk=>by
   refine⟨s1.heap.objs.size,[s1.heap.objs.size],_,_,H1,rfl,I1.kept (t':=s1.toks) λb o e=>Heap.get?_push_of_some _ e,V_ hk _ z t0,⟨_,Heap.get?_push_size _ rfl,rfl,rfl⟩,λb hb=>?_,?_⟩
   ·have e:b=s1.heap.objs.size:=by simpa using hb
    subst e
    exact I1.fpOk (Nat.le_refl _) (I1.hok.fresh (Nat.le_refl _))
   ·have p2:Post D W φ α1 H1 σ _ (RE.ok (JN z,lvT) μ1):=p1
    exact p2.ok (Stp.refl _ _) mr1 _ _ K3 (λ_ _ _ _ _ _ _=>True.intro) trivial
  cases ha:z.cps.all (·<128) with
  |true=>exact wpAny_pyIter_ascii ha (fin (.inl rfl))
  |false=>exact wpAny_pyIter_wide ha (fin (.inr rfl))
 |_=>exact Post.elim p1
theorem Vk{x:V}{xs:List V}{us:List Value}(h:Vals (x::xs) us):∃u r,us=u::r/\RelV x u/\Vals xs r:=by
 cases h with
 |cons r q=>exact⟨_,_,rfl,r,q⟩
theorem vals3{x y z:V}{us:List Value}(h:Vals [x,y,z] us):∃u v w,us=[u,v,w]/\RelV x u/\RelV y v/\RelV z w:=by
 obtain⟨u,_,rfl,a,h⟩:=Vk h
 obtain⟨v,_,rfl,b,h⟩:=Vk h
 obtain⟨w,_,rfl,c,h⟩:=Vk h
 cases h
 exact⟨_,_,_,rfl,a,b,c⟩
noncomputable def ItS(lo c:Int)(n:Nat):It:=⟨λi _=>i<n,λi H x H'=>H'=H/\x=.int (lo+i * c),λi _=>n<=i⟩
theorem uQ{P:Program}{w:World}{K:PySem.W.Frag}{tg:Expr}(it:Addr)(lo c:Int)(n:Nat):Turn P w K tg (ItS lo c n) [it] it (λi h=>IsRangeIter h it (lo+(i:Nat) * c) ((n:Int)-(i:Nat)) c) where
 mem:=by simp
 obj:=λi h st b hb=>by
  have e:b=it:=by simpa using hb
  subst e
  exact⟨_,st,λv z=>by cases (show Data.fields _=Data.cell v from z)⟩
 keep:=λi h h' st k=>k it (by simp) _ st
 item:=by
  intro X hP hw hK hc i pins s σ H E I hf st hg
  subst hP hw hK
  obtain⟨f0,f1,f2,f3,f4,f5⟩:=hf it (by simp)
  have W:=Walks.range (prog:=X.prog) (w:=X.w) (I.ok.hd hc) it lo c n
  refine W.item i s _ _ hg st λv h' tk hv st' kk=>?_
  obtain⟨t,rfl⟩:=hv
  have I1:Inv X pins σ H {s with heap:=h',toks:=tk}:=I.turned (λb o hb e=>kk b o (by simpa using hb) e) f0 f1 f3 f4 f5
  exact⟨_,rfl,yE (s:={s with heap:=h',toks:=tk}) (n:="range_iterator") st' rfl rfl (by decide) ⟨.int (lo+i * c),H,I1,⟨t,rfl⟩,⟨rfl,rfl⟩,st',λb hb=>(hf b hb).1⟩⟩
 done:=by
  intro X hP hw hK hc i pins s σ H E I hf st hg
  subst hP hw hK
  obtain⟨f0,f1,f2,f3,f4,f5⟩:=hf it (by simp)
  exact wpAny_pyNext_range_end (I.ok.hd hc) st (by have:n<=i:=hg;omega) λh' eb=>⟨rfl,I.turned (t':=s.toks) (λb o hb e=>eb b o hb e) f0 f1 f3 f4 f5⟩
 self:=λ_ _ _ _ _ st h=>wpAny_pyIter_rangeiter st h
theorem uW{P:Program}{w:World}{K:PySem.W.Frag}{tg:Expr}(it:Addr)(lo c:Int)(n:Nat):Turn P w K tg (ItS lo c n) [it] it (λi h=>IsLongIter h it (lo+(i:Nat) * c) ((n:Int)-(i:Nat)) c) where
 mem:=by simp
 obj:=λi h st b hb=>by
  have e:b=it:=by simpa using hb
  subst e
  exact⟨_,st,λv z=>by cases (show Data.fields _=Data.cell v from z)⟩
 keep:=λi h h' st k=>k it (by simp) _ st
 item:=by
  intro X hP hw hK hc i pins s σ H E I hf st hg
  subst hP hw hK
  obtain⟨f0,f1,f2,f3,f4,f5⟩:=hf it (by simp)
  have W:=Walks.longrange (prog:=X.prog) (w:=X.w) (I.ok.hd hc) it lo c n
  refine W.item i s _ _ hg st λv h' tk hv st' kk=>?_
  obtain⟨t,rfl⟩:=hv
  have I1:Inv X pins σ H {s with heap:=h',toks:=tk}:=I.turned (λb o hb e=>kk b o (by simpa using hb) e) f0 f1 f3 f4 f5
  exact⟨_,rfl,yE (s:={s with heap:=h',toks:=tk}) (n:="longrange_iterator") st' rfl rfl (by decide) ⟨.int (lo+i * c),H,I1,⟨t,rfl⟩,⟨rfl,rfl⟩,st',λb hb=>(hf b hb).1⟩⟩
 done:=by
  intro X hP hw hK hc i pins s σ H E I hf st hg
  subst hP hw hK
  obtain⟨f0,f1,f2,f3,f4,f5⟩:=hf it (by simp)
  exact wpAny_pyNext_long_end (I.ok.hd hc) st (by have:n<=i:=hg;omega) λh' eb=>⟨rfl,I.turned (t':=s.toks) (λb o hb e=>eb b o hb e) f0 f1 f3 f4 f5⟩
 self:=λ_ _ _ _ _ st h=>wpAny_pyIter_longiter st h
theorem K5{a b c:Int}(hc:0<c):Builtin.Range.rangeSize a b c=if a<b then (b-a-1) / c+1 else 0:=by
 unfold Builtin.Range.rangeSize
 rw[if_pos hc]
theorem jy{pins:List (Addr×Obj)}{σ:St}{H:Hp}{s:Shared}{R:It->Hp->Prop}{E:Value->Shared->Prop}{lo hi c:Int}{t u v:Tok}{tk:Nat}(I:Inv X pins σ H s)(h3:0<c)
  (q:R (ItS lo c (if lo<hi then (hi-lo-1) / c+1 else 0:Int).toNat) H):wpAny (model X.prog X.w) X.A (pyIter (.ref s.heap.objs.size)) (PIE X pins σ tg R) E {s with heap:=s.heap.push {cls:=.type "range",data:=.fields #[.int lo t,.int hi u,.int c v]},toks:=tk}:=by
 have I1:Inv X pins σ H {s with heap:=s.heap.push {cls:=.type "range",data:=.fields #[.int lo t,.int hi u,.int c v]},toks:=tk}:=I.kept λb o e=>Heap.get?_push_of_some _ e
 have e1:lo+((0:Nat):Int) * c=lo:=by simp
 have e2:(((if lo<hi then (hi-lo-1) / c+1 else 0:Int).toNat:Nat):Int)-((0:Nat):Int)=Builtin.Range.rangeSize lo hi c:=by
  rw[K5 h3]
  have:0<=(if lo<hi then (hi-lo-1) / c+1 else 0):=by
   split
   ·have h1:0<=(hi-lo-1) / c:=Int.ediv_nonneg (by omega) (by omega)
    omega
   ·omega
  omega
 have fr:∀b∈[(s.heap.push {cls:=.type "range",data:=.fields #[.int lo t,.int hi u,.int c v]}).objs.size],b=(s.heap.push {cls:=.type "range",data:=.fields #[.int lo t,.int hi u,.int c v]}).objs.size:=λb hb=>by simpa using hb
 cases hsm:Builtin.Range.small lo hi c with
 |true=>
  refine wpAny_pyIter_range (IsRange.new ..) hsm ?_
  refine⟨(s.heap.push {cls:=.type "range",data:=.fields #[.int lo t,.int hi u,.int c v]}).objs.size,[(s.heap.push {cls:=.type "range",data:=.fields #[.int lo t,.int hi u,.int c v]}).objs.size],_,_,H,rfl,
   I1.kept (t':=tk) λb o e=>Heap.get?_push_of_some _ e,uQ _ lo c (if lo<hi then (hi-lo-1) / c+1 else 0:Int).toNat,?_,λb hb=>?_,q⟩
  ·show IsRangeIter _ _ (lo+((0:Nat):Int) * c) ((((if lo<hi then (hi-lo-1) / c+1 else 0:Int).toNat:Nat):Int)-((0:Nat):Int)) c
   rw[e1,e2]
   exact Heap.get?_push_size _ rfl
  ·rw[fr b hb]
   exact I1.fpOk (Nat.le_refl _) (I1.hok.fresh (Nat.le_refl _))
 |false=>
  refine wpAny_pyIter_longrange (IsRange.new ..) hsm ?_
  refine⟨(s.heap.push {cls:=.type "range",data:=.fields #[.int lo t,.int hi u,.int c v]}).objs.size,[(s.heap.push {cls:=.type "range",data:=.fields #[.int lo t,.int hi u,.int c v]}).objs.size],_,_,H,rfl,
   I1.kept (t':=tk) λb o e=>Heap.get?_push_of_some _ e,uW _ lo c (if lo<hi then (hi-lo-1) / c+1 else 0:Int).toNat,?_,λb hb=>?_,q⟩
  ·show IsLongIter _ _ (lo+((0:Nat):Int) * c) ((((if lo<hi then (hi-lo-1) / c+1 else 0:Int).toNat:Nat):Int)-((0:Nat):Int)) c
   rw[e1,e2]
   exact Heap.get?_push_size _ rfl
  ·rw[fr b hb]
   exact I1.fpOk (Nat.le_refl _) (I1.hok.fresh (Nat.le_refl _))
theorem vK{lo c:Int}{n:Nat}:ItV D (ItS lo c n) (λ_ _ _=>True) ((List.range n).map λ(i:Nat)=>T.int (lo+i * c)):=
 ⟨λi φ α H _ hi=>by (show i<n);simpa using hi,λi φ α H v H' t _ hi y=>by
  obtain⟨j,hj,rfl⟩:=Qw (D:=D) (φ:=φ) (α:=α) (H:=H) hi
  rw[WM hj]
  obtain⟨rfl,rfl⟩:=y
  exact⟨λ_ _ z=>z,rfl⟩,λφ α H _=>by show n<=_;simp⟩
theorem WW (C:Ck D W Γ X k) {p0:Pos} (hx:("range":Str)∈Γ.G) (hg:Γ.gl "range"=.none) (ha':noStar a=true) (hb':noStar b=true) (hc':noStar c=true) (ha:PE X a (rdE D W f)) (hb:PE X b (rdE D W g)) (hc:PE X c (rdE D W h)) :
  PI X tg (.Call (.Name "range" p0) [a,b,c] [] pos) (rdI D W (XY f g h)):=by
 have hm:=C.glo _ hx
 rw[hg] at hm
 rintro pins s σ H R I ⟨φ,α,τ,μ,sr,mr,p⟩
 have s3:starEach [a,b,c] X.env=[(false,eval a X.env),(false,eval b X.env),(false,eval c X.env)]:=by
  rw[z7 ha',z7 hb',z7 hc'];rfl
 refine Call_ (vS I (C.glb _ hx) hm boot_range (PyProof.Rows.callWith_type1 (thn (zI ha (zI hb (zI hc qp (z7 hc')) (z7 hb')) (z7 ha') pos pins s σ H (λvs H1=>∃i j l:Int,vs=[.int i,.int j,.int l]/\(0<l/\l<1073741824)/\R (ItS i l (if i<j then (j-i-1) / l+1 else 0:Int).toNat) H1) I ?_) ?_) (z7 ha') (qm (by simp[hb',hc']))))
 ·refine⟨φ,α,τ,μ,sr,mr,p.bind.mono λx μ1 α1 H1 st1 m1 q1 v1 d1=>⟨φ,α1,τ,μ1,sr.step st1,m1,q1.bind.mono λy μ2 α2 H2 st2 m2 q2 v2 d2=>⟨φ,α2,τ,μ2,(sr.step st1).step st2,m2,q2.bind.mono λz μ3 α3 H3 st3 m3 q3 v3 d3=>?_⟩⟩⟩
  cases x with
  |int a=>
   cases y with
   |int b=>
    cases z with
    |int c=>
     have q3:Post D W φ α3 H3 σ _ (RE.grd (inL a/\inL b/\0<c/\c<1073741824) (RE.ok (jv a b c,lvT) μ3)):=q3
     obtain⟨hh,q3⟩:=q3.grd
     have d1:v1=.int _:=d1
     have d2:v2=.int _:=d2
     have d3:v3=.int _:=d3
     subst d1 d2 d3
     exact⟨_,_,_,rfl,hh.2.2,q3.ok (Stp.refl _ _) m3 _ _ vK (λ_ _ _ _ _ _ _=>True.intro) trivial⟩
    |_=>exact Post.elim q3
   |_=>exact Post.elim q3
  |_=>exact Post.elim q3
 ·rintro us s1 ⟨vs,H1,I1,rv,i,j,l,rfl,h3,q⟩
  obtain⟨u1,u2,u3,rfl,r1,r2,r3⟩:=vals3 rv
  obtain⟨t1,rfl⟩:=r1
  obtain⟨t2,rfl⟩:=r2
  obtain⟨t3,rfl⟩:=r3
  exact call_range_3 (by omega) (jy I1 h3.1 q) (.inl (PyProof.noPylong_small (by omega)))
theorem WG (C:Ck D W Γ X k) {p0:Pos} (hx:("range":Str)∈Γ.G) (hg:Γ.gl "range"=.none) (ha':noStar a=true) (hb':noStar b=true) (ha:PE X a (rdE D W f)) (hb:PE X b (rdE D W g)) :
  PI X tg (.Call (.Name "range" p0) [a,b] [] pos) (rdI D W (Qt f g)):=by
 have hm:=C.glo _ hx
 rw[hg] at hm
 rintro pins s σ H R I ⟨φ,α,τ,μ,sr,mr,p⟩
 refine Call_ (vS I (C.glb _ hx) hm boot_range (PyProof.Rows.callWith_type1 (thn (zI ha (zI hb qp (z7 hb')) (z7 ha') pos pins s σ H (λvs H1=>∃i j:Int,vs=[.int i,.int j]/\R (ItS i 1 (if i<j then (j-i-1) / 1+1 else 0:Int).toNat) H1) I ?_) ?_) (by rw[z7 ha',z7 hb']) (by rw[z7 hb'];rfl)))
 ·refine⟨φ,α,τ,μ,sr,mr,p.bind.mono λx μ1 α1 H1 st1 m1 q1 v1 d1=>⟨φ,α1,τ,μ1,sr.step st1,m1,q1.bind.mono λy μ2 α2 H2 st2 m2 q2 v2 d2=>?_⟩⟩
  cases x with
  |int i=>
   cases y with
   |int j=>
    have q2:Post D W φ α2 H2 σ _ (RE.grd (inL i/\inL j) (RE.ok (jv i j 1,lvT) μ2)):=q2
    obtain⟨hh,q2⟩:=q2.grd
    have d1:v1=.int _:=d1
    have d2:v2=.int _:=d2
    subst d1 d2
    exact⟨_,_,rfl,q2.ok (Stp.refl _ _) m2 _ _ vK (λ_ _ _ _ _ _ _=>True.intro) trivial⟩
   |_=>exact Post.elim q2
  |_=>exact Post.elim q2
 ·rintro us s1 ⟨vs,H1,I1,rv,i,j,rfl,q⟩
  cases rv with
  |cons r rr=>
   cases rr with
   |cons r' rr=>
    cases rr
    obtain⟨t,rfl⟩:=r
    obtain⟨t',rfl⟩:=r'
    exact call_range_2 (jy I1 (by omega) q)
theorem V0 (C:Ck D W Γ X k) {p0:Pos} (hx:("range":Str)∈Γ.G) (hg:Γ.gl "range"=.none) (hs:noStar a=true) (ha:PE X a (rdE D W f)) :
  PI X tg (.Call (.Name "range" p0) [a] [] pos) (rdI D W (z0F f)):=by
 have hm:=C.glo _ hx
 rw[hg] at hm
 rintro pins s σ H R I ⟨φ,α,τ,μ,sr,mr,p⟩
 refine Call_ (vS I (C.glb _ hx) hm boot_range (PyProof.Rows.callWith_type1 (thn (zI ha qp (z7 hs) pos pins s σ H (λvs H1=>∃j:Int,vs=[.int j]/\R (ItS 0 1 (if 0<j then (j-0-1) / 1+1 else 0:Int).toNat) H1) I ?_) ?_) (z7 hs) rfl))
 ·refine⟨φ,α,τ,μ,sr,mr,p.bind.mono λt μ' α' H' st m q v d=>?_⟩
  cases t with
  |int n=>
   have d:v=.int _:=d
   subst d
   have q:Post D W φ α' H' σ _ (RE.grd (inL n) (RE.ok (rangeT n,lvT) μ')):=q
   obtain⟨hn,q⟩:=q.grd
   have e2:(if 0<n then (n-0-1) / 1+1 else 0:Int).toNat=n.toNat:=by
    split
    ·rw[Int.ediv_one];congr 1;omega
    ·omega
   have e3:((List.range n.toNat).map λ(i:Nat)=>T.int (0+i * 1))=rangeT n:=by
    unfold rangeT
    refine List.map_congr_left λi _=>?_
    simp
   refine⟨n,rfl,?_⟩
   rw[e2]
   exact q.ok (Stp.refl _ _) m _ _ (e3▸vK) (λ_ _ _ _ _ _ _=>True.intro) trivial
  |_=>exact Post.elim q
 ·rintro us s1 ⟨vs,H1,I1,rv,j,rfl,q⟩
  cases rv with
  |cons r rr=>
   cases rr
   obtain⟨t,rfl⟩:=r
   exact call_range_1 (jy I1 (by omega) q)
noncomputable def idxs (N:List Str):List Expr->Option (List Nat)
 |[]=>some []
 |.Name x _::r=>match idx N x,idxs N r with
  |some i,some is=>some (i::is)
  |_,_=>none
 |_::_=>none
noncomputable def qT (N:List Str):Expr->Option Tg
 |.Name x _=>(idx N x).map Tg.one
 |.Tuple es _ _=>(idxs N es).map Tg.tup
 |_=>none
noncomputable def z6:Expr->List Str
 |.Name x _=>[x]
 |.Tuple es _ _=>es.filterMap λe=>match e with|.Name x _=>some x|_=>none
 |_=>[]
noncomputable def Sto (X:Cx)(S:List Str):Prop:=∀x∈S,Loc X.env.scope x/\(X.fn x=true\/X.env.scope.names.lookup x=some .local)
theorem QS{S N:List Str}(hN:X.N=N)(nd:N.Nodup)(hS:Sto X S):∀{es:List Expr} {is:List Nat} {ts:List T} {τ τ':Sl},(∀e∈es,∀x p,e=.Name x p->x∈S)->idxs N es=some is->uU is ts τ=some τ'->
  ∃t,PGs X es t/\(assignEach es X.env).length=ts.length/\(assignEach es X.env).findIdx? (·.1)=none/\∀{σ:St} {vs:List V} {φ α H} {Q:St->Hp->Prop},SRel D φ α H τ σ->DenL D φ α H ts vs->(∀σ',SRel D φ α H τ' σ'->Q σ' H)->t vs σ H Q
 |[],is,ts,τ,τ',_,h0,h=>by
  simp[idxs] at h0;subst h0
  cases ts with
  |nil=>
   simp[uU] at h;subst h
   exact⟨z0T,Xl,rfl,rfl,λsr l q=>⟨l,q _ sr⟩⟩
  |cons _ _=>simp[uU] at h
 |e::es,is,ts,τ,τ',hn,h0,h=>by
  cases e with
  |Name x p0=>
   simp only[idxs] at h0
   split at h0
   ·rename_i i is' hi his
    cases h0
    cases ts with
    |nil=>simp[uU] at h
    |cons t ts=>
     have h:uU is' ts (k8 τ i (some t))=some τ':=h
     have hx:=hn _ List.mem_cons_self x p0 rfl
     have pg:PG X (.Name x p0) (QF i):=QM (hN▸nd) (by rw[hN];exact qW hi) (hS x hx).1 (hS x hx).2
     obtain⟨u,pgs,hl,hf,hu⟩:=QS hN nd hS (λe he=>hn e (List.mem_cons_of_mem _ he)) his h
     refine⟨Y1 (QF i) u,Vg pg pgs rfl,by simpa[assignEach] using hl,?_,λ{σ vs φ α H Q} sr l k=>?_⟩
     ·have e1:assignEach (.Name x p0::es) X.env=(false,assign (.Name x p0) X.env)::assignEach es X.env:=rfl
      rw[e1,List.findIdx?_cons]
      simp[hf]
     ·obtain⟨v,r,rfl,d,l⟩:=l
      exact⟨v,r,rfl,hu (sr.set d) l k⟩
   ·cases h0
  |_=>simp[idxs] at h0
theorem Z_{S N:List Str}(hN:X.N=N)(nd:N.Nodup)(hS:Sto X S)(hc:X.calm=true){e:Expr}{tgt:Tg}{t:T}{τ τ':Sl}(hn:∀x∈z6 e,x∈S)(h0:qT N e=some tgt)(h:asg tgt t τ=some τ'){v:V}{u:Value}(I:Inv X pins σ H s)(sr:SRel D φ α H τ σ)(d:Den D φ α H t v)(r:RelV v u) :
  wpAny (model X.prog X.w) X.A (assign e X.env u) (λ_ s'=>∃σ',Inv X pins σ' H s'/\SRel D φ α H τ' σ') X.xe s:=by
 cases e with
 |Name x p0=>
  simp only[qT] at h0
  cases q:idx N x with
  |none=>rw[q] at h0;cases h0
  |some i=>
   rw[q] at h0;cases h0
   cases (Option.some.inj h:k8 τ i (some t)=τ')
   have hx:x∈S:=hn x (by simp[z6])
   refine thn (QM (i:=i) (hN▸nd) (by rw[hN];exact qW q) (hS x hx).1 (hS x hx).2 pins s σ H v u (λσ' H'=>H'=H/\σ'=σ.set i (some v)) I r ⟨rfl,rfl⟩) ?_
   rintro _ s1 ⟨σ',H',I1,rfl,rfl⟩
   exact⟨_,I1,sr.set d⟩
 |Tuple es kk p0=>
  simp only[qT] at h0
  cases q:idxs N es with
  |none=>rw[q] at h0;cases h0
  |some is=>
   rw[q] at h0;cases h0
   cases t with
   |tup ts=>
    obtain⟨g,pgs,hl,hf,hu⟩:=QS (D:=D) hN nd hS (λe he x p hx=>hn x (by subst hx;exact List.mem_filterMap.mpr ⟨_,he,rfl⟩)) q h
    obtain⟨ad,xs,rfl,_,_,q,l⟩:=d
    refine thn (YB (k:=kk) (pos:=p0) hc pgs hl hf pins s σ H (.ref ad) u (λσ' H'=>H'=H/\SRel D φ α H τ' σ') I r ⟨ad,xs,rfl,.inl q,l.length.symm,hu sr l λσ' sr'=>⟨rfl,sr'⟩⟩) ?_
    rintro _ s1 ⟨σ',H',I1,rfl,sr'⟩
    exact⟨σ',I1,sr'⟩
   |_=>cases h
 |_=>simp[qT] at h0
end
theorem Kd(env:Env):∀(names:List (Str×NameKind)) (cs:List (Str×Addr)),(∀p∈names,p.2=.free->∃c,env.cells.lookup p.1=some c)->
  ∃cl,(forIn names cs (λ(x:Str×NameKind) r=>if (x.2 == .free)=true then do let a ←cellOf env x.1;pure (ForInStep.yield ((x.1,a)::r)) else pure (ForInStep.yield r)):Sem (List (Str×Addr)))=pure cl/\
   (∀x c,cl.lookup x=some c->cs.lookup x=some c\/(env.cells.lookup x=some c/\∃p∈names,p.1=x/\p.2=.free))/\(∀x c,cs.lookup x=some c->∃c',cl.lookup x=some c')/\∀p∈names,p.2=.free->∃c,cl.lookup p.1=some c:=by
 intro names
 induction names with
 |nil=>intro cs _;exact⟨cs,rfl,λx c h=>.inl h,λx c h=>⟨c,h⟩,λp hp=>absurd hp (by simp)⟩
 |cons p names ih=>
  intro cs h
  rw[List.forIn_cons]
  by_cases hp:p.2=.free
  ·obtain⟨c,hc⟩:=h p List.mem_cons_self hp
   have e:cellOf env p.1=pure c:=by unfold cellOf;rw[hc]
   rw[if_pos (by simp[hp]),e]
   obtain⟨cl,e1,e2,e3,e4⟩:=ih ((p.1,c)::cs) λq hq=>h q (List.mem_cons_of_mem _ hq)
   refine⟨cl,e1,λx c' hx=>?_,λx c' hx=>?_,λq hq hf=>?_⟩
   ·rcases e2 x c' hx with z|⟨z,q,hq,z1,z2⟩
    ·rw[List.lookup_cons] at z
     cases hb:x == p.1 with
     |true=>
      simp[hb] at z
      subst z
      have hb':x=p.1:=by simpa using hb
      exact .inr ⟨by rw[hb'];exact hc,p,List.mem_cons_self,hb'.symm,hp⟩
     |false=>simp[hb] at z;exact .inl z
    ·exact .inr ⟨z,q,List.mem_cons_of_mem _ hq,z1,z2⟩
   ·cases hb:x == p.1 with
    |true=>exact e3 x c (by simp[List.lookup_cons,hb])
    |false=>exact e3 x c' (by simp[List.lookup_cons,hb,hx])
   ·rcases List.mem_cons.mp hq with rfl|hq
    ·exact e3 _ c (by simp[List.lookup_cons])
    ·exact e4 q hq hf
  ·rw[if_neg (by simp[hp])]
   obtain⟨cl,e1,e2,e3,e4⟩:=ih cs λq hq=>h q (List.mem_cons_of_mem _ hq)
   refine⟨cl,e1,λx c' hx=>?_,e3,λq hq hf=>?_⟩
   ·rcases e2 x c' hx with z|⟨z,q,hq,z1,z2⟩
    ·exact .inl z
    ·exact .inr ⟨z,q,List.mem_cons_of_mem _ hq,z1,z2⟩
   ·rcases List.mem_cons.mp hq with rfl|hq
    ·exact absurd hf hp
    ·exact e4 q hq hf
noncomputable def VI(sc:Scope):List Str:=(sc.names.filter λp=>p.2 == .globalImplicit).map (·.1)
noncomputable def frees(sc:Scope):List Str:=(sc.names.filter λp=>p.2 == .free).map (·.1)
theorem wg{sc:Scope}{x:Str}:x∈frees sc↔∃p∈sc.names,p.1=x/\p.2=.free:=by
 unfold frees
 simp only[List.mem_map,List.mem_filter,beq_iff_eq]
 constructor
 ·rintro⟨p,⟨h1,h2⟩,h3⟩;exact⟨p,h1,h3,h2⟩
 ·rintro⟨p,h1,h3,h2⟩;exact⟨p,⟨h1,h2⟩,h3⟩
theorem xF{sc:Scope}{env:Env}(h:∀x∈frees sc,∃c,env.cells.lookup x=some c) :
  ∃cl,closureFor sc env=pure cl/\(∀x c,cl.lookup x=some c->env.cells.lookup x=some c/\x∈frees sc)/\∀x∈frees sc,∃c,cl.lookup x=some c:=by
 obtain⟨cl,e1,e2,e3,e4⟩:=Kd env sc.names [] λp hp hf=>h p.1 (wg.mpr ⟨p,hp,rfl,hf⟩)
 refine⟨cl,?_,λx c hx=>?_,λx hx=>?_⟩
 ·rw[←e1]
  unfold closureFor
  simp
 ·rcases e2 x c hx with z|⟨z,p,hp,z1,z2⟩
  ·simp at z
  ·exact⟨z,wg.mpr ⟨p,hp,z1,z2⟩⟩
 ·obtain⟨p,hp,rfl,hf⟩:=wg.mp hx
  exact e4 p hp hf
section
variable {M:Model}{A:Around}{E:Value->Shared->Prop}{s:Shared}{env:Env}
noncomputable def yU(M:Model)(A:Around)(E:Value->Shared->Prop)(use:Option (Value->Sem Unit))(Q:Value->Shared->Prop)(acc:Value)(ce:Env):Result->Shared->Prop
 |.ok _,t=>(match use with
  |none=>∃m,t.heap.Ns ce.locals m/\∀g,Heap.SameBut ce.locals t.heap g->Q acc {t with heap:=g}
  |some u=>wpAny M A (u acc) (λ_ t2=>∃m,t2.heap.Ns ce.locals m/\∀g,Heap.SameBut ce.locals t2.heap g->Q .none {t2 with heap:=g}) E t)
 |.error x,t=>∃m,t.heap.Ns ce.locals m/\∀g,Heap.SameBut ce.locals t.heap g->wpAny M A (passOn "comprehension.variables-let-go" x ce:Sem Value) (λ_ _=>False) E {t with heap:=g}
theorem X3{e:Expr}{sc:Scope}{pos:Pos}{mk fst:Sem Value}{g:Comprehension}{gs:List Comprehension}{cl:List (Str×Addr)}{use:Option (Value->Sem Unit)}{Q:Value->Shared->Prop}
  (h1:clausesOf e=g::gs) (h2:∀x,foldedSetIterable g.iter env x=pure x) (h3:closureFor sc env=pure cl) (h4:sc.kind=.function) (h5:∀x∈sc.names,x.2=.local->sc.names.lookup x.1=some .local)
  (h:wpAny M A fst (λx t1=>wpAny M A (pyIter x) (λit t2=>wpAny M A mk (λacc t3=>wpAny M A (newFunctionEnv sc env.globals cl [] env.qual none .none (some env)) (λce t4=>
    codeAny M A (.compStart e 0 it acc {ce with scope:=relabel sc env}) (yU M A E use Q acc {ce with scope:=relabel sc env}) t4) E t3) E t2) E t1) E s) :
  wpAny M A (comprehension e sc env pos mk false fst use) Q E s:=by
 unfold comprehension
 rw[h3,h1]
 have id2:∀(x:Value) (t:Shared),E x t->E x t:=λ_ _ z=>z
 refine wpAny_bind (wpAny_mono h (λx t1 q1=>?_) id2)
 refine wpAny_bind (wpAny_standAt (wpAny_bind (wpAny_of_eq (h2 x) (wpAny_bind (wpAny_holding (wpAny_mono q1 (λit t2 q2=>?_) id2))))))
 refine wpAny_standIf (wpAny_bind (wpAny_mono q2 (λacc t3 q3=>?_) id2))
 refine wpAny_bind (wpAny_pure (wpAny_bind (wpAny_mono q3 (λce t4 q4=>?_) id2)))
 dsimp only
 have lc:∀y∈(sc.names.filter λx=>(x.2 == .local || x.2 == .cell)&&x.1 != (".0":Str)),y.2=.local->Env.kindOf {ce with scope:=relabel sc env} y.1=some .local:=
  λy hy hl=>lookup_relabel_local (h5 y (List.mem_filter.mp hy).1 hl)
 have lr:∀y∈(sc.names.filter λx=>(x.2 == .local || x.2 == .cell)&&x.1 != (".0":Str)).reverse,y.2=.local->Env.kindOf {ce with scope:=relabel sc env} y.1=some .local:=
  λy hy=>lc y (List.mem_reverse.mp hy)
 refine wpAny_holding (wpAny_bind (wpAny_attempt (wpAny_holding (wpAny_run (codeAny_mono q4 λr t5 q5=>?_)))))
 cases r with
 |error x=>
  obtain⟨m,hn,q6⟩:=q5
  refine wpAny_bind (wpAny_holding (wpAny_comp_letGo (cenv:={ce with scope:=relabel sc env}) h4 _ t5 m lr hn λg m' _ sb=>?_))
  exact wpAny_mono (q6 g sb) (λ_ _ z=>z.elim) id2
 |ok f=>
  cases use with
  |none=>
   obtain⟨m,hn,q6⟩:=q5
   exact wpAny_bind (wpAny_holding (wpAny_comp_letGo (cenv:={ce with scope:=relabel sc env}) h4 _ t5 m lr hn λg m' _ sb=>wpAny_pure (q6 g sb)))
  |some u=>
   refine wpAny_bind (wpAny_rule (wpAny_bind (wpAny_holding (wpAny_mono q5 (λ_ t6 q6=>?_) id2))))
   obtain⟨m,hn,q6⟩:=q6
   refine wpAny_bind (wpAny_comp_letGo (cenv:={ce with scope:=relabel sc env}) h4 _ t6 m (λy hy=>?_) hn λg m' _ sb=>wpAny_pure (q6 g sb))
   rcases List.mem_append.mp hy with z|z
   ·exact lr y (List.mem_of_mem_drop z)
   ·exact lr y (List.mem_of_mem_take z)
end
section
variable {prog:Program}{w:World}{A:Around}{R:Result->Shared->Prop}{s:Shared}
theorem Va(elt target iter:Expr)(ifs:List Expr)(scope:Scope)(pos:Pos)(it acc:Value)(env:Env) :
  compTurn (.ListComp elt [⟨target,iter,ifs,0⟩] scope pos) 0 it acc env=(standAt iter.pos >>= λ_=>pyNext it >>= λr=>match r with
   |none=>pure (.done .next)
   |some v=>letOwnedTupleGo target it v >>= λ_=>assign target env v >>= λ_=>
    (forIn ifs true λc s=>if s=true then isTrue c env (eval c env) >>= λok=>pure (ForInStep.yield ok) else pure (ForInStep.yield s)) >>= λok=>
     if ok=true then (eval elt env >>= λx=>call (.builtin "list.append") [acc,x] >>= λ_=>pure ()) >>= λ_=>
      again (.compLoop (.ListComp elt [⟨target,iter,ifs,0⟩] scope pos) 0 it acc env)
     else again (.compLoop (.ListComp elt [⟨target,iter,ifs,0⟩] scope pos) 0 it acc env)):=by rfl
noncomputable def jC(M:Model)(A:Around)(env:Env)(E:Value->Shared->Prop):List Expr->(Bool->Shared->Prop)->Shared->Prop
 |[],Q,s=>Q true s
 |c::cs,Q,s=>wpAny M A (isTrue c env (eval c env)) (λb s1=>if b=true then jC M A env E cs Q s1 else Q false s1) E s
theorem ye{M:Model}{env:Env}{E:Value->Shared->Prop}{Q:Bool->Shared->Prop}:∀(cs:List Expr) {s:Shared},Q false s->
  wpAny M A (forIn cs false λc s=>if s=true then isTrue c env (eval c env) >>= λok=>pure (ForInStep.yield ok) else pure (ForInStep.yield s)) Q E s
 |[],s,h=>wpAny_pure h
 |c::cs,s,h=>by
  rw[List.forIn_cons]
  refine wpAny_bind ?_
  rw[if_neg (by decide)]
  exact wpAny_pure (ye cs h)
theorem uM{M:Model}{env:Env}{E:Value->Shared->Prop}{Q:Bool->Shared->Prop}:∀(cs:List Expr) {s:Shared},jC M A env E cs Q s->
  wpAny M A (forIn cs true λc s=>if s=true then isTrue c env (eval c env) >>= λok=>pure (ForInStep.yield ok) else pure (ForInStep.yield s)) Q E s
 |[],s,h=>wpAny_pure h
 |c::cs,s,h=>by
  rw[List.forIn_cons]
  refine wpAny_bind ?_
  rw[if_pos rfl]
  refine wpAny_bind (thn h λb s1 h1=>wpAny_pure ?_)
  cases b with
  |true=>rw[if_pos rfl] at h1;exact uM cs h1
  |false=>rw[if_neg (by decide)] at h1;exact ye cs h1
theorem WR{elt target iter:Expr}{ifs:List Expr}{scope:Scope}{pos:Pos}{it acc:Value}{env:Env}(I:Nat->Shared->Prop)
  (turn:∀n s,I n s->wpAny (model prog w) A (pyNext it) (λr s₁=>match r with
   |none=>R (.ok .next) s₁
   |some v=>wpAny (model prog w) A (letOwnedTupleGo target it v) (λ_ s₂=>wpAny (model prog w) A (assign target env v) (λ_ s₃=>jC (model prog w) A env (notedBy (model prog w) A env λx s'=>R (.error x) s') ifs (λb s₄=>
     if b=true then wpAny (model prog w) A (eval elt env) (λx s₅=>wpAny (model prog w) A (call (.builtin "list.append") [acc,x]) (λ_ s₆=>∃m,m<n/\I m s₆) (λ_ _=>False) s₅) (notedBy (model prog w) A env λx s'=>R (.error x) s') s₄ else ∃m,m<n/\I m s₄) s₃) (λ_ _=>False) s₂) (λ_ _=>False) s₁) (λ_ _=>False) s)
  (n:Nat) (h:I n s):codeAny (model prog w) A (.compLoop (.ListComp elt [⟨target,iter,ifs,0⟩] scope pos) 0 it acc env) R s:=by
 refine codeAny_loop rfl I (λn s hI=>?_) n h
 show wpAny _ _ ((compTurn (.ListComp elt [⟨target,iter,ifs,0⟩] scope pos) 0 it acc env).onRaise (λx=>do noteFrame x env;theTreesLotGoes x)) _ _ s
 refine wpAny_noted ?_
 rw[Va]
 have nx:∀{α:Type} {t:Sem α} {Q:α->Shared->Prop} {s:Shared} {N:Value->Shared->Prop},wpAny (model prog w) A t Q (λ_ _=>False) s->wpAny (model prog w) A t Q N s:=λh=>wpAny_mono h (λ_ _ q=>q) λ_ _ z=>z.elim
 refine wpAny_bind (wpAny_standAt (wpAny_bind (nx (thn (turn n s hI) λr s₁ h₁=>?_))))
 cases r with
 |none=>exact wpAny_pure h₁
 |some v=>
  refine wpAny_bind (nx (thn h₁ λ_ s₂ h₂=>?_))
  refine wpAny_bind (nx (thn h₂ λ_ s₃ h₃=>?_))
  refine wpAny_bind (thn (uM ifs h₃) λb s₄ h₄=>?_)
  cases b with
  |true=>
   rw[if_pos rfl] at h₄ ⊢
   exact wpAny_bind (wpAny_bind (thn h₄ λx s₅ h₅=>wpAny_bind (nx (thn h₅ λ_ s₆ h₆=>wpAny_pure (wpAny_pure ⟨rfl,h₆⟩)))))
  |false=>
   rw[if_neg (by decide)] at h₄ ⊢
   exact wpAny_pure ⟨rfl,h₄⟩
end
noncomputable abbrev noW:XW:=λ_ _ _ _=>False
noncomputable def cxC (X:Cx)(N:List Str)(sc:Scope)(cl:List (Str×Addr))(C0:Addr)(s3:Shared)(H3:Hp)(fp:List Addr):Cx:=
 {X with N:=N,s₀:=s3,H₀:=H3,env:=compEnvC sc cl C0 X.env,outer:=X.stack,ex:=fp,fn:=λ_=>false,pn:=[],xe:=λ_ _=>False}
noncomputable def Q3(N cel:List Str)(tg:Expr)(sc:Scope):Bool:=
 (sc.kind == .function)&&sc.names.all (λp=>p.2 != .cell)&&sc.names.all (λp=>p.2 != .local || sc.names.lookup p.1 == some .local)&&
 (z6 tg).all (λx=>sc.names.lookup x == some .local&&x != ("__debug__":Str)&&x != ("__classdict__":Str))&&(frees sc).all (λx=>(idx N x).isSome&&sc.names.lookup x == some .free&&cel.contains x&&x != ("__debug__":Str)&&x != ("__classdict__":Str))&&decide ((z6 tg++frees sc).Nodup)&&
 (VI sc).all (λx=>sc.names.lookup x == some .globalImplicit)
structure CompOk(N cel:List Str)(tg:Expr)(sc:Scope):Prop where
 kind:sc.kind=.function
 noc:∀p∈sc.names,p.2≠.cell
 lcl:∀p∈sc.names,p.2=.local->sc.names.lookup p.1=some .local
 own:∀x∈z6 tg,sc.names.lookup x=some .local/\(x == ("__debug__":Str))=false/\(x == ("__classdict__":Str))=false
 fre:∀x∈frees sc,(∃i,idx N x=some i)/\sc.names.lookup x=some .free/\x∈cel/\(x == ("__debug__":Str))=false/\(x == ("__classdict__":Str))=false
 nd:(z6 tg++frees sc).Nodup
 glb:∀x∈VI sc,sc.names.lookup x=some .globalImplicit
theorem WC{N cel:List Str}{tg:Expr}{sc:Scope}(h:Q3 N cel tg sc=true):CompOk N cel tg sc:=by
 unfold Q3 at h
 simp only[Bool.and_eq_true,List.all_eq_true,beq_iff_eq,bne_iff_ne,Bool.or_eq_true,decide_eq_true_eq,List.contains_iff_mem,Option.isSome_iff_exists,ne_eq] at h
 obtain⟨⟨⟨⟨⟨⟨h1,h2⟩,h3⟩,h4⟩,h5⟩,h6⟩,h7⟩:=h
 refine⟨h1,h2,λp hp hl=>?_,λx hx=>?_,λx hx=>?_,h6,h7⟩
 ·rcases h3 p hp with z|z
  ·exact absurd hl z
  ·exact z
 ·obtain⟨⟨a,b⟩,c⟩:=h4 x hx
  exact⟨a,by simpa using b,by simpa using c⟩
 ·obtain⟨⟨⟨⟨a,b⟩,c⟩,d⟩,e⟩:=h5 x hx
  exact⟨a,b,c,by simpa using d,by simpa using e⟩
theorem zR{env:Env}{x:Str}:∀{names:List (Str×NameKind)} {kd:NameKind},names.lookup x=some kd->
  (names.map λ(n,k)=>if (k == NameKind.free&&env.scope.kind == .function&&env.kindOf n == some .cell) then (n,NameKind.cell) else (n,k)).lookup x=some (if (kd == NameKind.free&&env.scope.kind == .function&&env.kindOf x == some .cell) then .cell else kd)
 |[],_,h=>by simp at h
 |(n,k)::r,kd,h=>by
  have ih:=@zR env x r kd
  rw[List.map_cons]
  rw[List.lookup_cons] at h
  cases hx:x == n with
  |true=>
   have hx':x=n:=by simpa using hx
   subst hx'
   simp at h
   subst h
   dsimp only
   split<;>simp_all[List.lookup_cons]
  |false=>
   simp only[hx] at h
   dsimp only
   split
   ·rw[List.lookup_cons];simp only[hx];exact ih h
   ·rw[List.lookup_cons];simp only[hx];exact ih h
section
variable {X:Cx}{D:DP}{W:XW}{Γ:Cn}{k:Nat}{pins:List (Addr×Obj)}{s2:Shared}{σ:St}{H2:Hp}{φ α:List Addr}{τ:Sl}{μ:Mem}{tg:Expr}{sc:Scope}{cl:List (Str×Addr)}{fp:List Addr}
noncomputable def Zl (N:List Str)(σ:St)(fs:List Str):St:=fs.map λx=>(idx N x).bind λi=>(σ[i]?).join
noncomputable def vp (N:List Str):List Str->Option (List Nat)
 |[]=>some []
 |x::r=>match idx N x,vp N r with
  |some i,some is=>some (i::is)
  |_,_=>none
theorem yN:∀(n:Nat) {fs:List Nat} {τ:Sl},blk n fs τ=List.replicate n none++ZA fs τ
 |0,_,_=>rfl
 |n+1,fs,τ=>by
  show none::blk n fs τ=_
  rw[yN n];rfl
theorem xl:∀{fs:List Nat} {τ:Sl},(ZA fs τ).length=fs.length
 |[],_=>rfl
 |i::r,τ=>by show (ZA r τ).length+1=_;rw[xl];rfl
theorem kX:∀{N xs:List Str} {fs:List Nat},vp N xs=some fs->fs.length=xs.length
 |N,[],fs,h=>by cases h;rfl
 |N,x::r,fs,h=>by
  simp only[vp] at h
  split at h
  ·rename_i i is h1 h2
   cases h
   simp[kX h2]
  ·cases h
theorem Zi{N:List Str}{H:Hp}(sr:SRel D φ α H τ σ):∀{xs:List Str} {fs:List Nat},vp N xs=some fs->∀(j:Nat) (t:T),(ZA fs τ)[j]?=some (some t)->∃v,(Zl N σ xs)[j]?=some (some v)/\Den D φ α H t v
 |[],fs,h,j,t,e=>by cases h;simp[ZA] at e
 |x::r,fs,h,j,t,e=>by
  simp only[vp] at h
  split at h
  ·rename_i i is h1 h2
   cases h
   cases j with
   |zero=>
    have e:some (uT τ i)=some (some t):=e
    obtain⟨v,hv,d⟩:=sr.get (Option.some.inj e)
    exact⟨v,by simp[Zl,h1,hv],d⟩
   |succ j=>
    have e:(ZA is τ)[j]?=some (some t):=e
    obtain⟨v,hv,d⟩:=Zi sr h2 j t e
    exact⟨v,by simpa[Zl] using hv,d⟩
  ·cases h
theorem Kx{N:List Str}{H:Hp}{ns xs:List Str}{fs:List Nat}(sr:SRel D φ α H τ σ)(h:vp N xs=some fs):SRel D φ α H (blk ns.length fs τ) (ns.map (λ_=>none)++Zl N σ xs):=by
 rw[yN]
 refine⟨by simp[xl,kX h,Zl],λj t e=>?_⟩
 rcases Nat.lt_or_ge j ns.length with hj|hj
 ·rw[List.getElem?_append_left (by simpa using hj),List.getElem?_replicate] at e
  split at e<;>cases e
 ·rw[List.getElem?_append_right (by simpa using hj)] at e
  rw[List.getElem?_append_right (by simpa using hj)]
  simp only[List.length_map,List.length_replicate] at e ⊢
  exact Zi sr h _ t e
theorem ZQ(C:Ck D W Γ X k)(ok:CompOk Γ.N Γ.cel tg sc)(I2:Inv X pins σ H2 s2)(hf:∀b∈fp,yS X pins H2 b)(hfo:∀b∈fp,∃o,s2.heap.get? b=some o)(hcl:∀x c,cl.lookup x=some c->X.env.cells.lookup x=some c/\x∈frees sc)(hcl2:∀x∈frees sc,∃c,cl.lookup x=some c)
  {h1:Heap} (hns:h1.Ns (s2.heap.objs.size+1) (λ_=>none)) (hsb:Heap.SameBut (s2.heap.objs.size+1) ((s2.heap.push {cls:=.type "list",data:=.seq ([]:List Value).toArray}).push {cls:=.type "dict",data:=.dict #[]}) h1) {tk:Nat} :
  Inv X pins σ (upd H2 s2.heap.objs.size (.lst [])) {s2 with heap:=s2.heap.push {cls:=.type "list",data:=.seq ([]:List Value).toArray}}/\
  Inv (cxC X (z6 tg++frees sc) sc cl (s2.heap.objs.size+1) {s2 with heap:=s2.heap.push {cls:=.type "list",data:=.seq ([]:List Value).toArray}} (upd H2 s2.heap.objs.size (.lst [])) fp) []
   ((z6 tg).map (λ_=>none)++Zl Γ.N σ (frees sc)) (upd H2 s2.heap.objs.size (.lst [])) {s2 with heap:=h1,toks:=tk}:=by
 have I3:Inv X pins σ (upd H2 s2.heap.objs.size (.lst [])) {s2 with heap:=s2.heap.push {cls:=.type "list",data:=.seq ([]:List Value).toArray}}:=I2.lnew (its:=[]) (t':=s2.toks) .nil (by simp)
 refine⟨I3,?_⟩
 generalize hA:s2.heap.push {cls:=.type "list",data:=.seq ([]:List Value).toArray}=HA at hsb I3 ⊢
 have szA:HA.objs.size=s2.heap.objs.size+1:=by rw[←hA,Heap.size_push]
 have old:∀b o,HA.get? b=some o->h1.get? b=some o:=λb o e=>hsb.extBut b o (by rw[←szA];exact Nat.ne_of_lt (Heap.lt_size e)) (Heap.get?_push_of_some _ e)
 have fresh:(upd H2 s2.heap.objs.size (.lst [])) (s2.heap.objs.size+1)=none:=by rw[←szA];exact I3.hok.fresh (Nat.le_refl _)
 have kindC:∀x∈frees sc,(cxC X (z6 tg++frees sc) sc cl (s2.heap.objs.size+1) {s2 with heap:=HA} (upd H2 s2.heap.objs.size (.lst [])) fp).env.kindOf x=some .cell\/(cxC X (z6 tg++frees sc) sc cl (s2.heap.objs.size+1) {s2 with heap:=HA} (upd H2 s2.heap.objs.size (.lst [])) fp).env.kindOf x=some .free:=λx hx=>by
  have:=zR (env:=X.env) (ok.fre x hx).2.1
  show (relabel sc X.env).names.lookup x=some .cell\/(relabel sc X.env).names.lookup x=some .free
  unfold relabel
  dsimp only
  rw[this]
  split
  ·exact .inl rfl
  ·exact .inr rfl
 refine⟨⟨I2.ok.mod,ok.kind,I2.ok.glob,I2.ok.blt,?_,?_,?_,λx c h=>absurd h (by simp[cxC]),I2.ok.hd,I2.ok.frames,.inl rfl,?_,?_,?_,?_,?_,?_,?_⟩,rfl,I2.bare,Un.kept old,⟨_,hns,?_⟩,?_,fresh,?_,λp hp=>absurd hp (by simp[cxC]),I3.hok.kept old,?_⟩
 ·show HA.objs.size<=s2.heap.objs.size+1
  omega
 ·intro x y c h1 h2
  exact I2.ok.inj x y c (hcl x c h1).1 (hcl y c h2).1
 ·intro x hx
  have hx':(relabel sc X.env).names.lookup x=some .cell\/(relabel sc X.env).names.lookup x=some .free:=hx
  by_cases hm:x∈frees sc
  ·exact hcl2 x hm
  ·exfalso
   cases q:sc.names.lookup x with
   |none=>
    have:(relabel sc X.env).names.lookup x=none:=by
     unfold relabel
     dsimp only
     rw[List.lookup_eq_none_iff] at q ⊢
     intro p hp
     obtain⟨p0,hp0,rfl⟩:=List.mem_map.mp hp
     have:=q p0 hp0
     try dsimp only
     split<;>exact this
    rw[this] at hx'
    rcases hx' with z|z<;>cases z
   |some kd=>
    have hr:=zR (env:=X.env) q
    have hx2:=hx'
    unfold relabel at hx2
    dsimp only at hx2
    rw[hr] at hx2
    have hmem:(x,kd)∈sc.names:=PySem.mem_of_lookup q
    by_cases hkf:kd=.free
    ·exact hm (wg.mpr ⟨_,hmem,rfl,hkf⟩)
    ·have e:(kd == NameKind.free)=false:=by simpa using hkf
     rw[e] at hx2
     simp only[Bool.false_and,Bool.false_eq_true,if_false,Option.some.injEq] at hx2
     rcases hx2 with z|z
     ·exact ok.noc _ hmem z
     ·exact hkf z
 ·intro b hb
  obtain⟨f0,f1,f2,f3,f4,f5⟩:=hf b hb
  obtain⟨o,ho⟩:=hfo b hb
  refine⟨?_,λx c h=>f4 x c (hcl x c h).1⟩
  show b≠s2.heap.objs.size+1
  exact Nat.ne_of_lt (Nat.lt_succ_of_lt (Heap.lt_size ho))
 ·intro b o e
  exact I3.bs b o e
 ·exact Nat.le_trans I3.ok.bsz I3.sz
 ·intro b o e hb
  obtain⟨f0,f1,f2,f3,f4,f5⟩:=hf b hb
  rcases f3 with z|z
  ·exact I2.ok.noex b o e z
  ·exact absurd (Nat.lt_of_lt_of_le (Heap.lt_size e) (Nat.le_trans I2.ok.bsz z)) (Nat.lt_irrefl _)
 ·intro b hb hfs
  obtain⟨f0,f1,f2,f3,f4,f5⟩:=hf b hb
  rcases List.mem_cons.mp (I2.stkSub b hfs) with z|z
  ·exact f1 z
  ·exact f2 z
 ·exact I3.stack
 ·intro b hb
  exact I3.stkFree b hb
 ·intro i x v hN hσ hv
  obtain⟨m,hn,hl⟩:=I2.loc
  by_cases hi:i<(z6 tg).length
  ·exfalso
   rw[List.getElem?_append_left (by simpa using hi),List.getElem?_map] at hσ
   cases q:(z6 tg)[i]? with
   |none=>rw[q] at hσ;cases hσ
   |some y=>rw[q] at hσ;cases hσ
  ·have hN':(frees sc)[i-(z6 tg).length]?=some x:=by
    have:(z6 tg++frees sc)[i]?=some x:=hN
    rwa[List.getElem?_append_right (by omega)] at this
   rw[List.getElem?_append_right (by simpa using hi)] at hσ
   simp only[List.length_map] at hσ
   unfold Zl at hσ
   rw[List.getElem?_map,hN'] at hσ
   simp only[Option.map_some,Option.some.injEq] at hσ
   have hx:x∈frees sc:=List.mem_of_getElem? hN'
   obtain⟨⟨j,hj⟩,_,hcelm,_⟩:=ok.fre x hx
   rw[hj] at hσ
   simp only[Option.bind_some] at hσ
   cases u:σ[j]? with
   |none=>rw[u] at hσ;cases hσ
   |some o=>
    rw[u] at hσ
    simp only[Option.join_some] at hσ
    subst hσ
    obtain⟨w,rw',lk⟩:=hl j x v (by rw[C.hN];exact qW hj) u (C.vis x (qH hj))
    refine⟨w,rw',.inr ⟨kindC x hx,?_⟩⟩
    have kx:=C.cel x hcelm
    rcases lk with⟨z,_⟩|⟨_,c,hc,hcell⟩
    ·rw[z] at kx
     rcases kx with kx|kx<;>cases kx
    ·obtain⟨c',hc'⟩:=hcl2 x hx
     have:=(hcl x c' hc').1
     rw[hc] at this
     cases this
     refine⟨c,hc',?_⟩
     obtain⟨oc,ho,hd⟩:=hcell
     exact⟨oc,old c oc (by rw[←hA];exact Heap.get?_push_of_some _ ho),hd⟩
 ·intro x c h
  obtain⟨v,oc,ho,hd⟩:=I2.cell x c (hcl x c h).1
  exact⟨v,oc,old c oc (by rw[←hA];exact Heap.get?_push_of_some _ ho),hd⟩
 ·intro x c h
  exact (I3.freeC x c (hcl x c h).1).imp id λz=>⟨rfl,z.2⟩
 ·show _=(z6 tg++frees sc).length
  simp[Zl]
end
section
variable {X:Cx}{D:DP}{W:XW}{Γ:Cn}{k:Nat}{pins:List (Addr×Obj)}{s:Shared}{σ:St}{H:Hp}{φ α:List Addr}{τ:Sl}{μ:Mem}{tg iter elt:Expr}{sc:Scope}{fp:List Addr}{pos pos':Pos}
noncomputable def inComp(Γ:Cn)(tg:Expr)(sc:Scope):Cn:={Γ with N:=z6 tg++frees sc,G:=(VI sc).filter Γ.U.contains,cel:=frees sc,lam:=none}
theorem K4{W':XW}{pn:List (Addr×Obj)}{xe:Value->Shared->Prop}(C:Ck D W Γ X k)(ok:CompOk Γ.N Γ.cel tg sc){cl:List (Str×Addr)}{C0:Addr}{s3:Shared}{H3:Hp}
  (hxe:∀e s,XP {(cxC X (z6 tg++frees sc) sc cl C0 s3 H3 fp) with pn:=pn,xe:=xe} W' e s->xe e s):Ck D W' (inComp Γ tg sc) {(cxC X (z6 tg++frees sc) sc cl C0 s3 H3 fp) with pn:=pn,xe:=xe} k:=by
 have kindC:∀x∈frees sc,(relabel sc X.env).names.lookup x=some .cell\/(relabel sc X.env).names.lookup x=some .free:=λx hx=>by
  have:=zR (env:=X.env) (ok.fre x hx).2.1
  unfold relabel
  dsimp only
  rw[this]
  split
  ·exact .inl rfl
  ·exact .inr rfl
 have other:∀{x kd},sc.names.lookup x=some kd->kd≠.free->(relabel sc X.env).names.lookup x=some kd:=λ{x kd} h hk=>by
  have:=zR (env:=X.env) h
  unfold relabel
  dsimp only
  rw[this]
  have e:(kd == NameKind.free)=false:=by simpa using hk
  simp[e]
 refine⟨C.hK,rfl,ok.nd,λx hx=>?_,λx hx=>?_,λx hx=>?_,λx hx=>?_,λx hx=>?_,C.glU,kindC,C.isi,C.fld,C.xcx,C.ocx,C.clv,C.clm,C.rom,C.rmh,hxe,?_,LamOk.no rfl,λh=>by cases h⟩
 ·rcases List.mem_append.mp hx with h|h
  ·exact .inl (other (ok.own x h).1 (by decide))
  ·rcases kindC x h with z|z
   ·exact .inr (.inl z)
   ·exact .inr (.inr z)
 ·rcases List.mem_append.mp hx with h|h
  ·exact (ok.own x h).2
  ·exact (ok.fre x h).2.2.2
 ·exact (C.glU x (by have:=(List.mem_filter.mp hx).2;simpa using this)).2
 ·exact other (ok.glb x (List.mem_filter.mp hx).1) (by decide)
 ·exact (C.glU x (by have:=(List.mem_filter.mp hx).2;simpa using this)).1
 ·obtain⟨e0,out,L,F⟩:=C.frm
  exact⟨e0,out,L,⟨F.stk,F.f0,F.fe⟩⟩
theorem Jp(ok:CompOk Γ.N Γ.cel tg sc){cl:List (Str×Addr)}{C0:Addr}{s3:Shared}{H3:Hp}:Sto (cxC X (z6 tg++frees sc) sc cl C0 s3 H3 fp) (z6 tg):=λx hx=>by
 have e:=zR (env:=X.env) (ok.own x hx).1
 have e':(relabel sc X.env).names.lookup x=some .local:=by
  unfold relabel
  dsimp only
  rw[e]
  rfl
 exact⟨.inl e',.inr e'⟩
theorem ZJ{M:List Str}{x:Str}:∀{L:List Str} {i:Nat},x∈L->idx (L++M) x=some i->i<L.length
 |[],_,h,_=>absurd h (by simp)
 |y::L,i,h,e=>by
  rw[List.cons_append] at e
  simp only[idx] at e
  split at e
  ·cases e;simp
  ·rename_i hn
   have hm:x∈L:=(List.mem_cons.mp h).resolve_left λz=>hn z.symm
   cases q:idx (L++M) x with
   |none=>rw[q] at e;cases e
   |some j=>rw[q] at e;cases e;simpa using ZJ hm q
theorem yn{n i:Nat}{t:Option T}{τ:Sl}(h:i<n):∀j,n<=j->(k8 τ i t)[j]?=τ[j]?:=λj hj=>by
 rw[uk,List.getElem?_set_ne (by omega)]
theorem yh{L M:List Str}:∀{es:List Expr} {is:List Nat} {ts:List T} {τ τ':Sl},(∀e∈es,∀x p,e=.Name x p->x∈L)->idxs (L++M) es=some is->uU is ts τ=some τ'->∀j,L.length<=j->τ'[j]?=τ[j]?
 |[],is,ts,τ,τ',_,h0,h=>by
  cases h0
  cases ts with
  |nil=>cases h;exact λ_ _=>rfl
  |cons _ _=>cases h
 |e::es,is,ts,τ,τ',hn,h0,h=>by
  cases e with
  |Name x p0=>
   simp only[idxs] at h0
   split at h0
   ·rename_i i is' hi his
    cases h0
    cases ts with
    |nil=>cases h
    |cons t ts=>
     intro j hj
     rw[yh (λe he=>hn e (List.mem_cons_of_mem _ he)) his (show uU is' ts (k8 τ i (some t))=some τ' from h) j hj]
     exact yn (ZJ (hn _ List.mem_cons_self x p0 rfl) hi) j hj
   ·cases h0
  |_=>simp[idxs] at h0
theorem VP{M:List Str}{e:Expr}{tgt:Tg}{t:T}{τ τ':Sl}(h0:qT (z6 e++M) e=some tgt)(h:asg tgt t τ=some τ'):∀j,(z6 e).length<=j->τ'[j]?=τ[j]?:=by
 cases e with
 |Name x p0=>
  simp only[qT] at h0
  cases q:idx (z6 (.Name x p0)++M) x with
  |none=>rw[q] at h0;cases h0
  |some i=>
   rw[q] at h0;cases h0
   cases (Option.some.inj h:k8 τ i (some t)=τ')
   exact yn (ZJ (by simp[z6]) q)
 |Tuple es kk p0=>
  simp only[qT] at h0
  cases q:idxs (z6 (.Tuple es kk p0)++M) es with
  |none=>rw[q] at h0;cases h0
  |some is=>
   rw[q] at h0;cases h0
   cases t with
   |tup ts=>exact yh (λe he x p hx=>by subst hx;exact List.mem_filterMap.mpr ⟨_,he,rfl⟩) q h
   |_=>cases h
 |_=>simp[qT] at h0
noncomputable def Zy (X:Cx)(D:DP)(W:XW):List Expr->List Dt->Prop
 |[],[]=>True
 |e::es,f::fs=>PT X e (rdT D W f)/\Zy X D W es fs
 |_,_=>False
theorem VX{M:Model}{A:Around}{β:Type}{R:β->Mem->List Addr->Hp->Prop}{fe:De}{kk:Option T->Mem->RE β}{Qf:Bool->Shared->Prop}:∀{cs:List Expr} {fs:List Dt} {s:Shared} {H:Hp} {α:List Addr} {μ:Mem},Zy X D W cs fs->Inv X pins σ H s->SRel D φ α H τ σ->MRel D φ α H μ->Post D W φ α H σ R ((kc fs fe τ μ).bind kk)->
  (∀s' H' α' μ',Inv X pins σ H' s'->Stp α H α' H'->SRel D φ α' H' τ σ->MRel D φ α' H' μ'->Post D W φ α' H' σ R ((fe τ μ').bind λy μ1=>kk (some y) μ1)->Qf true s')->
  (∀s' H' α' μ',Inv X pins σ H' s'->Stp α H α' H'->SRel D φ α' H' τ σ->MRel D φ α' H' μ'->Post D W φ α' H' σ R (kk none μ')->Qf false s')->
  jC (model X.prog X.w) X.A X.env X.xe cs Qf s
 |[],[],s,H,α,μ,_,I,sr,mr,p,h1,_=>h1 s H α μ I (Stp.refl _ _) sr mr p
 |[],_::_,_,_,_,_,h,_,_,_,_,_,_=>h.elim
 |_::_,[],_,_,_,_,h,_,_,_,_,_,_=>h.elim
 |c::cs,f::fs,s,H,α,μ,h,I,sr,mr,p,h1,h2=>by
  have p:Post D W φ α H σ R ((f τ μ).bind λb μ1=>(RE.br b (kc fs fe τ μ1) (.ok none μ1)).bind kk):=p
  refine thn (z0K h.1 I sr mr p) ?_
  rintro b s1 ⟨H1,μ1,α1,I1,st1,sr1,mr1,p1⟩
  cases b with
  |true=>
   rw[if_pos rfl]
   exact VX (M:=M) (A:=A) h.2 I1 sr1 mr1 p1 (λs' H' α' μ' a b=>h1 s' H' α' μ' a (st1.trans b)) (λs' H' α' μ' a b=>h2 s' H' α' μ' a (st1.trans b))
  |false=>
   rw[if_neg (by decide)]
   exact h2 s1 H1 α1 μ1 I1 st1 sr1 mr1 p1
end
section
variable {X:Cx}{D:DP}{W:XW}{Γ:Cn}{k:Nat}{pins:List (Addr×Obj)}{s:Shared}{σ:St}{H:Hp}{φ α:List Addr}{τ:Sl}{μ:Mem}{tg iter elt:Expr}{sc:Scope}{fp:List Addr}{pos pos':Pos}
theorem jY{M:Model}{A:Around}{env:Env}{E E':Value->Shared->Prop}{Q:Bool->Shared->Prop}(h:∀e s,E e s->E' e s):∀{cs:List Expr} {s:Shared},jC M A env E cs Q s->jC M A env E' cs Q s
 |[],_,q=>q
 |c::cs,s,q=>wpAny_mono q (λb s1 q1=>by
  cases b with
  |true=>rw[if_pos rfl] at q1 ⊢;exact jY h q1
  |false=>rw[if_neg (by decide)] at q1 ⊢;exact q1) h
theorem XTr.but{C0 x T:Addr}{cls fl:Value}{d:Option Addr}{h g:Heap}(t:XTr h x T cls d fl)(sb:Heap.SameBut C0 h g)(hx:x≠C0)(hT:T≠C0):XTr g x T cls d fl:=by
 obtain⟨oe,vs,a0,oT,ts,ho,hc,hd,hv0,hv1,hTx,hoT,hdT,h3⟩:=t
 exact⟨oe,vs,a0,oT,ts,sb.extBut x oe hx ho,hc,hd,hv0,hv1,hTx,sb.extBut T oT hT hoT,hdT,h3⟩
theorem kj{C0:Addr}{h':Heap}(I:Inv X pins σ H s)(xo:XOk X H C0)(hp:∀q∈pins,q.1≠C0)(sb:Heap.SameBut C0 s.heap h'):Inv X pins σ H {s with heap:=h'}:=
 Z6 (ch:=[C0]) I (λb hb=>by rw[List.mem_singleton.mp hb];exact⟨xo,hp⟩) (λb o _ hc e=>sb.extBut b o (λz=>hc (by simp[z])) e) λb o _ hc e=>⟨o.slots,sb.extBut b o (λz=>hc (by simp[z])) e⟩
inductive CompI(D:DP)(Xb:Cx)(tn:Nat->Heap->Prop)(fp φ1 α1:List Addr)(H2:Hp)(acc:Addr)(bl:Sl)(xs:List T)(P:Nat->List T->Mem->Prop)(n:Nat)(s':Shared):Prop where
 |mk (i:Nat) (σ':St) (H':Hp) (α':List Addr) (μ':Mem) (yT:List T) (yV:List V) (e:n=xs.length-i) (hi:i<=xs.length) (iv:Inv Xb [] σ' H' s') (t:tn i s'.heap) (fr:∀b∈fp,H' b=none) (st:Stp α1 H2 α' H') (mr:MRel D φ1 α' H' μ') (sr:SRel D φ1 α' H' bl σ') (ac:H' acc=some (.lst yV)) (dl:DenL D φ1 α' H' yT yV) (hy:yT.length<=i) (q:P i yT μ')
inductive CompX(D:DP)(φ1 α1:List Addr)(H2:Hp)(Z0:Xp)(cls:Value)(d:Option Addr)(_:St)(He:Hp):Prop where
 |mk (c:Nat) (fs':List (Nat×T)) (μ':Mem) (α':List Addr) (Cc:Addr) (z:Z0 c fs' μ') (st:Stp α1 H2 α' He) (m:MRel D φ1 α' He μ') (ad:D.adr c=some Cc) (e:cls=.ref Cc) (xd:XDict D φ1 α' He fs' d)
structure XbOk(Xb X:Cx)(env:Env)(N:List Str):Prop where
 pr:Xb.prog=X.prog
 w:Xb.w=X.w
 K:Xb.K=X.K
 A:Xb.A=X.A
 en:Xb.env=env
 ca:Xb.calm=X.calm
 st:Xb.stack=X.stack
 N:Xb.N=N
theorem jA{β:Type}{R:β->Mem->List Addr->Hp->Prop}{fi:Di}{fs:List Nat}{tgt:Tg}{ifs:List Expr}{cs:List Dt}{fe:De}{kk:List T->Mem->RE β}{use:Option (Value->Sem Unit)}{Qf:Value->Shared->Prop}
  (C:Ck D W Γ X k) (hc:Γ.calm=true) (ok:CompOk Γ.N Γ.cel tg sc) (hfs:vp Γ.N (frees sc)=some fs) (htg:qT (z6 tg++frees sc) tg=some tgt) (hi:PI X tg iter (rdI D W fi)) (hel:∀X' W',Ck D W' (inComp Γ tg sc) X' k->PE X' elt (rdE D W' fe)) (hts:∀X' W',Ck D W' (inComp Γ tg sc) X' k->Zy X' D W' ifs cs) (hs:∀x,foldedSetIterable iter X.env x=pure x)
  (I:Inv X pins σ H s) (sr:SRel D φ α H τ σ) (mr:MRel D φ α H μ)
  (p:Post D W φ α H σ R ((fi τ μ).go λxs o μ1=>.grd (xs.length<=room) ((qe tgt (kc cs fe) o (blk (z6 tg).length fs τ) xs μ1).bind kk)))
  (Kq:∀acc C0 s' α1 H1 H' α' ys vs μ',Inv X pins σ H' s'->Stp α H α1 H1->Stp α1 H1 α' H'->H1 acc=none->acc∉φ->acc∉α1->SRel D (φ++[acc]) α' H' τ σ->MRel D (φ++[acc]) α' H' μ'->H' acc=some (.lst vs)->DenL D (φ++[acc]) α' H' ys vs->Post D W φ α1 H1 σ R (kk ys μ')->XOk X H' C0->(∀q∈pins,q.1≠C0)->(∃m,s'.heap.Ns C0 m)->
   (match use with
    |none=>∃m,s'.heap.Ns C0 m/\∀g,Heap.SameBut C0 s'.heap g->Qf (.ref acc) {s' with heap:=g}
    |some u=>wpAny (model X.prog X.w) X.A (u (.ref acc)) (λ_ t2=>∃m,t2.heap.Ns C0 m/\∀g,Heap.SameBut C0 t2.heap g->Qf .none {t2 with heap:=g}) X.xe s')) :
  wpAny (model X.prog X.w) X.A (comprehension (.ListComp elt [⟨tg,iter,ifs,0⟩] sc pos) sc X.env pos' (newList []) false (eval iter X.env) use) Qf X.xe s:=by
 obtain⟨cl,hclos,hcl,hcl2⟩:=xF (sc:=sc) (env:=X.env) λx hx=>I.ok.has x (C.cel x (ok.fre x hx).2.2.1)
 refine X3 (use:=use) rfl hs hclos ok.kind ok.lcl (thn (hi pins s σ H (λJ H2=>∃xs o μ1 α1 Ok,ItV D J Ok xs/\OkI D φ α1 H2 xs o Ok/\o μ1/\Stp α H α1 H2/\MRel D φ α1 H2 μ1/\
  Post D W φ α1 H2 σ R (.grd (xs.length<=room) ((qe tgt (kc cs fe) o (blk (z6 tg).length fs τ) xs μ1).bind kk))) I
  ⟨φ,α,τ,μ,sr,mr,(show Post D W φ α H σ R ((fi τ μ).re.bind λpr μ1=>.grd (pr.1.length<=room) ((qe tgt (kc cs fe) pr.2 (blk (z6 tg).length fs τ) pr.1 μ1).bind kk)) from p).bind.mono λpr μ' α' H' st m q J Ok iv okk lv=>⟨pr.1,pr.2,μ',α',Ok,iv,okk,lv,st,m,q⟩⟩) λv s1 h1=>thn h1 λitv s2 h2=>?_)
 obtain⟨it,fp,tn,J,H2,rfl,I2,Tn,tn0,f2,xs,Lv,μ1,α1,Ok,iv,okk,lv1,st1,mr1,p1⟩:=h2
 obtain⟨hroom,K0,Z0,q0,hk0,hz0⟩:=p1.grd
 have fo:∀b∈fp,∃o,s2.heap.get? b=some o:=λb hb=>let ⟨o,e,_⟩:=Tn.obj 0 _ tn0 b hb;⟨o,e⟩
 refine wpAny_newObj_type (wpAny_newFunctionEnv ok.noc (by intro y hy;simp at hy) (λh₁ hns₁ hsb₁=>?_) ok.kind)
 have sz:(s2.heap.push {cls:=.type "list",dict:=none,data:=.seq ([]:List Value).toArray}).objs.size=s2.heap.objs.size+1:=Heap.size_push ..
 dsimp only at hns₁ hsb₁ ⊢
 rw[sz] at hns₁ hsb₁ ⊢
 have hns:h₁.Ns (s2.heap.objs.size+1) (λ_=>none):=by simpa using hns₁
 obtain⟨I3,J0⟩:=ZQ (tk:=s2.toks+([]:List (Str×Value)).length) C ok I2 f2 fo hcl hcl2 hns hsb₁
 have hD:H2 s2.heap.objs.size=none:=I2.hok.fresh (Nat.le_refl _)
 have nph:s2.heap.objs.size∉φ:=zr mr1 hD
 have nal:s2.heap.objs.size∉α1:=zq mr1 hD
 have old:∀b o,s2.heap.get? b=some o->h₁.get? b=some o:=λb o e=>hsb₁.extBut b o (Nat.ne_of_lt (Nat.lt_succ_of_lt (Heap.lt_size e))) (Heap.get?_push_of_some _ (Heap.get?_push_of_some _ e))
 have n3:({s2 with heap:=s2.heap.push {cls:=.type "list",data:=.seq ([]:List Value).toArray}}:Shared).heap.get? (s2.heap.objs.size+1)=none:=Heap.get?_none_of_le (by show (s2.heap.push _).objs.size<=_;rw[Heap.size_push];exact Nat.le_refl _)
 have xo0:=wD I3 n3
 have pn3:∀q∈pins,q.1≠s2.heap.objs.size+1:=λq hq z=>by
  have:=(I3.pin q (List.mem_append_right _ hq)).1
  rw[z,n3] at this;cases this
 generalize hS3:({s2 with heap:=s2.heap.push {cls:=.type "list",data:=.seq ([]:List Value).toArray}}:Shared)=S3 at I3 J0 n3
 generalize hH3:upd H2 s2.heap.objs.size (.lst [])=H3 at I3 J0 xo0
 generalize hXb:cxC X (z6 tg++frees sc) sc cl (s2.heap.objs.size+1) S3 H3 fp=Xb at J0
 have hXb':XbOk Xb X (compEnvC sc cl (s2.heap.objs.size+1) X.env) (z6 tg++frees sc):=by subst hXb;exact⟨rfl,rfl,rfl,rfl,rfl,rfl,rfl,rfl⟩
 have sto:Sto Xb (z6 tg):=by subst hXb;exact Jp (Γ:=Γ) ok
 have cm:Xb.calm=true:=by rw[hXb'.ca];exact C.clm hc
 have back:∀{s4:Shared} {σ4:St} {H4:Hp} {pp:List (Addr×Obj)},Inv Xb pp σ4 H4 s4->Inv X pins σ H4 s4:=λ{s4 σ4 H4 pp} I4=>by
  subst hXb
  exact I3.call' (ch:=fp) I4.os I4.base I4.hok I4.bare λb hb=>by
   obtain⟨f0,f1,f2',f3,f4,f5⟩:=f2 b hb
   exact⟨f3,f1,f4,f5⟩
 have fpk:∀{H':Hp},(∀b∈fp,H' b=none)->∀b∈fp,yS Xb [] H' b:=λhn b hb=>by
  obtain⟨f0,f1,f2',f3,f4,f5⟩:=f2 b hb
  obtain⟨o,ho⟩:=fo b hb
  subst hXb
  refine⟨hn b hb,Nat.ne_of_lt (Nat.lt_succ_of_lt (Heap.lt_size ho)),λz=>?_,.inl hb,λx c h=>f4 x c (hcl x c h).1,λq hq=>absurd hq (by simp[cxC])⟩
  rcases List.mem_cons.mp (I2.stkSub b z) with z|z
  ·exact f1 z
  ·exact f2' z
 have TnI:=Tn.item Xb hXb'.pr hXb'.w hXb'.K cm
 have TnD:=Tn.done Xb hXb'.pr hXb'.w hXb'.K cm
 obtain⟨e0,out,L,F⟩:=C.frm
 have ce:(compEnvC sc cl (s2.heap.objs.size+1) X.env).frame=some L:=F.fe
 obtain⟨NB,hNB⟩:∃NB:Value->Shared->Prop,NB=notedBy (model X.prog X.w) X.A (compEnvC sc cl (s2.heap.objs.size+1) X.env) (λx s'=>yU (model X.prog X.w) X.A X.xe use Qf (.ref s2.heap.objs.size) (compEnvC sc cl (s2.heap.objs.size+1) X.env) (.error x) s'):=⟨_,rfl⟩
 have leave:∀{pp:List (Addr×Obj)} {e:Value} {t:Shared},(∀b∈fp,∃o,(b,o)∈pp)->XP (Cx.pin' Xb pp) (CompX D (φ++[s2.heap.objs.size]) α1 H2 Z0) e t->
   NB e t:=λ{pp e t} hpp xp=>by
  have Fb:Frm (Cx.pin' Xb pp) e0 out L:=⟨by show Xb.stack=_;rw[hXb'.st];exact F.stk,F.f0,by show Xb.env.frame=_;rw[hXb'.en];exact ce⟩
  have hfr:X.A.frames=some (Cx.pin' Xb pp).stack:=by show _=some Xb.stack;rw[hXb'.st];exact I.ok.frames
  rw[hNB]
  unfold notedBy
  rw[show compEnvC sc cl (s2.heap.objs.size+1) X.env=(Cx.pin' Xb pp).env from hXb'.en.symm]
  refine yL (X:=Cx.pin' Xb pp) Fb hfr xp λx cls d σe He T h' ee Ie ox oT tr w=>?_
  subst ee
  have en:(Cx.pin' Xb pp).env=compEnvC sc cl (s2.heap.objs.size+1) X.env:=hXb'.en
  rw[en]
  have Iu:Inv Xb pp σe He {t with heap:=h'}:=kv Ie
  have IX:=back Iu
  have nw:∀b,XOk (Cx.pin' Xb pp) He b->XOk X He b/\b≠s2.heap.objs.size+1:=λb o=>by
   have hb:b∉fp:=λz=>by
    obtain⟨ob,hm⟩:=hpp b z
    exact o.pin (b,ob) (List.mem_append_right _ hm) rfl
   have h3:S3.heap.get? b=none:=by
    have:=o.new
    subst hXb
    exact this.resolve_left hb
   have q:=wD I3 h3
   refine⟨⟨o.free,q.loc,q.nfs,q.new,q.cel,q.pin⟩,?_⟩
   have:=o.loc
   have e2:(Cx.pin' Xb pp).env.locals=s2.heap.objs.size+1:=by rw[en];rfl
   rw[e2] at this;exact this
  have xoC:XOk X He (s2.heap.objs.size+1):=⟨by have:=Iu.free;rw[hXb'.en] at this;exact this,xo0.loc,xo0.nfs,xo0.new,xo0.cel,xo0.pin⟩
  obtain⟨m,hm,_⟩:=Iu.loc
  rw[hXb'.en] at hm
  refine⟨m,hm,λg sb=>?_⟩
  have sb':Heap.SameBut (s2.heap.objs.size+1) h' g:=sb
  have Ig:Inv X [] σ He {t with heap:=g}:=(kj IX xoC pn3 sb').pins_of λp hp=>absurd hp (by simp)
  have tg':=tr.but sb' (nw x ox).2 (nw T oT).2
  unfold PySem.passOn
  obtain⟨oe,vs',a0,oT',ts,ho,hcc,hd,hv0,hv1,hT,hoT,hdT,h3⟩:=id tg'
  refine wpAny_bind (wpAny_field ho hd hv1 ?_)
  rw[if_neg (show ¬((Value.ref T == Value.none)=true) from by simp)]
  have go:∀{t2:Shared},XP X W (.ref x) t2->wpAny (model X.prog X.w) X.A (throw (Value.ref x):Sem Value) (λ_ _=>False) X.xe t2:=λ{t2} xp=>wpAny_throw (C.xe _ _ xp)
  have fin:wpAny (model X.prog X.w) X.A (setFlight (.ref x) (compEnvC sc cl (s2.heap.objs.size+1) X.env).frame) (λ_ t2=>XP X W (.ref x) t2) X.xe {t with heap:=g}:=by
   refine jx (s:={t with heap:=g}) Ig (nw x ox).1 (nw T oT).1 tg' λh4 I4 tr4=>?_
   obtain⟨c,fs',μ',α',Cc,z,stp,m',ad,rfl,xd⟩:=w
   refine⟨x,.ref Cc,d,σ,He,some T,rawInt L,rfl,I4,(nw x ox).1,λt ht=>?_,?_,.inr ⟨L,F.fe,rfl⟩,?_⟩
   ·have:t=T:=by simpa using ht
    rw[this];exact (nw T oT).1
   ·rw[ce] at tr4;exact tr4
   ·refine hz0 c fs' μ' z α' He Cc d stp (m'.lk wj (λa ha=>⟨rfl,λz=>m'.dis a ha (List.mem_append_left _ z)⟩) λb hb=>m'.phi b (List.mem_append_left _ hb)) ad (xd.lk wj)
  first
   |exact wpAny_bind (thn fin λ_ t2 xp=>go xp)
   |exact wpAny_bind (wpAny_pure (wpAny_bind (thn fin λ_ t2 xp=>go xp)))
 have loop:codeAny (model X.prog X.w) X.A (.compLoop (.ListComp elt [⟨tg,iter,ifs,0⟩] sc pos) 0 (.ref it) (.ref s2.heap.objs.size) (compEnvC sc cl (s2.heap.objs.size+1) X.env)) (yU (model X.prog X.w) X.A X.xe use Qf (.ref s2.heap.objs.size) (compEnvC sc cl (s2.heap.objs.size+1) X.env)) {s2 with heap:=h₁,toks:=s2.toks+([]:List (Str×Value)).length}:=by
  obtain⟨LI,hLI⟩:∃LI:Nat->Shared->Prop,LI=CompI D Xb tn fp (φ++[s2.heap.objs.size]) α1 H2 s2.heap.objs.size (blk (z6 tg).length fs τ) xs (λi yT μ'=>Lv μ'/\qe tgt (kc cs fe) Lv (blk (z6 tg).length fs τ) (xs.drop i) μ' (λrest μ2=>kk (yT++rest) μ2 K0 Z0) Z0):=⟨_,rfl⟩
  refine WR LI ?_ xs.length ?_
  ·intro n s' h0
   rw[hLI] at h0
   obtain⟨i,σ',H',α',μ',yT,yV,rfl,hi',Iv,tni,fr,stp,mr',sr',hacc,dly,hyl,lv',hcmi⟩:=h0
   have okH:Ok (φ++[s2.heap.objs.size]) α' H':=okk _ α' H' μ' ((jD hD).trans stp.lk) mr' lv'
   by_cases hlt:i<xs.length
   ·have TI:=TnI i [] s' σ' H' (λ_ _=>False) Iv (fpk fr) tni (iv.go i _ _ H' okH (by omega))
    rw[hXb'.A] at TI
    refine thn TI ?_
    rintro r s4 ⟨u,rfl,h4⟩
    refine thn h4 ?_
    rintro _ s5 ⟨x,H5,I5,r5,y5,tn5,fr5⟩
    obtain⟨sm5,dx'⟩:=iv.yld i _ _ H' x H5 xs[i] okH (by simp[hlt]) y5
    have stp:=stp.trans (Stp.new (α:=α') sm5)
    have sr':=sr'.step (Stp.new (α:=α') sm5)
    have mr':=mr'.new sm5
    have hacc:=sm5 _ _ hacc
    have dly:=dly.step (Stp.new (α:=α') sm5)
    have hdr:xs.drop i=xs[i]::xs.drop (i+1):=List.drop_eq_getElem_cons hlt
    rw[hdr] at hcmi
    obtain⟨τ',ha,hfe⟩:=hcmi
    have I5':=I5.pinned (fpk fr5) (Tn.obj _ _ tn5)
    have A6:=Z_ (S:=z6 tg) (X:=Xb) hXb'.N ok.nd sto cm (λx h=>h) htg ha I5' sr' dx' r5
    rw[hXb'.pr,hXb'.w,hXb'.A,hXb'.en,show Xb.xe=λ_ _=>False by subst hXb;rfl] at A6
    refine thn A6 ?_
    rintro _ s6 ⟨σ6,I6,sr6⟩
    generalize hpp:([]++xr fp s5.heap:List (Addr×Obj))=pp at I6
    have hppm:∀b∈fp,∃o,(b,o)∈pp:=λb hb=>by
     obtain⟨o,e,_⟩:=Tn.obj _ _ tn5 b hb
     exact⟨o,by rw[←hpp];exact List.mem_append_right _ (wG hb e)⟩
    generalize hW1:CompX D (φ++[s2.heap.objs.size]) α1 H2 Z0=W1
    have lv:∀e t,XP (Cx.pin' Xb pp) W1 e t->NB e t:=λe t xp=>by
     rw[←hW1] at xp;exact leave hppm xp
    have ck:Ck D W1 (inComp Γ tg sc) ((Cx.pin' Xb pp).wish (XP (Cx.pin' Xb pp) W1)) k:=by
     subst hXb
     exact K4 (W':=W1) (pn:=[]++pp) (xe:=XP (Cx.pin' (cxC X (z6 tg++frees sc) sc cl (s2.heap.objs.size+1) S3 H3 fp) pp) W1) C ok λe s p=>yo (X:=Cx.pin' (cxC X (z6 tg++frees sc) sc cl (s2.heap.objs.size+1) S3 H3 fp) pp) p
    have I6':Inv ((Cx.pin' Xb pp).wish (XP (Cx.pin' Xb pp) W1)) [] σ6 H5 s6:=(Jr I6).wish _
    have next:∀{s7:Shared} {H7:Hp} {α7:List Addr} {μ7:Mem} {yT':List T} {yV':List V},Inv ((Cx.pin' Xb pp).wish (XP (Cx.pin' Xb pp) W1)) [] σ6 H7 s7->Stp α1 H2 α7 H7->MRel D (φ++[s2.heap.objs.size]) α7 H7 μ7->SRel D (φ++[s2.heap.objs.size]) α7 H7 τ' σ6->H7 s2.heap.objs.size=some (.lst yV')->DenL D (φ++[s2.heap.objs.size]) α7 H7 yT' yV'->yT'.length<=i+1->
      Lv μ7->qe tgt (kc cs fe) Lv (blk (z6 tg).length fs τ) (xs.drop (i+1)) μ7 (λrest μ2=>kk (yT'++rest) μ2 K0 Z0) Z0->
      ∃m,m<xs.length-i/\LI m s7:=λ{s7 H7 α7 μ7 yT' yV'} I7 st7 m7 sr7 ac7 dy7 hy7 lv7 q7=>by
     have I7u:Inv Xb pp σ6 H7 s7:=kv I7.unwish
     have pinned:∀b∈fp,∃o,s5.heap.get? b=some o/\s7.heap.get? b=some o/\H7 b=none:=λb hb=>by
      obtain⟨o,e,_⟩:=Tn.obj _ _ tn5 b hb
      have:=I7u.pin (b,o) (List.mem_append_right _ (by rw[←hpp];exact List.mem_append_right _ (wG hb e)))
      exact⟨o,e,this.1,this.2.1⟩
     refine⟨xs.length-(i+1),by omega,?_⟩
     rw[hLI]
     refine⟨i+1,σ6,H7,α7,μ7,yT',yV',rfl,hlt,I7u.pins_of (λp hp=>absurd hp (by simp)),Tn.keep _ _ _ tn5 (λb hb o e=>?_),λb hb=>(pinned b hb).choose_spec.2.2,st7,m7,⟨?_,λj t e=>?_⟩,ac7,dy7,hy7,lv7,q7⟩
     ·obtain⟨o',e1,e2,_⟩:=pinned b hb
      rw[e] at e1;cases e1;exact e2
     ·have:=I7u.len
      rw[hXb'.N] at this
      rw[yN,this]
      simp[xl,kX hfs]
     ·have hj:(z6 tg).length<=j:=by
       rcases Nat.lt_or_ge j (z6 tg).length with h|h
       ·rw[yN,List.getElem?_append_left (by simpa using h),List.getElem?_replicate] at e
        split at e<;>cases e
       ·exact h
      exact sr7.val j t (by rw[VP htg ha j hj];exact e)
    have P0:Post D W1 (φ++[s2.heap.objs.size]) α' H5 σ6 (λ(o:Option T) μ7 α7 H7=>match o with
      |some y=>∀v,Den D (φ++[s2.heap.objs.size]) α7 H7 y v->Lv μ7/\qe tgt (kc cs fe) Lv (blk (z6 tg).length fs τ) (xs.drop (i+1)) μ7 (λys μ2=>kk (yT++y::ys) μ2 K0 Z0) Z0
      |none=>Lv μ7/\qe tgt (kc cs fe) Lv (blk (z6 tg).length fs τ) (xs.drop (i+1)) μ7 (λys μ2=>kk (yT++ys) μ2 K0 Z0) Z0) ((kc cs fe τ' μ').bind λo μ7=>RE.ok o μ7):=by
     refine⟨_,Z0,hfe,λo μ7 e α7 H7 st m=>?_,λc fs' μ7 z α7 H7 Cc d st m ad xd=>?_⟩
     ·cases o with
      |some y=>exact λv _=>e
      |none=>exact e
     ·rw[←hW1];exact⟨c,fs',μ7,α7,Cc,z,stp.trans st,m,ad,rfl,xd⟩
    have ep:((Cx.pin' Xb pp).wish (XP (Cx.pin' Xb pp) W1)).prog=X.prog:=hXb'.pr
    have ew:((Cx.pin' Xb pp).wish (XP (Cx.pin' Xb pp) W1)).w=X.w:=hXb'.w
    have eA:((Cx.pin' Xb pp).wish (XP (Cx.pin' Xb pp) W1)).A=X.A:=hXb'.A
    have ee:((Cx.pin' Xb pp).wish (XP (Cx.pin' Xb pp) W1)).env=compEnvC sc cl (s2.heap.objs.size+1) X.env:=hXb'.en
    have nD:s2.heap.objs.size∉α':=λz=>mr'.dis _ z (by simp)
    have G:=VX (X:=(Cx.pin' Xb pp).wish (XP (Cx.pin' Xb pp) W1)) (M:=model X.prog X.w) (A:=X.A) (Qf:=λb s₄=>if b=true then wpAny (model X.prog X.w) X.A (eval elt (compEnvC sc cl (s2.heap.objs.size+1) X.env)) (λx s₅=>wpAny (model X.prog X.w) X.A (call (.builtin "list.append") [.ref s2.heap.objs.size,x]) (λ_ s₆=>∃m,m<xs.length-i/\LI m s₆) (λ_ _=>False) s₅) NB s₄ else ∃m,m<xs.length-i/\LI m s₄) (hts _ W1 ck) I6' sr6 mr' P0 (λs7 H7 α7 μ7 I7 st7 sr7 m7 p7=>?_) (λs7 H7 α7 μ7 I7 st7 sr7 m7 p7=>?_)
    ·rw[ep,ew,eA,ee] at G
     rw[←hNB]
     exact jY (λe t h=>lv e t h) G
    ·rw[if_pos rfl]
     have E7:=sub (hel _ W1 ck) I7 sr7 m7 p7
     rw[ep,ew,eA,ee] at E7
     refine wpAny_mono E7 (λx8 s8 h8=>?_) λe t h=>lv e t h
     obtain⟨v8,H8,y8,μ8,α8,I8,r8,st8,sr8,m8,d8,p8⟩:=h8
     have q8:=p8.ok (Stp.refl _ _) m8 v8 d8
     have acc8:H8 s2.heap.objs.size=some (.lst yV):=st8.keep _ _ (λz=>m7.dis _ z (by simp)) (st7.keep _ _ nD hacc)
     have hyv:yV.length<=i:=by rw[←dly.length];exact hyl
     have AP:=y6 (X:=Cx.pin' Xb pp) [] s8 σ6 H8 (.ref s2.heap.objs.size) [v8] (.ref s2.heap.objs.size) [x8] (λ_ H9=>H9=upd H8 s2.heap.objs.size (.lst (yV++[v8]))) I8.unwish rfl (.cons r8 .nil) ⟨_,yV,v8,rfl,rfl,acc8,Nat.lt_of_le_of_lt hyv (Nat.lt_of_lt_of_le hlt (zB hroom)),rfl⟩
     rw[show (Cx.pin' Xb pp).prog=X.prog from hXb'.pr,show (Cx.pin' Xb pp).w=X.w from hXb'.w,show (Cx.pin' Xb pp).A=X.A from hXb'.A,show (Cx.pin' Xb pp).xe=λ_ _=>False by subst hXb;rfl] at AP
     refine thn AP ?_
     rintro x9 s9 ⟨v9,H9,I9,r9,rfl⟩
     have inphi:s2.heap.objs.size∈φ++[s2.heap.objs.size]:=by simp
     have t:=(stp.trans st7).trans st8
     have one:DenL D (φ++[s2.heap.objs.size]) α8 H8 [y8] [v8]:=⟨v8,[],rfl,d8,rfl⟩
     refine next (I9.wish _) ⟨t.ext,λb o n e=>?_,λb e=>t.live b ?_⟩ (m8.lk (xm inphi) (λa ha'=>⟨by rw[za (λz=>m8.dis a ha' (by rw[z];simp))],m8.dis a ha'⟩) (λb hb=>?_)) (sr8.lk (xm inphi)) z8 ((((dly.step st7).step st8).append one).lk (xm inphi)) (by simp;omega) q8.1 (by simpa using q8.2)
     ·rw[za (zL e hD)];exact t.keep b o n e
     ·by_cases hb:b=s2.heap.objs.size
      ·rw[hb,z8] at e;cases e
      ·rw[za hb] at e;exact e
     ·by_cases hb':b=s2.heap.objs.size
      ·rw[hb',z8];exact⟨_,rfl,rfl⟩
      ·rw[za hb'];exact m8.phi b hb
    ·rw[if_neg (by decide)]
     exact next I7 (stp.trans st7) m7 sr7 (st7.keep _ _ nD hacc) (dly.step st7) (by omega) (p7.ok (Stp.refl _ _) m7).1 (p7.ok (Stp.refl _ _) m7).2
   ·have hie:i=xs.length:=by omega
    have TD:=TnD i [] s' σ' H' (λ_ _=>False) Iv (fpk fr) tni (by rw[hie];exact iv.stop _ _ H' okH)
    rw[hXb'.A] at TD
    refine thn TD ?_
    rintro r s4 ⟨rfl,I4⟩
    have hdr:xs.drop i=[]:=by rw[hie];simp
    rw[hdr] at hcmi
    have q4:kk yT μ' K0 Z0:=by
     have:kk (yT++[]) μ' K0 Z0:=hcmi
     simpa using this
    have I5:=back I4
    obtain⟨m,hm,_⟩:=I4.loc
    rw[hXb'.en] at hm
    exact Kq s2.heap.objs.size (s2.heap.objs.size+1) s4 α1 H2 H' α' yT yV μ' I5 st1 stp hD nph nal (((sr.step st1).lk (jD hD)).step stp) mr' hacc dly ⟨K0,Z0,q4,hk0,hz0⟩ ⟨by have:=I4.free;rw[hXb'.en] at this;exact this,xo0.loc,xo0.nfs,xo0.new,xo0.cel,xo0.pin⟩ pn3 ⟨m,hm⟩
  ·have sm:vH H2 H3:=by rw[←hH3];exact zk hD
   rw[hLI]
   refine⟨0,_,_,α1,μ1,[],[],rfl,Nat.zero_le _,J0,Tn.keep _ _ _ tn0 λb hb o e=>old b o e,λb hb=>?_,Stp.new sm,?_,?_,by rw[←hH3];exact z8,rfl,Nat.le_refl _,lv1,by simpa using q0⟩
   ·obtain⟨o,ho⟩:=fo b hb
    rw[←hH3,za (Nat.ne_of_lt (Heap.lt_size ho))]
    exact (f2 b hb).1
   ·refine mr1.lk (Zg hD sm) (λa ha=>?_) λb hb=>?_
    ·have na:a≠s2.heap.objs.size:=λz=>nal (z▸ha)
     exact⟨by rw[←hH3];exact za na,λz=>(List.mem_append.mp z).elim (mr1.dis a ha) λz=>na (List.mem_singleton.mp z)⟩
    ·rcases List.mem_append.mp hb with z|z
     ·obtain⟨o,e,n⟩:=mr1.phi b z
      exact⟨o,sm b o e,n⟩
     ·rw[List.mem_singleton.mp z,←hH3,z8];exact⟨_,rfl,rfl⟩
   ·exact (Kx (sr.step st1) hfs).lk (Zg hD sm)
 exact codeAny_compStart_list loop (wpAny_mono (Tn.self _ 0 _ _ _ (Tn.keep _ _ _ tn0 λb hb o e=>old b o e) loop) (λ_ _ q=>q) λ_ _ q=>q)
end
section
variable {X:Cx}{D:DP}{W:XW}{Γ:Cn}{k:Nat}{pins:List (Addr×Obj)}{s:Shared}{σ:St}{H:Hp}{φ α:List Addr}{τ:Sl}{μ:Mem}{tg iter elt:Expr}{sc:Scope}{pos:Pos}{fi:Di}{fs:List Nat}{tgt:Tg}{ifs:List Expr}{cs:List Dt}{fe:De}
theorem Zk{β:Type}{R:β->Mem->List Addr->Hp->Prop}{kk:T->Mem->RE β}{acc:Addr}{α1 α':List Addr}{H1 H':Hp}{ys:List T}{vs:List V}{μ':Mem}(st:Stp α1 H1 α' H')(hn:H1 acc=none)(nph:acc∉φ)(mr:MRel D (φ++[acc]) α' H' μ')(ha:H' acc=some (.lst vs))(dl:DenL D (φ++[acc]) α' H' ys vs)(p:Post D W φ α1 H1 σ R (kk (.lst ys) μ')) :
  MRel D φ α' H' μ'/\Den D φ α' H' (.lst ys) (.ref acc)/\Post D W φ α' H' σ R (kk (.lst ys) μ'):=
 ⟨mr.lk wj (λa ha=>⟨rfl,λz=>mr.dis a ha (List.mem_append_left _ z)⟩) λb hb=>mr.phi b (List.mem_append_left _ hb),⟨acc,vs,rfl,nph,λz=>mr.dis _ z (by simp),.inl ha,dl.lk wj⟩,p.step st⟩
theorem vL{acc:Addr}{α':List Addr}{H':Hp}:Lk (φ++[acc]) α' H' φ (α'++[acc]) H':=⟨λa o n1 n2 e=>⟨λz=>n1 (List.mem_append_left _ z),λz=>(List.mem_append.mp z).elim n2 λz=>n1 (by rw[List.mem_singleton.mp z];simp),e⟩,λi a e=>by
 rw[List.getElem?_append_left (List.getElem?_eq_some_iff.mp e).1];exact e⟩
theorem yD{acc:Addr}{α1 α':List Addr}{H1 H':Hp}{ys:List T}{vs:List V}{μ':Mem}(st:Stp α1 H1 α' H')(hn:H1 acc=none)(nph:acc∉φ)(mr:MRel D (φ++[acc]) α' H' μ')(ha:H' acc=some (.lst vs))(dl:DenL D (φ++[acc]) α' H' ys vs) :
  Stp α1 H1 (α'++[acc]) H'/\MRel D φ (α'++[acc]) H' (μ'++[.lst ys])/\Den D φ (α'++[acc]) H' (.mut μ'.length) (.ref acc):=by
 have nal:acc∉α':=λz=>mr.dis _ z (by simp)
 refine⟨?_,⟨by simp[mr.len],?_,λb hb=>?_,λb hb=>mr.phi b (List.mem_append_left _ hb),λi a o e1 e2=>?_⟩,acc,by rw[←mr.len,List.getElem?_append_right (Nat.le_refl _)];simp,rfl⟩
 ·obtain⟨β,e,hβ⟩:=st.ext
  exact⟨⟨β++[acc],by rw[e];simp,λb hb=>(List.mem_append.mp hb).elim (hβ b) λz=>by rw[List.mem_singleton.mp z];exact hn⟩,st.keep,st.live⟩
 ·rw[List.nodup_append]
  exact⟨mr.nd,by simp,λa ha b hb z=>nal (by rw[List.mem_singleton.mp hb] at z;exact z▸ha)⟩
 ·rcases List.mem_append.mp hb with h|h
  ·exact λz=>mr.dis b h (List.mem_append_left _ z)
  ·rw[List.mem_singleton.mp h];exact nph
 ·by_cases hi:i<α'.length
  ·rw[List.getElem?_append_left hi] at e1
   rw[List.getElem?_append_left (by rw[←mr.len];exact hi)] at e2
   exact (mr.ob i a o e1 e2).lk vL rfl
  ·have hl:=mr.len
   rw[List.getElem?_append_right (by omega)] at e1 e2
   have hi':i-α'.length=0:=by
    by_cases z:i-α'.length=0
    ·exact z
    ·rw[List.getElem?_eq_none (by simp;omega)] at e1;cases e1
   have hi2:i-μ'.length=0:=by omega
   rw[hi'] at e1
   rw[hi2] at e2
   have e1:some acc=some a:=e1
   have e2:some (MO.lst ys)=some o:=e2
   cases e1;cases e2
   exact⟨vs,ha,dl.lk vL⟩
theorem QT(C:Ck D W Γ X k)(hc:Γ.calm=true)(ok:CompOk Γ.N Γ.cel tg sc)(hfs:vp Γ.N (frees sc)=some fs)(htg:qT (z6 tg++frees sc) tg=some tgt)(hi:PI X tg iter (rdI D W fi))(hel:∀X' W',Ck D W' (inComp Γ tg sc) X' k->PE X' elt (rdE D W' fe))(hts:∀X' W',Ck D W' (inComp Γ tg sc) X' k->Zy X' D W' ifs cs)(hs:∀x,foldedSetIterable iter X.env x=pure x) :
  PE X (.ListComp elt [⟨tg,iter,ifs,0⟩] sc pos) (rdE D W (jQ (z6 tg).length fs tgt fi cs fe)):=by
 rintro pins s σ H Q I ⟨φ,α,τ,μ,sr,mr,p⟩
 rw[eval_ListComp]
 refine jA (kk:=λys μ=>RE.ok (T.lst ys) μ) (use:=none) (Qf:=EP X pins σ Q) C hc ok hfs htg hi hel hts hs I sr mr p ?_
 rintro acc C0 s' α1 H1 H' α' ys vs μ' I' st1 st hn nph nal sr' m ha dl post xo hp ⟨mm,hm⟩
 obtain⟨m2,d,post⟩:=Zk (kk:=λt μ=>RE.ok t μ) st hn nph m ha dl post
 exact⟨mm,hm,λg sb=>⟨.ref acc,H',kj I' xo hp sb,rfl,post.here m2 d⟩⟩
theorem Ze(C:Ck D W Γ X k)(hc:Γ.calm=true)(ok:CompOk Γ.N Γ.cel tg sc)(hfs:vp Γ.N (frees sc)=some fs)(htg:qT (z6 tg++frees sc) tg=some tgt)(hi:PI X tg iter (rdI D W fi))(hel:∀X' W',Ck D W' (inComp Γ tg sc) X' k->PE X' elt (rdE D W' fe))(hts:∀X' W',Ck D W' (inComp Γ tg sc) X' k->Zy X' D W' ifs cs)(hs:∀x,foldedSetIterable iter X.env x=pure x) :
  PE X (.ListComp elt [⟨tg,iter,ifs,0⟩] sc pos) (rdE D W (wR (z6 tg).length fs tgt fi cs fe)):=by
 rintro pins s σ H Q I ⟨φ,α,τ,μ,sr,mr,p⟩
 rw[eval_ListComp]
 refine jA (kk:=λys μ=>RE.ok (T.mut μ.length) (μ++[MO.lst ys])) (use:=none) (Qf:=EP X pins σ Q) C hc ok hfs htg hi hel hts hs I sr mr p ?_
 rintro acc C0 s' α1 H1 H' α' ys vs μ' I' st1 st hn nph nal sr' m ha dl post xo hp ⟨mm,hm⟩
 obtain⟨st2,m2,d⟩:=yD st hn nph m ha dl
 exact⟨mm,hm,λg sb=>⟨.ref acc,H',kj I' xo hp sb,rfl,post.ok st2 m2 _ d⟩⟩
theorem w4{x:Str}{g:GM}(h:Γ.look x=g)(hg:g≠.bad):x∈Γ.G/\Γ.gl x=g:=by
 unfold Cn.look at h
 split at h
 ·rename_i hm
  exact⟨by simpa using hm,h⟩
 ·exact absurd h.symm hg
theorem yk{iter:Expr}(h:w5 iter=true):∀x,foldedSetIterable iter X.env x=pure x:=by
 intro x
 cases iter<;>first|rfl|(simp[w5] at h)
end
structure PostH(D:DP)(W:XW)(φ α:List Addr)(H:Hp)(E:Ends)(Q:En):Prop where
 nx:∀τ μ,Q.nx τ μ->∀α' H' σ',Stp α H α' H'->MRel D φ α' H' μ->SRel D φ α' H' τ σ'->E.nx σ' H'
 bk:∀τ μ,Q.bk τ μ->∀α' H' σ',Stp α H α' H'->MRel D φ α' H' μ->SRel D φ α' H' τ σ'->E.bk σ' H'
 ct:∀τ μ,Q.ct τ μ->∀α' H' σ',Stp α H α' H'->MRel D φ α' H' μ->SRel D φ α' H' τ σ'->E.ct σ' H'
 rt:∀t μ,Q.rt t μ->∀α' H' v,Stp α H α' H'->MRel D φ α' H' μ->Den D φ α' H' t v->E.rt v H'
 ex:∀c fs τ μ,Q.ex c fs τ μ->∀α' H' σ' C d,Stp α H α' H'->MRel D φ α' H' μ->SRel D φ α' H' τ σ'->D.adr c=some C->XDict D φ α' H' fs d->W (.ref C) d σ' H'
inductive PostS(D:DP)(W:XW)(φ α:List Addr)(H:Hp)(E:Ends)(o:Out):Prop where
 |mk (Q:En) (q:o Q) (h:PostH D W φ α H E Q)
noncomputable def rdS (D:DP)(W:XW)(f:Ds):TS:=λE σ H=>RdP D H σ λφ α τ μ=>PostS D W φ α H E (f τ μ)
structure Sk(D:DP)(W:XW)(Γ:Cn)(X:Cx)(k:Nat):Prop extends Ck D W Γ X k where
 sto:Sto X Γ.sto
 lcl:∀x∈Γ.N,Γ.cel.contains x=false->X.env.scope.names.lookup x=some .local
 pso:PassesOwn (model X.prog X.w) X.A X.env X.xe
 xmt:∀t x c,(x,c)∈Γ.cls->c<40->∀Ct Cc,D.adr t=some Ct->X.mg x=some (.ref Cc)->PySem.W.exmOne X.K (.ref Ct) (.ref Cc)=some (v_ t c)
section
variable {X:Cx}{D:DP}{W:XW}{Γ:Cn}{k:Nat}{pins:List (Addr×Obj)}{s:Shared}{σ:St}{H:Hp}{φ α:List Addr}{τ:Sl}{μ:Mem}{f g:De}{a b c e:Expr}{pos:Pos}{E:Ends}{u v:Ds}
theorem PostS.step{α':List Addr}{H':Hp}{o:Out}(p:PostS D W φ α H E o)(st:Stp α H α' H'):PostS D W φ α' H' E o:=by
 obtain⟨Q,q,h1,h2,h3,h4,h5⟩:=p
 exact⟨Q,q,λτ μ z α2 H2 σ2 s2=>h1 τ μ z α2 H2 σ2 (st.trans s2),λτ μ z α2 H2 σ2 s2=>h2 τ μ z α2 H2 σ2 (st.trans s2),λτ μ z α2 H2 σ2 s2=>h3 τ μ z α2 H2 σ2 (st.trans s2),λτ μ z α2 H2 σ2 s2=>h4 τ μ z α2 H2 σ2 (st.trans s2),λc fs τ μ z α2 H2 σ2 C d s2=>h5 c fs τ μ z α2 H2 σ2 C d (st.trans s2)⟩
theorem PostS.elim{C:Prop}(p:PostS D W φ α H E Out.st):C:=by obtain⟨_,q,_⟩:=p;exact q.elim
theorem PostS.nx{τ:Sl}{μ:Mem}(p:PostS D W φ α H E (.nx τ μ)){α':List Addr}{H':Hp}{σ':St}(s:Stp α H α' H')(m:MRel D φ α' H' μ)(r:SRel D φ α' H' τ σ'):E.nx σ' H':=by
 obtain⟨Q,q,h1,_⟩:=p
 exact h1 τ μ q α' H' σ' s m r
theorem PostS.rt{t:T}{μ:Mem}(p:PostS D W φ α H E (.rt t μ)){α':List Addr}{H':Hp}{v:V}(s:Stp α H α' H')(m:MRel D φ α' H' μ)(r:Den D φ α' H' t v):E.rt v H':=by
 obtain⟨Q,q,_,_,_,h,_⟩:=p
 exact h t μ q α' H' v s m r
theorem PostS.ex{c:Nat}{fs:List (Nat×T)}{τ:Sl}{μ:Mem}(p:PostS D W φ α H E (.ex c fs τ μ)){α':List Addr}{H':Hp}{σ':St}{C:Addr}{d:Option Addr}(s:Stp α H α' H')(m:MRel D φ α' H' μ)(r:SRel D φ α' H' τ σ')(ad:D.adr c=some C)(x:XDict D φ α' H' fs d):W (.ref C) d σ' H':=by
 obtain⟨Q,q,_,_,_,_,h⟩:=p
 exact h c fs τ μ q α' H' σ' C d s m r ad x
theorem PostS.grd{c:Prop}{o:Out}(p:PostS D W φ α H E (Out.grd c o)):c/\PostS D W φ α H E o:=by
 obtain⟨Q,q,h⟩:=p
 exact⟨q.1,Q,q.2,h⟩
theorem PostS.som{γ:Type}{o:Option γ}{k:γ->Out}(p:PostS D W φ α H E (Out.som o k)):∃a,o=some a/\PostS D W φ α H E (k a):=by
 obtain⟨Q,⟨a,e,q⟩,h⟩:=p
 exact⟨a,e,Q,q,h⟩
theorem PostS.br{b:Bool}{r s:Out}(p:PostS D W φ α H E (Out.br b r s)):(b=true/\PostS D W φ α H E r)\/(b=false/\PostS D W φ α H E s):=by
 obtain⟨Q,q,h⟩:=p
 cases b with
 |true=>exact .inl ⟨rfl,Q,q,h⟩
 |false=>exact .inr ⟨rfl,Q,q,h⟩
theorem PostS.ex2{δ1 δ2:Type}{P P2:δ1->δ2->Prop}{r:δ1->δ2->Out}(p:PostS D W φ α H E (λQ=>∃x y,P x y/\P2 x y/\r x y Q)):∃x y,P x y/\P2 x y/\PostS D W φ α H E (r x y):=by
 obtain⟨Q,⟨x,y,h1,h2,q⟩,h⟩:=p
 exact⟨x,y,h1,h2,Q,q,h⟩
theorem PostS.ex1{δ1:Type}{P P2:δ1->Prop}{r:δ1->Out}(p:PostS D W φ α H E (λQ=>∃x,P x/\P2 x/\r x Q)):∃x,P x/\P2 x/\PostS D W φ α H E (r x):=by
 obtain⟨Q,⟨x,h1,h2,q⟩,h⟩:=p
 exact⟨x,h1,h2,Q,q,h⟩
theorem PostS.out{β:Type}{r:RE β}{kk:β->Mem->Out}(sr:SRel D φ α H τ σ)(p:PostS D W φ α H E (r.out τ kk)):Post D W φ α H σ (λt μ' α' H'=>PostS D W φ α' H' E (kk t μ')) r:=by
 obtain⟨Q,q,h⟩:=p
 refine⟨_,_,q,λa μ' e α' H' st m=>PostS.step ⟨Q,e,h⟩ st,λc fs μ' e α' H' C d st m ad xd=>?_⟩
 exact h.ex c fs τ μ' e α' H' σ C d st m (sr.step st) ad xd
theorem Yz(ha:PE X a (rdE D W f)):PS X (.Return (some a) pos) (rdS D W (zG f)):=by
 rintro pins s σ H E I ⟨φ,α,τ,μ,sr,mr,p⟩
 refine Ud ha pins s σ H E I ⟨φ,α,τ,μ,sr,mr,(PostS.out sr p).mono λt μ' α' H' st m q v d=>PostS.rt q (Stp.refl _ _) m d⟩
theorem Kj:PS X (.Return none pos) (rdS D W Vd):=by
 rintro pins s σ H E I ⟨φ,α,τ,μ,sr,mr,p⟩
 exact KW pins s σ H E I (PostS.rt p (Stp.refl _ _) mr rfl)
theorem Ks(hs:swapsWith a none pos.line X.env=pure false)(ha:PE X a (rdE D W f)):PS X (.Expr a pos) (rdS D W (zo f)):=by
 rintro pins s σ H E I ⟨φ,α,τ,μ,sr,mr,p⟩
 refine Qr ha hs pins s σ H E I ⟨φ,α,τ,μ,sr,mr,(PostS.out sr p).mono λt μ' α' H' st m q v d=>PostS.nx q (Stp.refl _ _) m (sr.step st)⟩
theorem Xk:PSs X [] (rdS D W (zU [])):=by
 rintro pins s σ H E I ⟨φ,α,τ,μ,sr,mr,p⟩
 exact Xq pins s σ H E I (PostS.nx p (Stp.refl _ _) mr sr)
theorem Vl{st:Stmt}{r:List Stmt}{fs:List Ds}(h1:PS X st (rdS D W u))(h2:PSs X r (rdS D W (zU fs))):PSs X (st::r) (rdS D W (zU (u::fs))):=by
 rintro pins s σ H E I ⟨φ,α,τ,μ,sr,mr,Q,q,h3,h4,h5,h6,h7⟩
 refine uJ h1 h2 pins s σ H E I ⟨φ,α,τ,μ,sr,mr,_,q,λτ1 μ1 e α' H' σ' st m sr'=>?_,h4,h5,h6,h7⟩
 exact⟨φ,α',τ1,μ1,sr',m,PostS.step ⟨Q,e,h3,h4,h5,h6,h7⟩ st⟩
noncomputable def Z2 (X:Cx)(D:DP)(W:XW):List Stmt->List Ds->Prop
 |[],[]=>True
 |e::es,f::fs=>PS X e (rdS D W f)/\Z2 X D W es fs
 |_,_=>False
theorem vW:∀{sts:List Stmt} {fs:List Ds},Z2 X D W sts fs->PSs X sts (rdS D W (zU fs))
 |[],[],_=>Xk
 |st::r,f::fs,h=>Vl h.1 (vW h.2)
 |[],_::_,h=>h.elim
 |_::_,[],h=>h.elim
theorem z1l{ft:Dt}{as bs:List Stmt}{us vs:List Ds}(hc:PT X c (rdT D W ft))(ha:Z2 X D W as us)(hb:Z2 X D W bs vs):PS X (.If c as bs pos) (rdS D W (sIf ft us vs)):=by
 rintro pins s σ H E I ⟨φ,α,τ,μ,sr,mr,p⟩
 refine z0B hc (vW ha) (vW hb) pins s σ H E I ⟨φ,α,τ,μ,sr,mr,(PostS.out sr p).mono λb μ' α' H' st m q=>?_⟩
 rcases PostS.br q with⟨rfl,q⟩|⟨rfl,q⟩
 ·exact⟨φ,α',τ,μ',sr.step st,m,q⟩
 ·exact⟨φ,α',τ,μ',sr.step st,m,q⟩
noncomputable def nFz (Γ:Cn)(tg:Expr):Bool:=(z6 tg).all λx=>!Γ.fz.contains x
theorem uB{tg:Expr}(h:nFz Γ tg=true)(m:∀x∈z6 tg,x∈Γ.N):∀x∈z6 tg,x∈Γ.sto:=λx hx=>List.mem_filter.mpr ⟨m x hx,List.all_eq_true.mp h x hx⟩
theorem Vc(C:Sk D W Γ X k){x:Str}{i:Nat}{p0:Pos}(hi:idx Γ.N x=some i)(hz:nFz Γ (.Name x p0)=true)(hs:swapsWith a (some (.Name x p0)) pos.line X.env=pure false)(ha:PE X a (rdE D W f)):PS X (.Assign [.Name x p0] a pos) (rdS D W (zf i f)):=by
 rintro pins s σ H E I ⟨φ,α,τ,μ,sr,mr,p⟩
 have hx:=uB hz (λy hy=>by rw[List.mem_singleton.mp hy];exact qH hi) x (List.mem_singleton.mpr rfl)
 refine YR (i:=i) (X:=X) (by rw[C.hN];exact C.nd) (by rw[C.hN];exact qW hi) (C.sto x hx).1 ha hs (C.sto x hx).2 pins s σ H E I ⟨φ,α,τ,μ,sr,mr,(PostS.out sr p).mono λt μ' α' H' st m q v d=>?_⟩
 exact PostS.nx q (Stp.refl _ _) m ((sr.step st).set d)
theorem uY{N:List Str}:∀{es:List Expr} {is:List Nat},idxs N es=some is->∀e∈es,∀x p,e=.Name x p->x∈N
 |[],_,_,e,he,_,_,_=>absurd he (by simp)
 |e0::es,is,h,e,he,x,p,hx=>by
  cases e0 with
  |Name y p0=>
   simp only[idxs] at h
   split at h
   ·rename_i i is' hi his
    rcases List.mem_cons.mp he with rfl|he
    ·cases hx;exact qH hi
    ·exact uY his e he x p hx
   ·cases h
  |_=>simp[idxs] at h
theorem Je{N:List Str}{e:Expr}{tgt:Tg}(h:qT N e=some tgt):∀x∈z6 e,x∈N:=by
 intro x hx
 cases e with
 |Name y p=>
  simp[z6] at hx
  subst hx
  simp only[qT] at h
  cases q:idx N x with
  |none=>rw[q] at h;cases h
  |some i=>exact qH q
 |Tuple es kk p=>
  obtain⟨e,he,q⟩:=List.mem_filterMap.mp hx
  simp only[qT] at h
  cases q2:idxs N es with
  |none=>rw[q2] at h;cases h
  |some is=>
   cases e with
   |Name y p0=>
    have q:some y=some x:=q
    cases q
    exact uY q2 _ he x p0 rfl
   |_=>cases q
 |_=>simp[z6] at hx
theorem XD(C:Sk D W Γ X k)(hc:X.calm=true){tg:Expr}{tgt:Tg}(ht:qT Γ.N tg=some tgt)(hz:nFz Γ tg=true):PG X tg (λv σ H Q=>∃φ α τ t τ',SRel D φ α H τ σ/\Den D φ α H t v/\asg tgt t τ=some τ'/\∀σ',SRel D φ α H τ' σ'->Q σ' H):=by
 rintro pins s σ H v u Q I r ⟨φ,α,τ,t,τ',sr,d,ha,q⟩
 refine thn (Z_ (S:=Γ.sto) C.hN C.nd C.sto hc (uB hz (Je ht)) ht ha I sr d r) ?_
 rintro _ s1 ⟨σ',I1,sr'⟩
 exact⟨σ',H,I1,q σ' sr'⟩
noncomputable def j7:Expr->Bool
 |.Call _ _ _ _=>true
 |.Name _ _=>true
 |.Subscript _ _ _=>true
 |.Attribute _ _ _=>true
 |_=>false
theorem z0l(C:Sk D W Γ X k)(hc:Γ.calm=true){es:List Expr}{is:List Nat}{kk:Nat}{p0:Pos}(hp:j7 a=true)(hn:idxs Γ.N es=some is)(hz:nFz Γ (.Tuple es kk p0)=true)(ha:PE X a (rdE D W f)):PS X (.Assign [.Tuple es kk p0] a pos) (rdS D W (z1A is f)):=by
 rintro pins s σ H E I ⟨φ,α,τ,μ,sr,mr,p⟩
 have h1:swapsWithSole [.Tuple es kk p0] a pos.line X.env=pure false:=by cases a<;>first|(simp[j7] at hp;done)|rfl
 have h2:swappedStores [.Tuple es kk p0] a X.env=pure none:=by cases a<;>first|(simp[j7] at hp;done)|rfl
 refine V5 ha (XD C (C.clm hc) (tg:=.Tuple es kk p0) (tgt:=.tup is) (by simp[qT,hn]) hz) h1 h2 rfl pins s σ H E I ⟨φ,α,τ,μ,sr,mr,(PostS.out sr p).mono λt μ' α' H' st m q v d=>?_⟩
 obtain⟨τ',h,q⟩:=PostS.som q
 exact⟨φ,α',τ,t,τ',sr.step st,d,h,λσ' sr'=>PostS.nx q (Stp.refl _ _) m sr'⟩
theorem UI(C:Sk D W Γ X k){o:Expr}{x:Str}{n:Nat}{p1:Pos}{go:De}(hn:(x,n)∈Γ.fld)(ha:PE X a (rdE D W f))(ho:PE X o (rdE D W go)) :
  PS X (.Assign [.Attribute o x p1] a pos) (rdS D W (qq go n f)):=by
 rintro pins s σ H E I ⟨φ,α,τ,μ,sr,mr,p⟩
 have hs:swapsWith a (some (.Attribute o x p1)) pos.line X.env=pure false:=by cases a<;>rfl
 refine z04 ho ha hs pins s σ H E I ⟨φ,α,τ,μ,sr,mr,(PostS.out sr p).mono λt μ1 α1 H1 st1 m1 q v d=>?_⟩
 have sr1:=sr.step st1
 refine⟨φ,α1,τ,μ1,sr1,m1,(PostS.out sr1 q).mono λot μ2 α2 H2 st2 m2 q2 ov dv=>?_⟩
 split at q2
 case h_2=>exact PostS.elim q2
 rename_i i
 obtain⟨c,fs,hμ,hl,q2⟩:=PostS.ex2 q2
 obtain⟨y,hx,rfl⟩:=dv
 obtain⟨C0,dx,gs,ad,hH,df⟩:=m2.ob i y _ hx hμ
 obtain⟨fx,cl,na⟩:=C.fld c C0 x n ad hn
 refine⟨y,C0,dx,gs,rfl,hH,cl,na,by rw[←df.length];omega,?_⟩
 have st3:Stp α2 H2 α2 (upd H2 y (.ins C0 dx (wa x v gs))):=Stp.turn (List.mem_of_getElem? hx) ⟨_,hH⟩
 have hi:i<μ2.length:=(List.getElem?_eq_some_iff.mp hμ).1
 exact PostS.nx q2 st3 (m2.turn hx hi st3 ⟨C0,dx,_,ad,z8,DenF.put fx (df.step st3) ((d.step st2).step st3)⟩) ((sr1.step st2).step st3)
theorem set_list:z1t X (λo i v H Q=>∃l k xs,o=.ref l/\i=.int k/\H l=some (.lst xs)/\0<=k/\k<xs.length/\k<9223372036854775808/\Q (upd H l (.lst (xs.set k.toNat v)))):=by
 intro pins s σ H o i v ov iv u Q I ro ri rv h
 obtain⟨l,k,xs,rfl,rfl,hH,h0,h1,h2,q⟩:=h
 cases ro
 obtain⟨t,rfl⟩:=ri
 obtain⟨z,its,n,r,hl,e⟩:=I.lstM hH
 refine PySem.W.ki_setAt (n:=n) (items:=its.toArray) e h0 (by simpa using h2) (by rw[List.size_toArray,←hl];exact h1) ?_
 exact⟨_,I.lset (t':=s.toks) (ys:=xs.set k.toNat v) (its':=its.set k.toNat u) (f:=λa=>a.setIfInBounds k.toNat u) hH e (by simp) (Vals.set rv _ r) (by rw[List.length_set];exact z),q⟩
theorem UH(C:Sk D W Γ X k){o:Expr}{p1:Pos}{fo fb:De}(hb':qY b=true)(ha:PE X a (rdE D W f))(ho:PE X o (rdE D W fo))(hb:PE X b (rdE D W fb)) :
  PS X (.Assign [.Subscript o b p1] a pos) (rdS D W (Ki fo fb f)):=by
 rintro pins s σ H E I ⟨φ,α,τ,μ,sr,mr,p⟩
 have h1:swapsWithSole [.Subscript o b p1] a pos.line X.env=pure false:=by cases a<;>rfl
 have h2:swappedStores [.Subscript o b p1] a X.env=pure none:=by cases a<;>rfl
 refine V5 ha (Ua ho hb set_list (λv=>by cases b<;>first|(simp[qY] at hb';done)|rfl)) h1 h2 rfl pins s σ H E I ⟨φ,α,τ,μ,sr,mr,(PostS.out sr p).mono λt μ1 α1 H1 st1 m1 q v d=>?_⟩
 have sr1:=sr.step st1
 refine⟨φ,α1,τ,μ1,sr1,m1,(PostS.out sr1 q).mono λot μ2 α2 H2 st2 m2 q2 ov dv=>?_⟩
 have sr2:=sr1.step st2
 refine⟨φ,α2,τ,μ2,sr2,m2,(PostS.out sr2 q2).mono λit μ3 α3 H3 st3 m3 q3 iv di=>?_⟩
 have d3:=(d.step st2).step st3
 split at q3
 case h_2=>exact PostS.elim q3
 rename_i i kk
 have dv:=dv.step st3
 obtain⟨ts,hμ,hk,q3⟩:=PostS.ex1 q3
 obtain⟨x,hx,rfl⟩:=dv
 have di:iv=.int kk:=di
 subst di
 obtain⟨xs,hH,l⟩:=m3.ob i x _ hx hμ
 have st4:Stp α3 H3 α3 (upd H3 x (.lst (xs.set kk.toNat v))):=Stp.turn (List.mem_of_getElem? hx) ⟨_,hH⟩
 have hi:i<μ3.length:=(List.getElem?_eq_some_iff.mp hμ).1
 exact⟨x,kk,xs,rfl,rfl,hH,hk.1,by rw[←l.length];exact hk.2.1,hk.2.2,PostS.nx q3 st4 (m3.turn hx hi st4 ⟨_,z8,DenL.set (l.step st4) (d3.step st4)⟩) ((sr2.step st3).step st4)⟩
theorem z0a(C:Sk D W Γ X k)(hc:Γ.calm=true){tg iter:Expr}{tgt:Tg}(ht:qT Γ.N tg=some tgt)(hz:nFz Γ tg=true){fi:Di}{body:List Stmt}{vs:List Ds}(hi:PI X tg iter (rdI D W fi))(hb:Z2 X D W body vs)(hs:∀x,foldedSetIterable iter X.env x=pure x) :
  PS X (.For tg iter body [] pos) (rdS D W (Jb tgt fi vs)):=by
 rintro pins s σ H E I ⟨φ,α,τ,μ,sr,mr,p⟩
 refine Uj C.pso (C.clm hc) hi (XD C (C.clm hc) ht hz) (vW hb) hs pins s σ H E I ⟨φ,α,τ,μ,sr,mr,(PostS.out sr (show PostS D W φ α H E ((fi τ μ).re.out τ λpr μ1=>forM tgt (zU vs) pr.2 pr.1 τ μ1) from p)).mono λpr μ1 α1 H1 st1 m1 q J Ok iv okk lv1=>?_⟩
 obtain⟨xs,o⟩:=pr
 obtain⟨Q,q,h1,h2,h3,h4,h5⟩:=q
 refine⟨λi m σ' H'=>m=xs.length-i/\i<=xs.length/\∃α' τ' μ',Stp α1 H1 α' H'/\MRel D φ α' H' μ'/\SRel D φ α' H' τ' σ'/\o μ'/\forM tgt (zU vs) o (xs.drop i) τ' μ' Q,⟨xs.length,by simp,Nat.zero_le _,α1,τ,μ1,Stp.refl _ _,m1,sr.step st1,lv1,by simpa using q⟩,?_⟩
 rintro i m σ' H' ⟨rfl,hi',α',τ',μ',stp,mr',sr',lv',pf⟩
 have okH:Ok φ α' H':=okk _ α' H' μ' stp.lk mr' lv'
 by_cases hlt:i<xs.length
 ·refine .inr ⟨iv.go i _ _ H' okH hlt,λσ2 H2=>∃α2 τ2 μ2,Stp α1 H1 α2 H2/\MRel D φ α2 H2 μ2/\SRel D φ α2 H2 τ2 σ2/\o μ2/\forM tgt (zU vs) o (xs.drop (i+1)) τ2 μ2 Q,λσ2 H2 h2=>⟨xs.length-(i+1),by omega,rfl,hlt,h2⟩,λx H2 y=>?_⟩
  obtain⟨sm,dx⟩:=iv.yld i _ _ H' x H2 xs[i] okH (by simp[hlt]) y
  have stp:=stp.trans (Stp.new (α:=α') sm)
  have sr':=sr'.step (Stp.new (α:=α') sm)
  have mr':=mr'.new sm
  rw[List.drop_eq_getElem_cons hlt] at pf
  obtain⟨τ3,ha,pf⟩:=pf
  refine⟨φ,α',τ',xs[i],τ3,sr',dx,ha,λσ3 sr3=>⟨φ,α',τ3,μ',sr3,mr',_,pf,?_,?_,?_,?_,?_⟩⟩
  ·exact λτ4 μ4 e α4 H4 σ4 st4 m4 sr4=>⟨α4,τ4,μ4,stp.trans st4,m4,sr4,e⟩
  ·exact λτ4 μ4 e α4 H4 σ4 st4 m4 sr4=>h1 τ4 μ4 e α4 H4 σ4 (stp.trans st4) m4 sr4
  ·exact λτ4 μ4 e α4 H4 σ4 st4 m4 sr4=>⟨α4,τ4,μ4,stp.trans st4,m4,sr4,e⟩
  ·exact λt μ4 e α4 H4 v st4 m4 d4=>h4 t μ4 e α4 H4 v (stp.trans st4) m4 d4
  ·exact λc fs τ4 μ4 e α4 H4 σ4 Cc d st4 m4 sr4=>h5 c fs τ4 μ4 e α4 H4 σ4 Cc d (stp.trans st4) m4 sr4
 ·have hie:i=xs.length:=by omega
  rw[hie,List.drop_length] at pf
  exact .inl ⟨by rw[hie];exact iv.stop _ _ H' okH,h1 τ' μ' pf α' H' σ' stp mr' sr'⟩
theorem Xt(C:Sk D W Γ X k)(hc:Γ.calm=true){tg iter elt:Expr}{sc:Scope}{fi:Di}{fs:List Nat}{tgt:Tg}{ifs:List Expr}{cs:List Dt}{fe:De}{x:Str}{ix:Nat}{p0 p1:Pos}(hix:idx Γ.N x=some ix)(hz:nFz Γ (.Name x p0)=true)(ok:CompOk Γ.N Γ.cel tg sc)(hfs:vp Γ.N (frees sc)=some fs)(htg:qT (z6 tg++frees sc) tg=some tgt)(hi:PI X tg iter (rdI D W fi))(hel:∀X' W',Ck D W' (inComp Γ tg sc) X' k->PE X' elt (rdE D W' fe))(hts:∀X' W',Ck D W' (inComp Γ tg sc) X' k->Zy X' D W' ifs cs)(hs:∀x,foldedSetIterable iter X.env x=pure x)
  (own:Bool) (hsw:swapsWith (.ListComp elt [⟨tg,iter,ifs,0⟩] sc p1) (some (.Name x p0)) pos.line X.env=pure true) :
  PS X (.Assign [.Name x p0] (.ListComp elt [⟨tg,iter,ifs,0⟩] sc p1) pos) (rdS D W (zf ix (match own with|true=>wR (z6 tg).length fs tgt fi cs fe|false=>jQ (z6 tg).length fs tgt fi cs fe))):=by
 rintro pins s σ H E I ⟨φ,α,τ,μ,sr,mr,p⟩
 rw[exec_Assign_Name_used _ _ _ _ hsw]
 refine wpAny_bind (wpAny_standAt (wpAny_bind ?_))
 show wpAny _ _ (do let _ ←comprehension (.ListComp elt [⟨tg,iter,ifs,0⟩] sc p1) sc X.env _ (newList []) false (eval iter X.env) (some (assign (.Name x p0) X.env))) _ _ s
 refine wpAny_bind (thn (jA (kk:=λys μ=>match own with|true=>RE.ok (T.mut μ.length) (μ++[MO.lst ys])|false=>RE.ok (T.lst ys) μ) (use:=some (assign (.Name x p0) X.env)) (Qf:=λ_ s'=>∃σ' H',Inv X pins σ' H' s'/\E.nx σ' H') C.toCk hc ok hfs htg hi hel hts hs I sr mr (PostS.out sr (by cases own<;>exact p)) ?_) λ_ s' hq=>wpAny_pure (wpAny_pure hq))
 rintro acc C0 s' α1 H1 H' α' ys vs μ' I' st1 st hn nph nal sr' m ha dl post xo hp ⟨mm,hm⟩
 have hx:=qH hix
 obtain⟨oc,es,ep,hoc,hdc,hrest⟩:=hm
 have I2:Inv X (pins++[(C0,oc)]) σ H' s':=I'.pins_of λp hp'=>(List.mem_append.mp hp').elim (λz=>I'.pin p (List.mem_append_right _ z)) λz=>by
  rw[List.mem_singleton.mp z]
  exact⟨hoc,xo.free,xo.loc,xo.nfs,λv e=>by rw[hdc] at e;cases e⟩
 have fin:∀{α'':List Addr} {t:T} {μ2:Mem},SRel D φ α'' H' τ σ->Den D φ α'' H' t (.ref acc)->(∀σ',SRel D φ α'' H' (k8 τ ix (some t)) σ'->E.nx σ' H')->wpAny (model X.prog X.w) X.A (assign (.Name x p0) X.env (.ref acc)) (λ_ t2=>∃m,t2.heap.Ns C0 m/\∀g,Heap.SameBut C0 t2.heap g->∃σ' H',Inv X pins σ' H' {t2 with heap:=g}/\E.nx σ' H') X.xe s':=λ{α'' t μ2} sr2 d q=>by
  refine thn (Z_ (e:=.Name x p0) (S:=Γ.sto) (tgt:=.one ix) (t:=t) (τ:=τ) C.hN C.nd C.sto (C.clm hc) (uB hz λy hy=>by rw[List.mem_singleton.mp hy];exact hx) (by simp[qT,hix]) rfl I2 sr2 d (show RelV (.ref acc) (.ref acc) from rfl)) ?_
  rintro _ s2 ⟨σ',I3,sr3⟩
  have hpin:=(I3.pin (C0,oc) (List.mem_append_right _ (List.mem_append_right _ (List.mem_singleton.mpr rfl)))).1
  refine⟨mm,⟨oc,es,ep,hpin,hdc,hrest⟩,λg sb=>⟨σ',H',?_,q σ' sr3⟩⟩
  exact kj (I3.pins_of λp hp'=>I3.pin p (List.mem_append_right _ (List.mem_append_left _ hp'))) xo hp sb
 cases own with
 |false=>
  obtain⟨m2,d,post⟩:=Zk (kk:=λt μ=>RE.ok t μ) st hn nph m ha dl post
  exact fin (μ2:=μ') (sr'.lk wj) d λσ' sr3=>PostS.nx (post.ok (Stp.refl _ _) m2) (Stp.refl _ _) m2 sr3
 |true=>
  obtain⟨st2,m2,d⟩:=yD st hn nph m ha dl
  exact fin (μ2:=μ') (sr'.lk vL) d λσ' sr3=>PostS.nx (post.ok st2 m2) (Stp.refl _ _) m2 sr3
end
noncomputable def z15(C:Addr)(h:Heap):Prop:=∃tl N nm q bs hd sn sub ab col dd k0 k1 k2 k3 k5 mN,h.get? C=some (excClassObj nm q C N bs tl hd sn sub ab col dd k0 k1 k2 k3 k5 "ValueError.__new__")/\h.Ns N mN/\mN "__init__"=none/\OwnTail h zQ tl
theorem Zo {K:PySem.W.Frag} {h:Heap} {C:Addr} (kin:K.In h) (e:PySem.W.excIn K C zQ "ValueError.__new__"=true):z15 C h:=by
 simp only[PySem.W.excIn] at e
 revert e
 cases hk:K.lookup C with
 |none=>intro e;cases e
 |some o=>
  intro e
  split at e
  case h_2=>cases e
  rename_i dd cd sl ho
  cases ho
  split at e
  case h_2=>cases e
  rename_i C' tl k0 k1 k2 k3 n k5 hm hs
  simp only[Bool.and_eq_true,beq_iff_eq,Bool.not_eq_true'] at e
  obtain⟨⟨⟨⟨⟨e1,e2⟩,e3⟩,e4⟩,e5⟩,e6⟩:=e
  cases cd
  rename_i nm bs mro ns qn hd sn sub ab col del
  simp only at hm e3 e5 e6
  cases e1;cases e2;cases hm;cases e3
  have hsl:sl=#[k0,k1,k2,k3,some (.builtin "ValueError.__new__"),k5]:=by
   cases sl;simp only at hs;rw[hs]
  cases hsl
  exact⟨tl,ns,nm,qn,bs,hd,sn,sub,ab,col,dd,k0,k1,k2,k3,k5,h.nsMap ns,kin _ _ hk,.of_isNs (PySem.W.isNs_of_in kin e5),PySem.W.nsMap_none_of_in kin e5 e6,PySem.W.tail_of_in kin e4⟩
section
variable {X:Cx}{D:DP}{W:XW}{Γ:Cn}{k:Nat}{pins:List (Addr×Obj)}{s:Shared}{σ:St}{H:Hp}{φ α:List Addr}{τ:Sl}{μ:Mem}{a b c e:Expr}{pos:Pos}{E:Ends}{es:List Expr}{fs:List De}
theorem Vx(C:Sk D W Γ X k)(hc:Γ.calm=true){x:Str}{n:Nat}{p0 p1:Pos}(hx:x∈Γ.G)(hg:Γ.gl x=.xcl n)(ha:EsOk X D W (a::es) fs) :
  PS X (.Raise (some (.Call (.Name x p0) (a::es) [] p1)) none pos) (rdS D W (qh n fs)):=by
 rintro pins s σ H E I ⟨φ,α,τ,μ,sr,mr,p⟩
 have q:=C.glo x hx
 rw[hg] at q
 obtain⟨C0,ad,hm,hex⟩:=q
 have hs:=ha.stars
 obtain⟨tl,N,nm,qn,bs,hd,sn,sub,ab,col,dd,k0,k1,k2,k3,k5,mN,o1,o2,o3,o4⟩:=Zo I.ok.mod.kin hex
 have hb:tl.contains (.type "BaseException")=true:=o4.hasType PySem.F.excBase_ValueError.hasBase
 have hp:(backTo p1 (starEach (a::es) X.env)).any (·.1)=false:=qm hs
 refine wpAny_Raise_call_subT (nm:=nm) (q:=qn) (C:=C0) (N:=N) (bs:=bs) (bm:=tl) (hdct:=hd) (sn:=sn) (sub:=sub) (ab:=ab) (col:=col) (dd:=dd) (k0:=k0) (k1:=k1) (k2:=k2) (k3:=k3) (k5:=k5) (mN:=mN) PySem.F.excBase_ValueError hb (I.ok.hd (C.clm hc)) hp o3 ?_
 refine wN I (C.glb x hx) hm ⟨rfl,?_⟩ (C.dbG x hx)
 have hs1:noStar a=true:=by simp only[List.all_cons,Bool.and_eq_true] at hs;exact hs.1
 have sA:=thn (wx ha p1 pins s σ H (λvs H1=>∃ts μ1 α1,Stp α H α1 H1/\SRel D φ α1 H1 τ σ/\MRel D φ α1 H1 μ1/\DenL D φ α1 H1 ts vs/\PostS D W φ α1 H1 E (.grd (ts.length<=room) (.ex n [] τ μ1))) I ⟨φ,α,τ,μ,sr,mr,(PostS.out sr p).mono λts μ' α' H' st m q vs d _=>⟨ts,μ',α',st,sr.step st,m,d,q⟩⟩) (Q':=λus s1=>us.length<=sizeLine/\s1.heap.get? C0=some (excClassObj nm qn C0 N bs tl hd sn sub ab col dd k0 k1 k2 k3 k5 "ValueError.__new__")/\s1.heap.Ns N mN/\OwnTail s1.heap zQ tl/\∀h' e,Heap.MadeExcOf s1.heap h' e (.ref C0) us->X.xe (.ref e) {s1 with heap:=h'}) ?_
 ·rw[z7 hs1] at sA ⊢
  exact Calls.evalArgs_plain (thn sA λus s1 h1=>⟨rfl,h1⟩)
 ·rintro us s1 ⟨vs,H1,I1,r,ts,μ1,α1,st,sr1,m1,dl,q⟩
  obtain⟨hl,q⟩:=PostS.grd q
  refine⟨?_,I1.bk _ _ o1,o2.keeps I1.bk,o4.keeps I1.bk,λh' e mk=>?_⟩
  ·have e1:=dl.length
   have e2:=r.length
   have:=zB hl
   rw[←e2,←e1]
   exact this
  ·exact C.xe _ _ (Xy I1 mk (PostS.ex q (Stp.refl _ _) m1 sr1 ad rfl))
end
structure Rec where
 e:Cn->Expr->Option De
 t:Cn->Expr->Option Dt
 w:Cn->Expr->Option Dt
 i:Cn->Expr->Option Di
 o:Cn->Expr->Option De
 s:Cn->Stmt->Option Ds
noncomputable abbrev ER:=Rec->Cn->Expr->Option De
noncomputable abbrev TR:=Rec->Cn->Expr->Option Dt
noncomputable abbrev IR:=Rec->Cn->Expr->Option Di
noncomputable abbrev SR:=Rec->Cn->Stmt->Option Ds
structure Rules where
 e:List ER
 t:List TR
 w:List TR
 i:List IR
 o:List ER
 s:List SR
noncomputable def ud {α β:Type}:List (Rec->Cn->α->Option β)->Rec->Cn->α->Option β
 |[],_,_,_=>none
 |f::fs,r,Γ,e=>match f r Γ e with
  |some d=>some d
  |none=>ud fs r Γ e
noncomputable def comp (R:Rules):Nat->Rec
 |0=>⟨λ_ _=>none,λ_ _=>none,λ_ _=>none,λ_ _=>none,λ_ _=>none,λ_ _=>none⟩
 |n+1=>⟨ud R.e (comp R n),ud R.t (comp R n),ud R.w (comp R n),ud R.i (comp R n),ud R.o (comp R n),ud R.s (comp R n)⟩
noncomputable def JD(tg e:Expr):Bool:=match e with
 |.Call (.Name x _) _ _ _=>(x != ("enumerate":Str)&&x != ("zip":Str)) || (match tg with|.Tuple _ _ _=>true|_=>false)
 |_=>true
structure RecOk(D:DP)(r:Rec):Prop where
 e:∀{X W Γ k e f},Ck D W Γ X k->r.e Γ e=some f->PE X e (rdE D W f)
 t:∀{X W Γ k e f},Ck D W Γ X k->r.t Γ e=some f->PT X e (rdT D W f)
 w:∀{X W Γ k e f},Ck D W Γ X k->r.w Γ e=some f->PW X e (rdT D W f)
 i:∀{X W Γ k tg e f},Ck D W Γ X k->JD tg e=true->r.i Γ e=some f->PI X tg e (rdI D W f)
 o:∀{X W Γ k e f},Ck D W Γ X k->r.o Γ e=some f->PE X e (rdE D W f)
 s:∀{X W Γ k e f},Sk D W Γ X k->r.s Γ e=some f->PS X e (rdS D W f)
noncomputable def EOk (D:DP)(f:ER):Prop:=∀r,RecOk D r->∀{X W Γ k e d},Ck D W Γ X k->f r Γ e=some d->PE X e (rdE D W d)
noncomputable def TOk (D:DP)(f:TR):Prop:=∀r,RecOk D r->∀{X W Γ k e d},Ck D W Γ X k->f r Γ e=some d->PT X e (rdT D W d)
noncomputable def WOk (D:DP)(f:TR):Prop:=∀r,RecOk D r->∀{X W Γ k e d},Ck D W Γ X k->f r Γ e=some d->PW X e (rdT D W d)
noncomputable def IOk (D:DP)(f:IR):Prop:=∀r,RecOk D r->∀{X W Γ k tg e d},Ck D W Γ X k->JD tg e=true->f r Γ e=some d->PI X tg e (rdI D W d)
noncomputable def SOk (D:DP)(f:SR):Prop:=∀r,RecOk D r->∀{X W Γ k e d},Sk D W Γ X k->f r Γ e=some d->PS X e (rdS D W d)
noncomputable def jT{α:Type}(P:α->Prop):List α->Prop
 |[]=>True
 |f::fs=>P f/\jT P fs
structure RulesOk(D:DP)(R:Rules):Prop where
 e:jT (EOk D) R.e
 t:jT (TOk D) R.t
 w:jT (WOk D) R.w
 i:jT (IOk D) R.i
 o:jT (EOk D) R.o
 s:jT (SOk D) R.s
theorem wI{α β:Type}{P:(Rec->Cn->α->Option β)->Prop}{C:Prop}{r:Rec}{Γ:Cn}{e:α}{d:β}:∀{fs:List (Rec->Cn->α->Option β)},jT P fs->(∀f,P f->f r Γ e=some d->C)->ud fs r Γ e=some d->C
 |[],_,_,h=>by cases h
 |f::fs,a,k,h=>by
  unfold ud at h
  cases q:f r Γ e with
  |some d'=>rw[q] at h;cases h;exact k f a.1 q
  |none=>rw[q] at h;exact wI a.2 k h
theorem qG{D:DP}{R:Rules}(H:RulesOk D R):∀n,RecOk D (comp R n)
 |0=>⟨λ_ h=>(by cases h),λ_ h=>(by cases h),λ_ h=>(by cases h),λ_ _ h=>(by cases h),λ_ h=>(by cases h),λ_ h=>(by cases h)⟩
 |n+1=>⟨λC h=>wI H.e (λf p q=>p _ (qG H n) C q) h,λC h=>wI H.t (λf p q=>p _ (qG H n) C q) h,λC h=>wI H.w (λf p q=>p _ (qG H n) C q) h,λC ht h=>wI H.i (λf p q=>p _ (qG H n) C ht q) h,λC h=>wI H.o (λf p q=>p _ (qG H n) C q) h,λC h=>wI H.s (λf p q=>p _ (qG H n) C q) h⟩
noncomputable def gd{α:Type}(b:Bool)(o:Option α):Option α:=match b with
 |true=>o
 |false=>none
theorem zF{α:Type}{b:Bool}{o:Option α}{x:α}(h:gd b o=some x):b=true/\o=some x:=by
 cases b with
 |true=>exact⟨rfl,h⟩
 |false=>cases h
theorem bnd{α β:Type}{o:Option α}{f:α->Option β}{x:β}(h:o.bind f=some x):∃a,o=some a/\f a=some x:=Option.bind_eq_some_iff.mp h
noncomputable def zx {α β:Type}(f:α->Option β):List α->Option (List β)
 |[]=>some []
 |a::r=>(f a).bind λb=>(zx f r).bind λbs=>some (b::bs)
noncomputable def cEs (r:Rec)(Γ:Cn)(es:List Expr):Option (List De):=zx (λe=>gd (noStar e) (r.e Γ e)) es
section
variable {D:DP}{r:Rec}{X:Cx}{W:XW}{Γ:Cn}{k:Nat}
theorem wF(h:RecOk D r)(C:Ck D W Γ X k):∀{es:List Expr} {fs:List De},cEs r Γ es=some fs->EsOk X D W es fs
 |[],fs,e=>by cases e;trivial
 |a::es,fs,e=>by
  obtain⟨f,h1,e⟩:=bnd e
  obtain⟨gs,h2,e⟩:=bnd e
  cases e
  obtain⟨h3,h4⟩:=zF h1
  exact⟨h3,h.e C h4,wF h C h2⟩
theorem vo(h:RecOk D r)(C:Ck D W Γ X k):∀{es:List Expr} {fs:List Dt},zx (r.t Γ) es=some fs->Zy X D W es fs
 |[],fs,e=>by cases e;trivial
 |a::es,fs,e=>by
  obtain⟨f,h1,e⟩:=bnd e
  obtain⟨gs,h2,e⟩:=bnd e
  cases e
  exact⟨h.t C h1,vo h C h2⟩
theorem vi(h:RecOk D r)(C:Sk D W Γ X k):∀{es:List Stmt} {fs:List Ds},zx (r.s Γ) es=some fs->Z2 X D W es fs
 |[],fs,e=>by cases e;trivial
 |a::es,fs,e=>by
  obtain⟨f,h1,e⟩:=bnd e
  obtain⟨gs,h2,e⟩:=bnd e
  cases e
  exact⟨h.s C h1,vi h C h2⟩
end
noncomputable def z0N:ER:=λ_ _ e=>match e with
 |.Constant c _ _=>(match c with
  |.int i=>some (eC (.int i))
  |.bool b=>some (eC (.bl b))
  |.none=>some (eC .non)
  |.str x=>some (eC (.str x))
  |_=>none)
 |_=>none
theorem K2{D:DP}:EOk D z0N:=by
 intro r H X W Γ k e d C h
 cases e with
 |Constant c j p=>
  cases c with
  |int i=>cases h;exact YV
  |bool i=>cases h;exact z1D
  |none=>cases h;exact Ui
  |str i=>cases h;exact YA
  |_=>cases h
 |_=>cases h
noncomputable def Y4:ER:=λ_ Γ e=>match e with
 |.Name x _=>(match idx Γ.N x with
  |some i=>some (eV i)
  |none=>(match Γ.look x with
   |.cst t=>some (eC t)
   |_=>none))
 |_=>none
theorem JV{D:DP}:EOk D Y4:=by
 intro r H X W Γ k e d C h
 cases e with
 |Name x p=>
  simp only[Y4] at h
  cases q:idx Γ.N x with
  |some i=>rw[q] at h;cases h;exact YX C q
  |none=>
   rw[q] at h
   cases hl:Γ.look x with
   |cst t=>
    simp only[hl] at h
    cases h
    obtain⟨hx,hg⟩:=w4 hl (by intro z;cases z)
    exact Ur C hx hg
   |_=>simp[hl] at h
 |_=>cases h
noncomputable def z0Y:ER:=λr Γ e=>match e with
 |.BinOp a op b _=>(r.e Γ a).bind λf=>(r.e Γ b).bind λg=>some (zb op f g)
 |_=>none
theorem Xs{D:DP}:EOk D z0Y:=by
 intro r H X W Γ k e d C h
 cases e with
 |BinOp a op b p=>
  obtain⟨f,h1,h⟩:=bnd h
  obtain⟨g,h2,h⟩:=bnd h
  cases h
  exact UO (H.e C h1) (H.e C h2)
 |_=>cases h
noncomputable def rUn:ER:=λr Γ e=>match e with
 |.UnaryOp op a _=>(r.e Γ a).bind λf=>(match op with
  |.USub=>some (z0D f)
  |.Not=>some (z08 f)
  |_=>none)
 |_=>none
theorem z0c{D:DP}:EOk D rUn:=by
 intro r H X W Γ k e d C h
 cases e with
 |UnaryOp op a p=>
  obtain⟨f,h1,h⟩:=bnd h
  cases op with
  |USub=>cases h;exact U2 (H.e C h1)
  |Not=>cases h;exact Yy (H.e C h1)
  |_=>cases h
 |_=>cases h
noncomputable def XR:ER:=λr Γ e=>match e with
 |.BoolOp op es p=>(match es with
  |[a]=>r.e Γ a
  |a::b::l=>(r.e Γ a).bind λf=>(r.e Γ (.BoolOp op (b::l) p)).bind λg=>some (match op with|.And=>WV f g|.Or=>eOr f g)
  |[]=>none)
 |_=>none
theorem Jv{D:DP}:EOk D XR:=by
 intro r H X W Γ k e d C h
 cases e with
 |BoolOp op es p=>
  match es with
  |[]=>cases h
  |[a]=>exact Yg (H.e C h)
  |a::b::l=>
   obtain⟨f,h1,h⟩:=bnd h
   obtain⟨g,h2,h⟩:=bnd h
   cases h
   cases op with
   |And=>exact U_ (H.e C h1) (H.e C h2)
   |Or=>exact z0O (H.e C h1) (H.e C h2)
 |_=>cases h
noncomputable def chs (r:Rec)(Γ:Cn):List CmpOp->List Expr->Option (List (CmpOp×De))
 |[],[]=>some []
 |op::ops,e::es=>gd (vP op) ((r.e Γ e).bind λf=>(chs r Γ ops es).bind λps=>some ((op,f)::ps))
 |_,_=>none
theorem Vn{D:DP}{r:Rec}{X:Cx}{W:XW}{Γ:Cn}{k:Nat}(H:RecOk D r)(C:Ck D W Γ X k):∀{ops:List CmpOp} {es:List Expr} {ps:List (CmpOp×De)},chs r Γ ops es=some ps->W_ X D W es ps/\ps.map (·.1)=ops/\ps.all (λp=>vP p.1)=true
 |[],[],ps,h=>by cases h;exact⟨trivial,rfl,rfl⟩
 |[],_::_,ps,h=>by cases h
 |_::_,[],ps,h=>by cases h
 |op::ops,e::es,ps,h=>by
  obtain⟨hb,h⟩:=zF h
  obtain⟨f,h1,h⟩:=bnd h
  obtain⟨qs,h2,h⟩:=bnd h
  cases h
  obtain⟨k1,k2,k3⟩:=Vn H C h2
  exact⟨⟨H.e C h1,k1⟩,by simp[k2],by simp[hb,k3]⟩
noncomputable def z0n (r:Rec)(Γ:Cn)(a:Expr)(ops:List CmpOp)(es:List Expr):Option De:=(r.e Γ a).bind λf=>(match ops,es with
 |[op],[b]=>gd (Zf op b) ((r.e Γ b).bind λg=>some (zj op f g))
 |_::_::_,_::_::_=>(chs r Γ ops es).bind λps=>some (eCh f ps)
 |_,_=>none)
theorem Qz{D:DP}{r:Rec}{X:Cx}{W:XW}{Γ:Cn}{k:Nat}(H:RecOk D r)(C:Ck D W Γ X k){a:Expr}{ops:List CmpOp}{es:List Expr}{p:Pos}{d:De}(h:z0n r Γ a ops es=some d):PE X (.Compare a ops es p) (rdE D W d)/\PT X (.Compare a ops es p) (rdT D W (tE d)):=by
 obtain⟨f,h1,h⟩:=bnd h
 match ops,es with
 |[op],[b]=>
  obtain⟨ho,h⟩:=zF h
  obtain⟨g,h2,h⟩:=bnd h
  cases h
  exact⟨Uq C ho (H.e C h1) (H.e C h2),Qm C ho (H.e C h1) (H.e C h2)⟩
 |op::op'::ops,e::e'::es=>
  obtain⟨ps,h2,h⟩:=bnd h
  cases h
  obtain⟨k1,k2,k3⟩:=Vn H C h2
  match ps with
  |[]=>cases k2
  |[p1]=>simp at k2
  |p1::p2::ps=>
   simp only[List.map_cons,List.cons.injEq] at k2
   obtain⟨rfl,rfl,rfl⟩:=k2
   exact⟨JM C k3 (H.e C h1) k1,Z3 C k3 (H.e C h1) k1⟩
 |[],es=>cases h
 |[_],[]=>cases h
 |[_],_::_::_=>cases h
 |_::_::_,[]=>cases h
 |_::_::_,[_]=>cases h
noncomputable def z1b:ER:=λr Γ e=>match e with
 |.Compare a ops es _=>z0n r Γ a ops es
 |_=>none
theorem Xo{D:DP}:EOk D z1b:=by
 intro r H X W Γ k e d C h
 cases e with
 |Compare a ops es p=>exact (Qz H C h).1
 |_=>cases h
noncomputable def z1r:ER:=λr Γ e=>match e with
 |.IfExp c a b _=>(r.t Γ c).bind λt=>(r.e Γ a).bind λf=>(r.e Γ b).bind λg=>some (eIf t f g)
 |_=>none
theorem KC{D:DP}:EOk D z1r:=by
 intro r H X W Γ k e d C h
 cases e with
 |IfExp c a b p=>
  obtain⟨t,h0,h⟩:=bnd h
  obtain⟨f,h1,h⟩:=bnd h
  obtain⟨g,h2,h⟩:=bnd h
  cases h
  exact z1G (H.t C h0) (H.e C h1) (H.e C h2)
 |_=>cases h
noncomputable def z0V:ER:=λr Γ e=>match e with
 |.Attribute a x _=>gd (qc a) ((r.e Γ a).bind λf=>(Γ.fld.lookup x).bind λn=>some (ze f n))
 |_=>none
theorem KG{D:DP}:EOk D z0V:=by
 intro r H X W Γ k e d C h
 cases e with
 |Attribute a x p=>
  obtain⟨hp,h⟩:=zF h
  obtain⟨f,h1,h⟩:=bnd h
  obtain⟨n,h2,h⟩:=bnd h
  cases h
  exact UA C hp (lookup_mem h2) (H.e C h1)
 |_=>cases h
noncomputable def prt (r:Rec)(Γ:Cn):Option Expr->Option Dp
 |none=>some pN
 |some e=>(r.e Γ e).bind λf=>some (pS f)
theorem JO{D:DP}{r:Rec}{X:Cx}{W:XW}{Γ:Cn}{k:Nat}(H:RecOk D r)(C:Ck D W Γ X k){o:Option Expr}{d:Dp}(h:prt r Γ o=some d):PO X o (rdO D W d):=by
 cases o with
 |none=>cases h;exact Xx
 |some e=>
  obtain⟨f,h1,h⟩:=bnd h
  cases h
  exact JS (H.e C h1)
noncomputable def UE:ER:=λr Γ e=>match e with
 |.Subscript a b _=>(match b with
  |.Slice lo hi st _=>(match st with
   |none=>(r.e Γ a).bind λf=>(prt r Γ lo).bind λl=>(prt r Γ hi).bind λu=>some (eSl f l u)
   |some _=>none)
  |b=>gd (qY b) ((r.e Γ a).bind λf=>(r.e Γ b).bind λg=>some (eIx f g)))
 |_=>none
theorem Kc{D:DP}:EOk D UE:=by
 intro r H X W Γ k e d C h
 cases e with
 |Subscript a b p=>
  have gen:∀{b},gd (qY b) ((r.e Γ a).bind λf=>(r.e Γ b).bind λg=>some (eIx f g))=some d->PE X (.Subscript a b p) (rdE D W d):=λ{b} h=>by
   obtain⟨hp,h⟩:=zF h
   obtain⟨f,h1,h⟩:=bnd h
   obtain⟨g,h2,h⟩:=bnd h
   cases h
   exact z16 hp C.hK (H.e C h1) (H.e C h2)
  cases b with
  |Slice lo hi st p2=>
   cases st with
   |some _=>cases h
   |none=>
    obtain⟨f,h1,h⟩:=bnd h
    obtain⟨l,h2,h⟩:=bnd h
    obtain⟨u,h3,h⟩:=bnd h
    cases h
    exact J7 (H.e C h1) (JO H C h2) (JO H C h3)
  |_=>exact gen h
 |_=>cases h
noncomputable def z0v:ER:=λr Γ e=>match e with
 |.List es _=>gd (decide (es.length<=room)) ((cEs r Γ es).bind λfs=>some (X1 fs))
 |.Tuple es _ _=>gd (decide (es.length<=room)) ((cEs r Γ es).bind λfs=>some (zE fs))
 |_=>none
theorem JW{D:DP}:EOk D z0v:=by
 intro r H X W Γ k e d C h
 cases e with
 |List es p=>
  obtain⟨hl,h⟩:=zF h
  obtain⟨fs,h1,h⟩:=bnd h
  cases h
  exact Yq (of_decide_eq_true hl) (wF H C h1)
 |Tuple es kk p=>
  obtain⟨hl,h⟩:=zF h
  obtain⟨fs,h1,h⟩:=bnd h
  cases h
  exact Jy (of_decide_eq_true hl) (wF H C h1)
 |_=>cases h
noncomputable def YY:ER:=λr Γ e=>match e with
 |.Call (.Name x _) es [] _=>gd ((idx Γ.N x).isNone&&Γ.calm) ((cEs r Γ es).bind λfs=>(match Γ.look x with
  |.fn g=>some (zd g fs)
  |.mk c true g=>some (eMk c g fs)
  |_=>none))
 |_=>none
theorem KA{D:DP}:EOk D YY:=by
 intro r H X W Γ k e d C h
 unfold YY at h
 split at h
 ·rename_i x p0 es pos
  obtain⟨hb,h⟩:=zF h
  simp only[Bool.and_eq_true] at hb
  obtain⟨fs,h1,h⟩:=bnd h
  cases hl:Γ.look x with
  |fn g=>
   simp only[hl] at h
   cases h
   obtain⟨hx,hg⟩:=w4 hl (by intro z;cases z)
   exact KZ C hx hg hb.2 (wF H C h1)
  |mk c z g=>
   cases z with
   |true=>
    simp only[hl] at h
    cases h
    obtain⟨hx,hg⟩:=w4 hl (by intro z;cases z)
    exact Xn C hx hg hb.2 (wF H C h1)
   |false=>simp[hl] at h
  |_=>simp[hl] at h
 ·cases h
noncomputable def rB1 (nm:Str)(op:T->Mem->RE T)(cl:Bool):ER:=λr Γ e=>match e with
 |.Call (.Name x _) [a] [] _=>gd (x == nm&&(idx Γ.N x).isNone&&noStar a&&(!cl || Γ.calm)) ((r.e Γ a).bind λf=>(match Γ.look x with
  |.none=>some (eB1 op f)
  |_=>none))
 |_=>none
theorem JB{D:DP}{nm:Str}{op:T->Mem->RE T}{cl:Bool}(H1:∀{X:Cx} {W:XW} {Γ:Cn} {k:Nat} {a:Expr} {f:De} {p0 pos:Pos},Ck D W Γ X k->nm∈Γ.G->Γ.gl nm=.none->(cl=true->Γ.calm=true)->noStar a=true->PE X a (rdE D W f)->PE X (.Call (.Name nm p0) [a] [] pos) (rdE D W (eB1 op f))):EOk D (rB1 nm op cl):=by
 intro r H X W Γ k e d C h
 unfold rB1 at h
 split at h
 ·rename_i x p0 a pos
  have hh:=zF h
  clear h
  obtain⟨hb,h⟩:=hh
  simp only[Bool.and_eq_true,beq_iff_eq,Bool.or_eq_true,Bool.not_eq_true'] at hb
  obtain⟨⟨⟨rfl,h2⟩,h3⟩,h4⟩:=hb
  obtain⟨f,h1,h⟩:=bnd h
  cases hl:Γ.look x with
  |none=>
   simp only[hl] at h
   cases h
   obtain⟨hx,hg⟩:=w4 hl (by intro z;cases z)
   exact H1 C hx hg (λz=>h4.resolve_left (by rw[z];simp)) h3 (H.e C h1)
  |_=>simp[hl] at h
 ·cases h
noncomputable def z0_:ER:=rB1 "len" wM false
theorem Ky{D:DP}:EOk D z0_:=JB λC hx hg _ hs ha=>XI C hx hg boot_len (by decide) hs z0Z ha
noncomputable def U0:ER:=λr Γ e=>match e with
 |.Call (.Name x _) [a,c] [] _=>gd (x == ("isinstance":Str)&&(idx Γ.N x).isNone&&noStar a) ((r.e Γ a).bind λf=>(xw Γ c).bind λcs=>(match Γ.look x with
  |.none=>some (WY cs f)
  |_=>none))
 |_=>none
theorem Xm{D:DP}:EOk D U0:=by
 intro r H X W Γ k e d C h
 unfold U0 at h
 split at h
 ·rename_i x p0 a c pos
  have hh:=zF h
  clear h
  obtain⟨hb,h⟩:=hh
  simp only[Bool.and_eq_true,beq_iff_eq] at hb
  obtain⟨⟨rfl,h2⟩,h3⟩:=hb
  obtain⟨f,h1,h⟩:=bnd h
  obtain⟨cs,h4,h⟩:=bnd h
  cases hl:Γ.look "isinstance" with
  |none=>
   simp only[hl] at h
   cases h
   obtain⟨hx,hg⟩:=w4 hl (by intro z;cases z)
   exact Y8 C hx hg h3 h4 (H.e C h1)
  |_=>simp[hl] at h
 ·cases h
noncomputable def rM1 (nm:Str)(cb:De->De->De):ER:=λr Γ e=>match e with
 |.Call (.Attribute o m pa) [a] [] pc=>gd (m == nm&&qc o&&noStar a&&pa.endLine == pc.line) ((r.e Γ o).bind λf=>(r.e Γ a).bind λg=>some (cb f g))
 |_=>none
theorem z09{D:DP}{nm:Str}{cb:De->De->De}(H1:∀{X:Cx} {W:XW} {Γ:Cn} {k:Nat} {o a:Expr} {f g:De} {pa pc:Pos},Ck D W Γ X k->qc o=true->noStar a=true->(pa.endLine == pc.line)=true->PE X o (rdE D W f)->PE X a (rdE D W g)->PE X (.Call (.Attribute o nm pa) [a] [] pc) (rdE D W (cb f g))):EOk D (rM1 nm cb):=by
 intro r H X W Γ k e d C h
 unfold rM1 at h
 split at h
 ·have hh:=zF h
  clear h
  obtain⟨hb,h⟩:=hh
  simp only[Bool.and_eq_true] at hb
  obtain⟨⟨⟨h0,h2⟩,h3⟩,h4⟩:=hb
  have h0:=beq_iff_eq.mp h0
  subst h0
  obtain⟨f,h1,h⟩:=bnd h
  obtain⟨g,h5,h⟩:=bnd h
  cases h
  exact H1 C h2 h3 h4 (H.e C h1) (H.e C h5)
 ·cases h
noncomputable def z1B:ER:=rM1 "append" wX
theorem Xv{D:DP}:EOk D z1B:=z09 λC hp hs hl ho ha=>Yd hp hs hl ho ha
noncomputable def X2 (r:Rec)(Γ:Cn)(elt tg iter:Expr)(ifs:List Expr)(sc:Scope)(mk:Nat->List Nat->Tg->Di->List Dt->De->De):Option De:=
 gd (Γ.calm&&Q3 Γ.N Γ.cel tg sc&&w5 iter&&JD tg iter) ((vp Γ.N (frees sc)).bind λfs=>(qT (z6 tg++frees sc) tg).bind λtgt=>(r.i Γ iter).bind λfi=>(zx (r.t (inComp Γ tg sc)) ifs).bind λcs=>(r.e (inComp Γ tg sc) elt).bind λfe=>some (mk (z6 tg).length fs tgt fi cs fe))
theorem yP{r:Rec}{Γ:Cn}{elt tg iter:Expr}{ifs:List Expr}{sc:Scope}{mk:Nat->List Nat->Tg->Di->List Dt->De->De}{d:De}(h:X2 r Γ elt tg iter ifs sc mk=some d) :
  ∃fs tgt fi cs fe,Γ.calm=true/\CompOk Γ.N Γ.cel tg sc/\(w5 iter=true/\JD tg iter=true)/\vp Γ.N (frees sc)=some fs/\qT (z6 tg++frees sc) tg=some tgt/\r.i Γ iter=some fi/\zx (r.t (inComp Γ tg sc)) ifs=some cs/\r.e (inComp Γ tg sc) elt=some fe/\d=mk (z6 tg).length fs tgt fi cs fe:=by
 obtain⟨hb,h⟩:=zF h
 simp only[Bool.and_eq_true] at hb
 obtain⟨fs,h1,h⟩:=bnd h
 obtain⟨tgt,h2,h⟩:=bnd h
 obtain⟨fi,h3,h⟩:=bnd h
 obtain⟨cs,h4,h⟩:=bnd h
 obtain⟨fe,h5,h⟩:=bnd h
 cases h
 exact⟨fs,tgt,fi,cs,fe,hb.1.1.1,WC hb.1.1.2,⟨hb.1.2,hb.2⟩,h1,h2,h3,h4,h5,rfl⟩
noncomputable def Jj:ER:=λr Γ e=>match e with
 |.ListComp elt [⟨tg,iter,ifs,z⟩] sc _=>gd (z == 0) (X2 r Γ elt tg iter ifs sc jQ)
 |_=>none
theorem Vt{D:DP}:EOk D Jj:=by
 intro r H X W Γ k e d C h
 unfold Jj at h
 split at h
 ·have hh:=zF h
  clear h
  obtain⟨hz,h⟩:=hh
  have hz:=beq_iff_eq.mp hz
  subst hz
  obtain⟨fs,tgt,fi,cs,fe,h1,h2,h3,h4,h5,h6,h7,h8,rfl⟩:=yP h
  exact QT C h1 h2 h4 h5 (H.i C h3.2 h6) (λX' W' C'=>H.e C' h8) (λX' W' C'=>vo H C' h7) (yk h3.1)
 ·cases h
noncomputable def XQ:TR:=λr Γ e=>match e with
 |.Name _ _=>(r.e Γ e).bind λf=>some (tE f)
 |.Call _ _ _ _=>(r.e Γ e).bind λf=>some (tE f)
 |.Subscript _ _ _=>(r.e Γ e).bind λf=>some (tE f)
 |.Attribute _ _ _=>(r.e Γ e).bind λf=>some (tE f)
 |.Compare a ops es _=>(z0n r Γ a ops es).bind λf=>some (tE f)
 |.UnaryOp op a _=>(match op with
  |.Not=>(r.t Γ a).bind λf=>some (vd f)
  |_=>none)
 |.BoolOp _ _ _=>r.w Γ e
 |_=>none
theorem JI{D:DP}:TOk D XQ:=by
 intro r H X W Γ k e d C h
 cases e with
 |Name x p=>
  obtain⟨f,h1,h⟩:=bnd h
  cases h
  exact W2 (H.e C h1) λ_=>rfl
 |Call f args kws p=>
  obtain⟨f,h1,h⟩:=bnd h
  cases h
  exact W2 (H.e C h1) λ_=>rfl
 |Subscript a b p=>
  obtain⟨f,h1,h⟩:=bnd h
  cases h
  exact W2 (H.e C h1) λ_=>rfl
 |Attribute a b p=>
  obtain⟨f,h1,h⟩:=bnd h
  cases h
  exact W2 (H.e C h1) λ_=>rfl
 |Compare a ops es p=>
  obtain⟨f,h1,h⟩:=bnd h
  cases h
  exact (Qz H C h1).2
 |UnaryOp op a p=>
  cases op with
  |Not=>
   obtain⟨f,h1,h⟩:=bnd h
   cases h
   exact YI (H.t C h1)
  |_=>cases h
 |BoolOp op es p=>exact (H.w C h).pt
 |_=>cases h
noncomputable def V4:TR:=λr Γ e=>match e with
 |.BoolOp op es p=>(match es with
  |[a]=>r.t Γ a
  |a::b::l=>(r.t Γ a).bind λf=>(r.w Γ (.BoolOp op (b::l) p)).bind λg=>some (match op with|.And=>vx f g|.Or=>tOr f g)
  |[]=>none)
 |_=>none
theorem Wl{D:DP}:WOk D V4:=by
 intro r H X W Γ k e d C h
 cases e with
 |BoolOp op es p=>
  match es with
  |[]=>cases h
  |[a]=>
   cases op with
   |And=>exact Xj (H.t C h)
   |Or=>exact Uw (H.t C h)
  |a::b::l=>
   obtain⟨f,h1,h⟩:=bnd h
   obtain⟨g,h2,h⟩:=bnd h
   cases h
   cases op with
   |And=>exact YU (H.t C h1) (H.w C h2)
   |Or=>exact z1j (H.t C h1) (H.w C h2)
 |_=>cases h
noncomputable def VA:IR:=λr Γ e=>match e with
 |.Call (.Name x _) as [] _=>gd (x == ("range":Str)&&(idx Γ.N x).isNone&&as.all noStar) (match Γ.look x with
  |.none=>(match as with
   |[a]=>(r.e Γ a).bind λf=>some (z0F f)
   |[a,b]=>(r.e Γ a).bind λf=>(r.e Γ b).bind λg=>some (Qt f g)
   |[a,b,c]=>(r.e Γ a).bind λf=>(r.e Γ b).bind λg=>(r.e Γ c).bind λh=>some (XY f g h)
   |_=>none)
  |_=>none)
 |_=>none
theorem Vj{D:DP}:IOk D VA:=by
 intro r H X W Γ k tg e d C ht h
 unfold VA at h
 split at h
 ·rename_i x p0 as pos
  have hh:=zF h
  clear h
  obtain⟨hb,h⟩:=hh
  simp only[Bool.and_eq_true] at hb
  obtain⟨⟨h0,h2⟩,h3⟩:=hb
  have h0:=beq_iff_eq.mp h0
  subst h0
  cases hl:Γ.look "range" with
  |none=>
   obtain⟨hx,hg⟩:=w4 hl (by intro z;cases z)
   simp only[hl] at h
   match as with
   |[]=>cases h
   |[a]=>
    simp only[List.all_cons,Bool.and_eq_true] at h3
    obtain⟨f,h1,h⟩:=bnd h
    cases h
    exact V0 C hx hg h3.1 (H.e C h1)
   |[a,b]=>
    simp only[List.all_cons,Bool.and_eq_true] at h3
    obtain⟨f,h1,h⟩:=bnd h
    obtain⟨g,h4,h⟩:=bnd h
    cases h
    exact WG C hx hg h3.1 h3.2.1 (H.e C h1) (H.e C h4)
   |[a,b,c]=>
    simp only[List.all_cons,Bool.and_eq_true] at h3
    obtain⟨f,h1,h⟩:=bnd h
    obtain⟨g,h4,h⟩:=bnd h
    obtain⟨g2,h5,h⟩:=bnd h
    cases h
    exact WW C hx hg h3.1 h3.2.1 h3.2.2.1 (H.e C h1) (H.e C h4) (H.e C h5)
   |_::_::_::_::_=>cases h
  |_=>simp[hl] at h
 ·cases h
noncomputable def riE:IR:=λr Γ e=>(r.e Γ e).bind λf=>some (iE f)
theorem Yc{D:DP}:IOk D riE:=by
 intro r H X W Γ k tg e d C ht h
 obtain⟨f,h1,h⟩:=bnd h
 cases h
 exact Kf (H.e C h1)
noncomputable def XE:ER:=λr Γ e=>match e with
 |.List es _=>gd (decide (es.length<=room)) ((cEs r Γ es).bind λfs=>some (ke fs))
 |_=>none
theorem V1{D:DP}:EOk D XE:=by
 intro r H X W Γ k e d C h
 cases e with
 |List es p=>
  obtain⟨hl,h⟩:=zF h
  obtain⟨fs,h1,h⟩:=bnd h
  cases h
  exact UW (of_decide_eq_true hl) (wF H C h1)
 |_=>cases h
noncomputable def ZR:ER:=λr Γ e=>match e with
 |.ListComp elt [⟨tg,iter,ifs,z⟩] sc _=>gd (z == 0) (X2 r Γ elt tg iter ifs sc wR)
 |_=>none
theorem WQ{D:DP}:EOk D ZR:=by
 intro r H X W Γ k e d C h
 unfold ZR at h
 split at h
 ·have hh:=zF h
  clear h
  obtain⟨hz,h⟩:=hh
  have hz:=beq_iff_eq.mp hz
  subst hz
  obtain⟨fs,tgt,fi,cs,fe,h1,h2,h3,h4,h5,h6,h7,h8,rfl⟩:=yP h
  exact Ze C h1 h2 h4 h5 (H.i C h3.2 h6) (λX' W' C'=>H.e C' h8) (λX' W' C'=>vo H C' h7) (yk h3.1)
 ·cases h
noncomputable def W8 (r:Rec)(Γ:Cn)(x:Str)(e:Expr):Option De:=match Γ.own.contains x with
 |true=>r.o Γ e
 |false=>r.e Γ e
theorem uE{D:DP}{r:Rec}{X:Cx}{W:XW}{Γ:Cn}{k:Nat}(H:RecOk D r)(C:Ck D W Γ X k){x:Str}{e:Expr}{d:De}(h:W8 r Γ x e=some d):PE X e (rdE D W d):=by
 unfold W8 at h
 cases q:Γ.own.contains x with
 |true=>rw[q] at h;exact H.o C h
 |false=>rw[q] at h;exact H.e C h
noncomputable def XB:SR:=λr Γ s=>match s with
 |.Return o _=>(match o with
  |some e=>(W8 r Γ "return" e).bind λf=>some (zG f)
  |none=>some Vd)
 |_=>none
theorem Jd{D:DP}:SOk D XB:=by
 intro r H X W Γ k e d C h
 cases e with
 |Return o p=>
  cases o with
  |none=>cases h;exact Kj
  |some e=>
   obtain⟨f,h1,h⟩:=bnd h
   cases h
   exact Yz (uE H C.toCk h1)
 |_=>cases h
noncomputable def isCall:Expr->Bool
 |.Call _ _ _ _=>true
 |.Constant _ _ _=>true
 |_=>false
noncomputable def XZ:SR:=λr Γ s=>match s with
 |.Expr e _=>gd (isCall e) ((r.e Γ e).bind λf=>some (zo f))
 |_=>none
theorem Vq{D:DP}:SOk D XZ:=by
 intro r H X W Γ k e d C h
 cases e with
 |Expr e p=>
  obtain⟨hb,h⟩:=zF h
  obtain⟨f,h1,h⟩:=bnd h
  cases h
  exact Ks (by cases e<;>first|(simp[isCall] at hb;done)|rfl) (H.e C.toCk h1)
 |_=>cases h
noncomputable def z14:SR:=λr Γ s=>match s with
 |.If c a b _=>(r.t Γ c).bind λt=>(zx (r.s Γ) a).bind λus=>(zx (r.s Γ) b).bind λvs=>some (sIf t us vs)
 |_=>none
theorem Kh{D:DP}:SOk D z14:=by
 intro r H X W Γ k e d C h
 cases e with
 |If c a b p=>
  obtain⟨t,h1,h⟩:=bnd h
  obtain⟨us,h2,h⟩:=bnd h
  obtain⟨vs,h3,h⟩:=bnd h
  cases h
  exact z1l (H.t C.toCk h1) (vi H C h2) (vi H C h3)
 |_=>cases h
noncomputable def uo:Expr->Bool
 |.ListComp _ _ _ _=>true
 |.SetComp _ _ _ _=>true
 |.DictComp _ _ _ _ _=>true
 |_=>false
noncomputable def z1v (r:Rec)(Γ:Cn)(t e:Expr):Option Ds:=gd (nFz Γ t) (match t with
 |.Name x _=>(idx Γ.N x).bind λi=>(match e with
  |.ListComp elt gs sc _=>(match gs with
   |[g]=>gd (g.is_async == 0) ((X2 r Γ elt g.target g.iter g.ifs sc (match Γ.own.contains x with|true=>wR|false=>jQ)).bind λf=>some (zf i f))
   |_=>none)
  |e=>gd (!uo e) ((W8 r Γ x e).bind λf=>some (zf i f)))
 |.Tuple es _ _=>gd (Γ.calm&&j7 e) ((idxs Γ.N es).bind λis=>(r.e Γ e).bind λf=>some (z1A is f))
 |.Attribute o x _=>(Γ.fld.lookup x).bind λn=>(W8 r Γ x e).bind λf=>(r.e Γ o).bind λgo=>some (qq go n f)
 |.Subscript o b _=>gd (qY b) ((r.e Γ e).bind λf=>(r.e Γ o).bind λgo=>(r.e Γ b).bind λgb=>some (Ki go gb f))
 |_=>none)
noncomputable def XG:SR:=λr Γ s=>match s with
 |.Assign ts e _=>(match ts with
  |[t]=>z1v r Γ t e
  |_=>none)
 |_=>none
theorem Xa{D:DP}{r:Rec}(H:RecOk D r){X:Cx}{W:XW}{Γ:Cn}{k:Nat}{t e:Expr}{pos:Pos}{d:Ds}(C:Sk D W Γ X k)(h:z1v r Γ t e=some d):PS X (.Assign [t] e pos) (rdS D W d):=by
 have hh0:=zF h
 clear h
 obtain⟨hfz,h⟩:=hh0
 cases t with
 |Name x p=>
  obtain⟨i,hi,h⟩:=bnd h
  have gen:uo e=false->gd (!uo e) ((W8 r Γ x e).bind λf=>some (zf i f))=some d->PS X (.Assign [.Name x p] e pos) (rdS D W d):=λhc h=>by
   obtain⟨_,h⟩:=zF h
   obtain⟨f,h1,h⟩:=bnd h
   cases h
   exact Vc C hi hfz (by cases e<;>first|(simp[uo] at hc;done)|rfl) (uE H C.toCk h1)
  cases e with
  |ListComp elt gs sc pc=>
   match gs with
   |[]=>cases h
   |_::_::_=>cases h
   |[⟨tg,iter,ifs,z⟩]=>
    have hh:=zF h
    clear h gen
    obtain⟨hz,h⟩:=hh
    have hz:z=0:=beq_iff_eq.mp hz
    subst hz
    obtain⟨f,h1,h⟩:=bnd h
    cases h
    obtain⟨fs,tgt,fi,cs,fe,q1,q2,q3,q4,q5,q6,q7,q8,rfl⟩:=yP h1
    have he:(match Γ.own.contains x with|true=>wR|false=>jQ) (z6 tg).length fs tgt fi cs fe=(match Γ.own.contains x with|true=>wR (z6 tg).length fs tgt fi cs fe|false=>jQ (z6 tg).length fs tgt fi cs fe):=by cases Γ.own.contains x<;>rfl
    have key:∀bb,swapsWith (.ListComp elt [⟨tg,iter,ifs,0⟩] sc pc) (some (.Name x p)) pos.line X.env=pure bb->PS X (.Assign [.Name x p] (.ListComp elt [⟨tg,iter,ifs,0⟩] sc pc) pos) (rdS D W (zf i (match Γ.own.contains x with|true=>wR (z6 tg).length fs tgt fi cs fe|false=>jQ (z6 tg).length fs tgt fi cs fe))):=λbb hsw=>by
     cases bb with
     |true=>exact Xt C q1 hi hfz q2 q4 q5 (H.i C.toCk q3.2 q6) (λX' W' C'=>H.e C' q8) (λX' W' C'=>vo H C' q7) (yk q3.1) _ hsw
     |false=>
      refine Vc C hi hfz hsw ?_
      cases Γ.own.contains x with
      |true=>exact Ze C.toCk q1 q2 q4 q5 (H.i C.toCk q3.2 q6) (λX' W' C'=>H.e C' q8) (λX' W' C'=>vo H C' q7) (yk q3.1)
      |false=>exact QT C.toCk q1 q2 q4 q5 (H.i C.toCk q3.2 q6) (λX' W' C'=>H.e C' q8) (λX' W' C'=>vo H C' q7) (yk q3.1)
    rw[he]
    exact key _ rfl
  |SetComp _ _ _ _=>cases h
  |DictComp _ _ _ _ _=>cases h
  |_=>exact gen rfl h
 |Tuple es kk p=>
  obtain⟨hb,h⟩:=zF h
  simp only[Bool.and_eq_true] at hb
  obtain⟨is,h1,h⟩:=bnd h
  obtain⟨f,h2,h⟩:=bnd h
  cases h
  exact z0l C hb.1 hb.2 h1 hfz (H.e C.toCk h2)
 |Attribute o x p=>
  obtain⟨n,h1,h⟩:=bnd h
  obtain⟨f,h2,h⟩:=bnd h
  obtain⟨go,h3,h⟩:=bnd h
  cases h
  exact UI C (lookup_mem h1) (uE H C.toCk h2) (H.e C.toCk h3)
 |Subscript o b p=>
  obtain⟨hb,h⟩:=zF h
  obtain⟨f,h1,h⟩:=bnd h
  obtain⟨go,h2,h⟩:=bnd h
  obtain⟨gb,h3,h⟩:=bnd h
  cases h
  exact UH C hb (H.e C.toCk h1) (H.e C.toCk h2) (H.e C.toCk h3)
 |_=>cases h
theorem VV{D:DP}:SOk D XG:=by
 intro r H X W Γ k e d C h
 cases e with
 |Assign ts e p=>
  match ts with
  |[]=>cases h
  |[t]=>exact Xa H C h
  |_::_::_=>cases h
 |_=>cases h
noncomputable def Xz:SR:=λr Γ s=>match s with
 |.For tg it b els _=>gd (Γ.calm&&w5 it&&els.isEmpty&&JD tg it&&nFz Γ tg) ((qT Γ.N tg).bind λtgt=>(r.i Γ it).bind λfi=>(zx (r.s Γ) b).bind λvs=>some (Jb tgt fi vs))
 |_=>none
theorem Jg{D:DP}:SOk D Xz:=by
 intro r H X W Γ k e d C h
 cases e with
 |For tg it b els p=>
  obtain⟨hb,h⟩:=zF h
  simp only[Bool.and_eq_true] at hb
  obtain⟨tgt,h1,h⟩:=bnd h
  obtain⟨fi,h2,h⟩:=bnd h
  obtain⟨vs,h3,h⟩:=bnd h
  cases h
  cases els with
  |nil=>exact z0a C hb.1.1.1.1 h1 hb.2 (H.i C.toCk hb.1.2 h2) (vi H C h3) (yk hb.1.1.1.2)
  |cons _ _=>simp at hb
 |_=>cases h
noncomputable def KP:Stmt->Option Expr
 |.Raise (some e) none _=>some e
 |_=>none
theorem Qy{s:Stmt}{e:Expr}(h:KP s=some e):∃p,s=.Raise (some e) none p:=by
 unfold KP at h
 split at h
 ·cases h;exact⟨_,rfl⟩
 ·cases h
noncomputable def W5:Expr->Option (Str×List Expr)
 |.Call (.Name x _) as [] _=>some (x,as)
 |_=>none
theorem uO{e:Expr}{q:Str×List Expr}(h:W5 e=some q):∃p0 p1,e=.Call (.Name q.1 p0) q.2 [] p1:=by
 unfold W5 at h
 split at h
 ·cases h;exact⟨_,_,rfl⟩
 ·cases h
noncomputable def JG:SR:=λr Γ s=>(KP s).bind λe=>(W5 e).bind λq=>gd (Γ.calm&&(idx Γ.N q.1).isNone&&!q.2.isEmpty) ((cEs r Γ q.2).bind λfs=>(match Γ.look q.1 with
  |.xcl c=>some (qh c fs)
  |_=>none))
theorem V6{D:DP}:SOk D JG:=by
 intro r H X W Γ k e d C h
 unfold JG at h
 obtain⟨e',h0,h⟩:=bnd h
 obtain⟨⟨x,as⟩,h2,h⟩:=bnd h
 obtain⟨p2,rfl⟩:=Qy h0
 obtain⟨p0,p1,rfl⟩:=uO h2
 obtain⟨hb,h⟩:=zF h
 simp only[Bool.and_eq_true] at hb
 cases as with
 |nil=>exact absurd hb.2 (by simp)
 |cons a as=>
  obtain⟨fs,h1,h⟩:=bnd h
  cases hl:Γ.look x with
  |xcl c=>
   simp only[hl] at h
   cases h
   obtain⟨hx,hg⟩:=w4 hl (by intro z;cases z)
   exact Vx C hb.1.1 hx hg (wF H C.toCk h1)
  |_=>simp[hl] at h
structure MdOk(D:DP)(P:Program)(w:World)(K:PySem.W.Frag)(mg:Str->Option Value)(base:Heap)(Γ:Cn)(k:Nat):Prop where
 hK:K=D.K
 glo:∀x∈Γ.U,GlOkM D P w K mg base k x (Γ.gl x)/\(x == ("__debug__":Str))=false
 isi:∀t x c,(x,c)∈Γ.cls->∀u v,uN D t u->xI mg x v->PySem.W.kitOne K u v=some (v_ t c)
 fld:∀c C x f,D.cad c=some C->(x,f)∈Γ.fld->D.fn f=some x/\Cls K C/\NoAttr K C x
 xcx:∀c C,D.adr c=some C->XCls K C
 ocx:∀c C,D.cad c=some C->OCls K C
 clv:∀x c,(x,c)∈Γ.cls->∃u v,xI mg x u/\ClsV v u
 xmt:∀t x c,(x,c)∈Γ.cls->c<40->∀Ct Cc,D.adr t=some Ct->mg x=some (.ref Cc)->PySem.W.exmOne K (.ref Ct) (.ref Cc)=some (v_ t c)
noncomputable def Z8(Γ:Cn)(ps:List Str)(sc:Scope):Bool:=
 (sc.kind == .function)&&!sc.isCoroutine&&!sc.isGenerator&&decide (Γ.N.Nodup)&&(Γ.N.take ps.length == ps)&&sc.names.all (λy=>y.2 != .free)&&
 Γ.N.all (λx=>x != ("__debug__":Str)&&x != ("__classdict__":Str)&&(if Γ.cel.contains x then sc.names.lookup x == some .cell else sc.names.lookup x == some .local))&&
 Γ.G.all (λx=>Γ.U.contains x&&sc.names.lookup x == some .globalImplicit)&&Γ.cel.all (λx=>Γ.N.contains x)&&Γ.calm
theorem y7{X:Cx}{W:XW}{e:Value}{s:Shared}(p:XP X W e s):X.A.frames=some X.stack:=by
 obtain⟨_,_,_,_,_,_,_,_,I,_⟩:=p
 exact I.ok.frames
theorem QU:∀(ts:List T) (n:Nat),X4 ts n=ts.map some++List.replicate n none
 |[],n=>by
  have:∀n,pad n=List.replicate n none:=λn=>by
   induction n with
   |zero=>rfl
   |succ n ih=>show none::pad n=_;rw[ih];rfl
  exact this n
 |t::r,n=>by show some t::X4 r n=_;rw[QU r n];rfl
section
variable {D:DP}{P:Program}{w:World}{K:PySem.W.Frag}{mg:Str->Option Value}{base:Heap}{Γ:Cn}{k n:Nat}
theorem Q7{φ α:List Addr}{H:Hp}{N:List Str}{ts:List T}{vs:List V}(d:DenL D φ α H ts vs):SRel D φ α H (X4 ts (N.length-ts.length)) (L2.start N vs):=by
 have hl:=d.length
 rw[QU]
 refine⟨by simp[L2.start,hl],λi t e=>?_⟩
 by_cases hi:i<ts.length
 ·rw[List.getElem?_append_left (by simpa using hi),List.getElem?_map] at e
  cases q:ts[i]? with
  |none=>rw[q] at e;cases e
  |some t'=>
   rw[q] at e
   have e:some (some t')=some (some t):=e
   cases e
   obtain⟨v,hv,dv⟩:=d.get q
   refine⟨v,?_,dv⟩
   unfold L2.start
   rw[List.getElem?_append_left (by rw[List.length_map,←hl];exact hi),List.getElem?_map,hv]
   rfl
 ·rw[List.getElem?_append_right (by simpa using hi),List.getElem?_replicate] at e
  split at e<;>cases e
noncomputable def kno (X:Cx)(f:Str->Bool):Cx:={X with fn:=f}
theorem YQ{X:Cx}{f g:Str->Bool}(hf:∀x,f x=true->g x=true)(ok:(kno X g).Ok):(kno X f).Ok:=⟨ok.mod,ok.kind,ok.glob,ok.blt,ok.above,ok.inj,ok.has,λx c e=>ok.cab x c (hf x e),ok.hd,ok.frames,ok.stk,ok.exf,ok.bs,ok.bsz,ok.noex,ok.exfs,ok.funs,ok.frf⟩
theorem kg{X:Cx}{f g:Str->Bool}{pins:List (Addr×Obj)}{σ:St}{H:Hp}{s:Shared}(hf:∀x,f x=true->g x=true)(I:Inv (kno X g) pins σ H s):Inv (kno X f) pins σ H s:=
 ⟨YQ hf I.ok,I.os,I.bare,I.base,I.loc,I.cell,I.free,λx c e=>(I.freeC x c e).imp id λz=>⟨Bool.eq_false_iff.mpr λq=>Bool.noConfusion ((hf x q).symm.trans (show g x=false from z.1)),z.2⟩,I.pin,I.hok,I.len⟩
theorem Yp{X:Cx}{f g:Str->Bool}{W:XW}{e:Value}{s:Shared}(hf:∀x,f x=true->g x=true)(p:XP (kno X g) W e s):XP (kno X f) W e s:=by
 obtain⟨x,cls,d,σ,H,T,fl,a,I,b,c,r,r2,r3⟩:=p
 exact⟨x,cls,d,σ,H,T,fl,a,kg hf I,⟨b.free,b.loc,b.nfs,b.new,b.cel,b.pin⟩,λt ht=>let b:=c t ht;⟨b.free,b.loc,b.nfs,b.new,b.cel,b.pin⟩,r,r2,r3⟩
theorem Q4{X:Cx}{f g:Str->Bool}{pins:List (Addr×Obj)}{E:Ends}{fl:Flow}{s:Shared}(hf:∀x,f x=true->g x=true)(h:SP (kno X g) pins E fl s):SP (kno X f) pins E fl s:=by
 cases fl with
 |ret v=>obtain⟨v,σ',H',I',r⟩:=h;exact⟨v,σ',H',kg hf I',r⟩
 |_=>obtain⟨σ',H',I',r⟩:=h;exact⟨σ',H',kg hf I',r⟩
theorem W4{D:DP}{W:XW}{X:Cx}{f:Str->Bool}{b2:List Stmt}{ds2:List Ds}(h2:Z2 (kno X f) D W b2 ds2):∀{b1:List Stmt} {ds1:List Ds},Z2 (kno X λ_=>true) D W b1 ds1->
  ∀(pins:List (Addr×Obj)) (s:Shared) (σ:St) (H:Hp) (E:Ends),Inv (kno X λ_=>true) pins σ H s->rdS D W (zU (ds1++ds2)) E σ H->wpAny (model X.prog X.w) X.A (execs (b1++b2) X.env) (SP (kno X f) pins E) X.xe s
 |[],[],_,pins,s,σ,H,E,I,q=>vW h2 pins s σ H E (kg (λ_ _=>rfl) I) q
 |st::r,u::us,h,pins,s,σ,H,E,I,q=>by
  obtain⟨φ,α,τ,μ,sr,mr,Q,q,h3,h4,h5,h6,h7⟩:=q
  refine wpAny_execs_cons (thn (h.1 pins s σ H {E with nx:=λσ' H'=>rdS D W (zU (us++ds2)) E σ' H'} I ⟨φ,α,τ,μ,sr,mr,_,q,λτ1 μ1 e α' H' σ' st m sr'=>?_,h4,h5,h6,h7⟩) λfl s1 z=>?_)
  ·exact⟨φ,α',τ1,μ1,sr',m,PostS.step ⟨Q,e,h3,h4,h5,h6,h7⟩ st⟩
  ·cases fl with
   |next=>
    obtain⟨σ',H',I',q'⟩:=z
    exact W4 h2 h.2 pins s1 σ' H' E I' q'
   |ret v=>exact Q4 (fl:=.ret v) (E:=E) (λ_ _=>rfl) z
   |brk=>exact Q4 (fl:=.brk) (E:=E) (λ_ _=>rfl) z
   |cont=>exact Q4 (fl:=.cont) (E:=E) (λ_ _=>rfl) z
 |[],_::_,h,_,_,_,_,_,_,_=>h.elim
 |_::_,[],h,_,_,_,_,_,_,_=>h.elim
theorem Zd{R:Rules}(HR:RulesOk D R){f:Addr}{name qual:Str}{params:Arguments}{body b1 b2:List Stmt}{scope:Scope}{dV kV doc pm cdv ct oc:Value}{an od:Option Addr}{osl:Array (Option Value)}{ps:List Str}{m:Nat}{ds1 ds2:List Ds}
    (M:MdOk D P w K mg base Γ k) (lk:K.lookup f=some ⟨oc,od,.func (PySem.W.fnOf name qual params body scope dV kV doc pm an cdv ct),osl⟩) (hcd:PySem.W.codeIn K cdv qual=true) (hs:Z8 Γ ps scope=true) (hm:Γ.N.length=ps.length+m) (hbo:body=b1++b2) (hd1:zx ((comp R n).s {Γ with fz:=[]}) b1=some ds1) (hds:zx ((comp R n).s Γ) b2=some ds2) (hlam:LamOk D mg base cdv (qual++".<locals>.") k Γ.lam:=by exact LamOk.no rfl) :
    FnOk P w K mg base (CX1 P w) (k+1) f (PySem.W.fnOf name qual params body scope dV kV doc pm an cdv ct) ps (spN D ps.length (fnW ps.length m (ds1++ds2))):=by
  subst hbo
  simp only[Z8,Bool.and_eq_true,List.all_eq_true,beq_iff_eq,Bool.not_eq_true',decide_eq_true_eq,bne_iff_ne,ne_eq] at hs
  obtain⟨⟨⟨⟨⟨⟨⟨⟨⟨h1,h2⟩,h3⟩,h4⟩,h5⟩,h6⟩,h7⟩,h8⟩,h9⟩,h10⟩:=hs
  have kin:∀x∈Γ.N,(Γ.cel.contains x=true/\scope.names.lookup x=some .cell)\/(Γ.cel.contains x=false/\scope.names.lookup x=some .local):=λx hx=>by
    have q:=(h7 x hx).2
    cases hc:Γ.cel.contains x with
    |true=>rw[hc,if_pos rfl] at q;exact .inl ⟨rfl,beq_iff_eq.mp q⟩
    |false=>rw[hc] at q;exact .inr ⟨rfl,beq_iff_eq.mp q⟩
  have loc:∀x∈Γ.N,scope.names.lookup x=some .local\/scope.names.lookup x=some .cell:=λx hx=>(kin x hx).elim (λz=>.inr z.2) λz=>.inl z.2
  have S:FnScope Γ.N ps scope:=⟨h1,h2,h3,h4,h5,λx hx=>loc x (by rw[←h5] at hx;exact List.mem_of_mem_take hx),h6⟩
  refine XJ (fnb:=λx=>!Γ.fz.contains x) lk hcd S (λvs H Q E q=>q.1) λA outer s H vs Q E hr hsp hfree=>?_
  obtain⟨hl,φ,α,ts,μ,d,mr,K0,Z0,⟨hle,q⟩,hk0,hz0⟩:=hsp
  generalize hX:Wt (CX1 P w) P w K mg base Γ.N qual scope f cdv A outer s H E (λx=>!Γ.fz.contains x)=X
  have F:Frm X (envOfC qual scope s.heap.objs.size f cdv) outer s.heap.objs.size:=by rw[←hX];exact⟨rfl,rfl,rfl⟩
  have hfn:X.fn=λx=>!Γ.fz.contains x:=by rw[←hX];rfl
  have CK:∀(l:List Str),(∀x∈l,x∈Γ.fz)->Sk D (wOf E) {Γ with fz:=l} (kno (X.wish (XP X (wOf E))) λx=>!l.contains x || !Γ.fz.contains x) k:=λl hl'=>by
    have xe:∀e s,XP (kno (X.wish (XP X (wOf E))) λx=>!l.contains x || !Γ.fz.contains x) (wOf E) e s->XP X (wOf E) e s:=λe s p=>by
      have p2:XP (kno (X.wish (XP X (wOf E))) λx=>!Γ.fz.contains x) (wOf E) e s:=Yp (λx hx=>by rw[hx,Bool.or_true]) p
      exact yo (show XP (X.wish (XP X (wOf E))) (wOf E) e s by rw[←hfn] at p2;exact p2)
    have pso:PassesOwn (model X.prog X.w) X.A X.env (XP X (wOf E)):=λe s p=>WX F (y7 p) e s p
    subst hX
    exact { hK := M.hK,hN := rfl,nd := h4,vis := fun x hx => (loc x hx).elim .inl fun z => .inr (.inl z),dbg := fun x hx => ⟨beq_eq_false_iff_ne.mpr (h7 x hx).1.1,beq_eq_false_iff_ne.mpr (h7 x hx).1.2⟩,
            dbG:=λx hx=>(M.glo x (by simpa using (h8 x hx).1)).2,glb:=λx hx=>(h8 x hx).2,glo:=λx hx=>(M.glo x (by simpa using (h8 x hx).1)).1,glU:=M.glo,
            cel:=λx hx=>.inl ((kin x (by simpa using h9 x hx)).elim (λz=>z.2) λz=>by have:=z.1;rw[List.contains_iff_mem.mpr hx] at this;cases this),
            isi:=M.isi,fld:=M.fld,xcx:=M.xcx,ocx:=M.ocx,clv:=M.clv,clm:=λ_=>rfl,rom:=λ_=>hr,rmh:=⟨hr.dp,hr.un⟩,xe:=xe,frm:=⟨_,_,_,F.stk,F.f0,F.fe⟩,lam:=hlam,kfz:=λ_ x hx=>⟨by show (!l.contains x || !Γ.fz.contains x)=false;rw[List.contains_iff_mem.mpr hx,List.contains_iff_mem.mpr (hl' x hx)];rfl,λc e=>(hfree x c e).1⟩,
            sto:=λx hx=>by
              obtain⟨z1,z2⟩:=List.mem_filter.mp hx
              exact⟨loc x z1,.inl (by show (!l.contains x || _)=true;rw[show (!l.contains x)=true from z2];rfl)⟩,lcl:=λx hx hc=>(kin x hx).elim (λz=>by rw[z.1] at hc;cases hc) λz=>z.2,pso:=pso,xmt:=M.xmt}
  have B:PSs X (b1++b2) (λE1 σ1 H1=>(∀y c,X.env.cells.lookup y=some c->X.s₀.heap.objs.size<=c/\H1 c=none)/\rdS D (wOf E) (zU (ds1++ds2)) E1 σ1 H1):=λpins s1 σ1 H1 E1 I1 ⟨hf,q⟩=>by
    have I2:Inv (kno (X.wish (XP X (wOf E))) λ_=>true) pins σ1 H1 s1:=by
      have J:=I1.wish (XP X (wOf E))
      subst hX
      exact⟨⟨J.ok.mod,J.ok.kind,J.ok.glob,J.ok.blt,J.ok.above,J.ok.inj,J.ok.has,λx c _ e=>(hf x c e).1,J.ok.hd,J.ok.frames,J.ok.stk,J.ok.exf,J.ok.bs,J.ok.bsz,J.ok.noex,J.ok.exfs,J.ok.funs,J.ok.frf⟩,J.os,J.bare,J.base,J.loc,J.cell,J.free,λx c e=>.inl (hf x c e).2,J.pin,J.hok,J.len⟩
    have C1:=vi (qG HR n) (CK [] (by simp)) hd1
    have C2:=vi (qG HR n) (CK Γ.fz λ_ h=>h) hds
    have e1:(λx=>!([]:List Str).contains x || !Γ.fz.contains x)=λ_=>true:=by funext x;rfl
    have e2:(λx=>!Γ.fz.contains x || !Γ.fz.contains x)=X.fn:=by rw[hfn];funext x;exact Bool.or_self _
    rw[e1] at C1
    rw[e2] at C2
    refine wpAny_mono (W4 (X:=X.wish (XP X (wOf E))) C2 C1 pins s1 σ1 H1 E1 I2 q) (λf s' q=>SP.unwish q) λe s' p=>?_
    have p:XP X (wOf E) e s':=p
    have:=VS (M:=model X.prog X.w) (F2:=λe' s''=>CX1 X.prog X.w X.outer X.H₀ X.s₀ E e' s'') F (y7 p) (by rw[←hX];rfl) p
    subst hX
    exact this
  have hmm:Γ.N.length-ts.length=m:=by omega
  refine⟨_,B,by rw[←hX];exact hfree,φ,α,_,μ,Q7 d,mr,{nx:=λ_ μ1=>K0 .non μ1,rt:=K0,bk:=λ_ _=>False,ct:=λ_ _=>False,ex:=λc fs _ μ1=>Z0 c fs μ1},by rw[hmm];exact q,λ_ μ1 z α' H' σ' st m _=>hk0 _ _ z α' H' st m .non rfl,λ_ _ z=>z.elim,λ_ _ z=>z.elim,λt μ1 z α' H' v st m dv=>hk0 _ _ z α' H' st m v dv,λc fs _ μ1 z α' H' σ' C1 dd st m _ ad xd=>hz0 c fs μ1 z α' H' C1 dd st m ad xd⟩
theorem jd{R:Rules}(HR:RulesOk D R){f:Addr}{name qual:Str}{params:Arguments}{body:List Stmt}{scope:Scope}{dV kV doc pm cdv ct oc:Value}{an od:Option Addr}{osl:Array (Option Value)}{ps:List Str}{m:Nat}{ds:List Ds}
  (M:MdOk D P w K mg base Γ k) (lk:K.lookup f=some ⟨oc,od,.func (PySem.W.fnOf name qual params body scope dV kV doc pm an cdv ct),osl⟩) (hcd:PySem.W.codeIn K cdv qual=true) (hs:Z8 Γ ps scope=true) (hm:Γ.N.length=ps.length+m) (hds:zx ((comp R n).s Γ) body=some ds) (hlam:LamOk D mg base cdv (qual++".<locals>.") k Γ.lam:=by exact LamOk.no rfl) :
  FnOk P w K mg base (CX1 P w) (k+1) f (PySem.W.fnOf name qual params body scope dV kV doc pm an cdv ct) ps (spN D ps.length (fnW ps.length m ds)):=Zd (b1:=[]) (ds1:=[]) HR M lk hcd hs hm rfl rfl hds hlam
theorem ql{n m:Nat}{ds:List Ds}:∀ts μ K Z,fnW n m ds ts μ K Z->ts.length=n:=λ_ _ _ _ h=>h.1
end
noncomputable def ZE:PySem.W.Frag->Bool
 |[]=>true
 |p::r=>(match p.2.cls with|.type t=>t != "list" | _=>true)&&ZE r
theorem QX:∀{K:PySem.W.Frag} {a:Addr} {o:Obj},ZE K=true->K.lookup a=some o->o.cls≠.type "list"
 |[],_,_,_,h=>by cases h
 |(b,p)::r,a,o,hn,h=>by
  simp only[ZE,Bool.and_eq_true] at hn
  rw[List.lookup_cons] at h
  cases q:a == b with
  |true=>
   rw[q] at h
   cases h
   intro e
   have h1:=hn.1
   rw[e] at h1
   exact absurd h1 (by decide)
  |false=>rw[q] at h;exact QX hn.2 h
theorem yr{D:DP}{φ α:List Addr}{H:Hp}:∀(ns:List Int),DenL D φ α H (ns.map T.int) (ns.map V.int)
 |[]=>rfl
 |n::r=>⟨.int n,r.map V.int,rfl,rfl,yr r⟩
noncomputable def FLD:List Str:=["moments","houses","counts","start","turns","holder","lease","until","is_cut","shape","grants","house","begin","end","ahead","stride","keeper","mark","newest","batches","has_fallen","clock","kept","common","given","now","seats","world","line","by"]
theorem UD:FLD.Nodup:=by decide +kernel
structure Ads where
 xs:List (Nat×Addr)
 cs:List (Nat×Addr)
noncomputable def mkD (K:PySem.W.Frag)(A:Ads)(clo:Nat->Addr->Option HO->List V->Prop)(tabs:Nat->Option (Addr×List Pos×Str):=λ_=>none):DP:=⟨K,λc=>A.xs.lookup c,λc=>A.cs.lookup c,λi=>FLD[i]?,λi j x h1 h2=>kH UD h1 h2,clo,tabs⟩
noncomputable def cn (cls fld:List (Str×Nat))(gs:List (Str×GM))(N G cel own:List Str)(lam:Option (Nat×List Pos):=none):Cn where
 N:=N
 G:=G
 calm:=true
 gl:=λx=>(gs.lookup x).getD .bad
 cls:=cls
 fld:=fld
 U:=gs.map (·.1)
 cel:=cel
 own:=own
 lam:=lam
noncomputable def tys(A:Ads):List (Nat×Value):=[(0,.type "NoneType"),(1,.type "bool"),(2,.type "int"),(3,.type "str"),(4,.type "tuple"),(5,.type "list"),(6,.type "dict")]++(A.xs.map λp=>(p.1,Value.ref p.2))++A.cs.map λp=>(p.1,Value.ref p.2)
noncomputable def JE(K:PySem.W.Frag)(c:Str):Option Value:=match PySem.W.nsIn K mainGlobals c with
 |some (some v)=>some v
 |some none=>if c == ("__name__":Str) then none else bootBuiltins c
 |none=>none
noncomputable def z1w:Value->Bool
 |.ref _=>true
 |.type _=>true
 |_=>false
noncomputable def isC(o:Option (Option Value))(s:String):Bool:=match o with
 |some (some (.builtin x))=>x == s
 |_=>false
theorem kR{o:Option (Option Value)}{s:String}(h:isC o s=true):o=some (some (.builtin s)):=by
 unfold isC at h
 split at h
 ·rw[beq_iff_eq.mp h]
 ·cases h
noncomputable def Jo(o:Option (Option Value)):Bool:=match o with
 |some none=>true
 |_=>false
theorem yK{o:Option (Option Value)}(h:Jo o=true):o=some none:=by
 unfold Jo at h
 split at h
 ·rfl
 ·cases h
noncomputable def isB(o:Option Bool)(b:Bool):Bool:=match o with|some c=>c == b|none=>false
theorem kL{o:Option Bool}{b:Bool}(h:isB o b=true):o=some b:=by
 cases o with
 |none=>cases h
 |some c=>have:(c == b)=true:=h;rw[beq_iff_eq.mp this]
noncomputable def Kk (K:PySem.W.Frag)(C:Addr):Bool:=isC (PySem.W.findIn K (.ref C) "__class__") "object.__class__"&&isC (PySem.W.specialIn K (.builtin "object.__class__") "__get__") "getset_descriptor.__get__"&&isB (PySem.W.takesIn K (.builtin "object.__class__")) true&&isB (PySem.W.mroIn K C (.type "object")) true
noncomputable def XH(K:PySem.W.Frag)(C:Addr):Bool:=Kk K C&&isC (PySem.W.findIn K (.ref C) "__getattribute__") "BaseException.__getattribute__"&&Jo (PySem.W.findIn K (.ref C) "__getattr__")&&isB (PySem.W.mroIn K C (.type "BaseException")) true&&(PySem.W.clsIn K C).isSome
noncomputable def Jc(K:PySem.W.Frag)(C:Addr):Bool:=Kk K C&&PySem.W.plainGet K C Str.empty&&PySem.W.hasDictIn K C&&PySem.W.plainOver K C&&isC (PySem.W.findIn K (.ref C) "__setattr__") "object.__setattr__"
noncomputable def chk (K:PySem.W.Frag)(A:Ads)(cls fld:List (Str×Nat)):Bool:=
 cls.all (λp=>match JE K p.1 with
  |some v=>z1w v&&(tys A).all (λq=>isB (PySem.W.kitOne K q.2 v) (v_ q.1 p.2))&&(Nat.ble 40 p.2 || (match v with|.ref C=>A.xs.all (λq=>isB (PySem.W.exmOne K (.ref q.2) (.ref C)) (v_ q.1 p.2))|_=>true))
  |none=>false)&&
 A.xs.all (λq=>XH K q.2)&&A.cs.all (λq=>Jc K q.2&&fld.all (λp=>Jo (PySem.W.findIn K (.ref q.2) p.1)))&&fld.all (λp=>match FLD[p.2]? with|some x=>x == p.1|none=>false)
theorem ku{K:PySem.W.Frag}{h:Heap}{mg:Str->Option Value}{c:Str}{v:Value}(X:K.In h)(G:h.Ns mainGlobals mg)(e:JE K c=some v):xI mg c v/\∀u,xI mg c u->u=v:=by
 unfold JE at e
 split at e
 ·rename_i v' q
  cases e
  have m:=PySem.W.mg_of X G q
  refine⟨.inl m,λu z=>?_⟩
  rcases z with z|⟨z,_⟩
  ·rw[m] at z;cases z;rfl
  ·rw[m] at z;cases z
 ·rename_i q
  have m:=PySem.W.mg_none_of X G q
  split at e
  ·cases e
  ·rename_i hn
   refine⟨.inr ⟨m,e,λz=>hn (by rw[z];rfl)⟩,λu z=>?_⟩
   rcases z with z|⟨_,z,_⟩
   ·rw[m] at z;cases z
   ·rw[e] at z;cases z;rfl
 ·cases e
theorem q9{α β:Type}[BEq α][LawfulBEq α]{x:α}{v:β}:∀{l:List (α×β)},l.lookup x=some v->(x,v)∈l
 |[],h=>by cases h
 |(y,w)::r,h=>by
  rw[List.lookup_cons] at h
  cases q:x == y with
  |true=>rw[q] at h;cases h;rw[beq_iff_eq.mp q];exact List.mem_cons_self
  |false=>rw[q] at h;exact List.mem_cons_of_mem _ (q9 h)
theorem lookup_some{α:Type}{x:Str}:∀{l:List (Str×α)},x∈l.map (·.1)->∃v,l.lookup x=some v
 |[],h=>by simp at h
 |(y,w)::r,h=>by
  rw[List.lookup_cons]
  cases q:x == y with
  |true=>exact⟨w,rfl⟩
  |false=>
   rcases List.mem_cons.mp h with z|z
   ·have z:x=y:=z
    rw[z] at q;simp at q
   ·exact lookup_some z
section
variable {P:Program}{w:World}{K:PySem.W.Frag}{mg:Str->Option Value}{base:Heap}{A:Ads}{clo:Nat->Addr->Option HO->List V->Prop}{cls fld:List (Str×Nat)}{gs:List (Str×GM)}{N G cel own:List Str}{k:Nat}{lam:Option (Nat×List Pos)}{tabs:Nat->Option (Addr×List Pos×Str)}
theorem Yo{t:Nat}{u:Value}(h:uN (mkD K A clo tabs) t u):(t,u)∈tys A:=by
 unfold tys
 rcases h with⟨rfl,rfl⟩|⟨rfl,rfl⟩|⟨rfl,rfl⟩|⟨rfl,rfl⟩|⟨rfl,rfl⟩|⟨rfl,rfl⟩|⟨C,h,rfl⟩|⟨rfl,rfl⟩|⟨C,h,rfl⟩
 ·simp
 ·simp
 ·simp
 ·simp
 ·simp
 ·simp
 ·exact List.mem_append_left _ (List.mem_append_right _ (List.mem_map.mpr ⟨(t,C),q9 h,rfl⟩))
 ·simp
 ·exact List.mem_append_right _ (List.mem_map.mpr ⟨(t,C),q9 h,rfl⟩)
noncomputable def GsOk (P:Program)(w:World)(K:PySem.W.Frag)(mg:Str->Option Value)(base:Heap)(A:Ads)(clo:Nat->Addr->Option HO->List V->Prop)(k:Nat)(gs:List (Str×GM))(tabs:Nat->Option (Addr×List Pos×Str):=λ_=>none):Prop:=∀p∈gs,GlOkM (mkD K A clo tabs) P w K mg base k p.1 p.2/\(p.1 == ("__debug__":Str))=false
theorem GlOkM.mono{D:DP}{j k:Nat}{x:Str}{g:GM}(h:j<=k)(q:GlOkM D P w K mg base j x g):GlOkM D P w K mg base k x g:=by
 cases g with
 |fn f=>obtain⟨fa,a,fd,ps,kk,b,c,d,r⟩:=q;exact⟨fa,a,fd,ps,kk,b,c,Nat.le_trans d h,r⟩
 |fnh nm f=>obtain⟨fa,a,fd,ps,kk,b,c,d,r⟩:=q;exact⟨fa,a,fd,ps,kk,b,c,Nat.le_trans d h,r⟩
 |met c nm f=>obtain⟨C,fI,fd,ps,kk,a,b,c,d,e,f1,r⟩:=q;exact⟨C,fI,fd,ps,kk,a,b,c,d,e,Nat.le_trans f1 h,r⟩
 |mk c z f=>obtain⟨C,fI,fd,ps,kk,a,b,c,d,e,r⟩:=q;exact⟨C,fI,fd,ps,kk,a,b,c,d,Nat.le_trans e h,r⟩
 |xin c f nm fl=>obtain⟨C,HE,fI,fd,ps,kk,a1,a2,a3,a4,a5,a6,r⟩:=q;exact⟨C,HE,fI,fd,ps,kk,a1,a2,a3,a4,a5,Nat.le_trans a6 h,r⟩
 |mkd c nm n f=>obtain⟨C,fI,fd,ps,kk,a,b,c,d,e,r⟩:=q;exact⟨C,fI,fd,ps,kk,a,b,c,d,Nat.le_trans e h,r⟩
 |metd c nm n d f=>obtain⟨C,fI,fd,ps,kk,du,dv,a1,a2,a3,a4,a5,a6,a7,a8,r⟩:=q;exact⟨C,fI,fd,ps,kk,du,dv,a1,a2,a3,a4,a5,a6,a7,Nat.le_trans a8 h,r⟩
 |kap ls=>exact⟨λj l ts φ α H v e d=>let ⟨a,kk,h1,h3,h4⟩:=q.1 j l ts φ α H v e d;⟨a,kk,h1,Nat.le_trans h3 h,h4⟩,q.2⟩
 |kpr=>exact⟨λt φ α H v hj d=>let ⟨a,kk,h1,h2,h3⟩:=q.1 t φ α H v hj d;⟨a,kk,h1,Nat.le_trans h2 h,h3⟩,q.2⟩
 |_=>exact q
theorem GsOk.mono{j k:Nat}(h:j<=k)(q:GsOk P w K mg base A clo j gs tabs):GsOk P w K mg base A clo k gs tabs:=λp hp=>⟨(q p hp).1.mono h,(q p hp).2⟩
theorem GsOk.add {x:Str} {g:GM} (q:GsOk P w K mg base A clo k gs tabs) (h:GlOkM (mkD K A clo tabs) P w K mg base k x g) (hx:(x == ("__debug__":Str))=false):GsOk P w K mg base A clo k ((x,g)::gs) tabs:=λp hp=>by
 rcases List.mem_cons.mp hp with rfl|z
 ·exact⟨h,hx⟩
 ·exact q p z
noncomputable def QC(bs:List Str)(xs:List (Str×Nat))(ys:List (Str×Nat×Nat)):List (Str×GM):=bs.map (λx=>(x,GM.none))++xs.map (λx=>(x.1,GM.xcl x.2))++ys.map (λx=>(x.1,GM.xcf x.2.1 x.2.2))
noncomputable def atA(K:PySem.W.Frag)(A:Ads)(x:Str)(c:Nat):Bool:=match A.xs.lookup c,PySem.W.nsIn K mainGlobals x with
 |some C,some (some (.ref C'))=>C == C'
 |_,_=>false
noncomputable def VY(K:PySem.W.Frag)(A:Ads)(bs:List Str)(xs:List (Str×Nat))(ys:List (Str×Nat×Nat)):Bool:=
 bs.all (λx=>x != ("__debug__":Str)&&Jo (PySem.W.nsIn K mainGlobals x))&&
 xs.all (λx=>x.1 != ("__debug__":Str)&&atA K A x.1 x.2)&&ys.all (λx=>x.1 != ("__debug__":Str)&&atA K A x.1 x.2.1)
theorem J8{x:Str}{c:Nat}(X:K.In base)(Gm:base.Ns mainGlobals mg)(h:atA K A x c=true):∃C,A.xs.lookup c=some C/\mg x=some (.ref C):=by
 unfold atA at h
 split at h
 ·rename_i C C' q1 q2
  have h:C=C':=beq_iff_eq.mp h
  subst h
  exact⟨C,q1,PySem.W.mg_of X Gm q2⟩
 ·cases h
noncomputable def XOkL (K:PySem.W.Frag)(A:Ads):List (Str×Nat)->Prop
 |[]=>True
 |p::r=>(∃C,A.xs.lookup p.2=some C/\PySem.W.excIn K C zQ "ValueError.__new__"=true)/\XOkL K A r
theorem XOkL.at:∀{xs:List (Str×Nat)} {p:Str×Nat},XOkL K A xs->p∈xs->∀C,A.xs.lookup p.2=some C->PySem.W.excIn K C zQ "ValueError.__new__"=true
 |q::r,p,h,hp,C,e=>by
  rcases List.mem_cons.mp hp with rfl|z
  ·obtain⟨C',e',x⟩:=h.1
   rw[e'] at e;cases e;exact x
  ·exact XOkL.at h.2 z C e
theorem Qc{bs:List Str}{xs:List (Str×Nat)}{ys:List (Str×Nat×Nat)}(X:K.In base)(Gm:base.Ns mainGlobals mg)(h:VY K A bs xs ys=true)(hX:XOkL K A xs):GsOk P w K mg base A clo k (QC bs xs ys) tabs:=by
 simp only[VY,Bool.and_eq_true,List.all_eq_true,bne_iff_ne,ne_eq] at h
 intro p hp
 rcases List.mem_append.mp hp with z|z
 ·rcases List.mem_append.mp z with z|z
  ·obtain⟨x,hx,rfl⟩:=List.mem_map.mp z
   obtain⟨h1,h2⟩:=h.1.1 x hx
   exact⟨PySem.W.mg_none_of X Gm (yK h2),beq_eq_false_iff_ne.mpr h1⟩
  ·obtain⟨x,hx,rfl⟩:=List.mem_map.mp z
   obtain⟨h1,h2⟩:=h.1.2 x hx
   obtain⟨C,q1,q2⟩:=J8 X Gm h2
   exact⟨⟨C,q1,q2,XOkL.at hX hx C q1⟩,beq_eq_false_iff_ne.mpr h1⟩
 ·obtain⟨x,hx,rfl⟩:=List.mem_map.mp z
  obtain⟨h1,h2⟩:=h.2 x hx
  obtain⟨C,q1,q2⟩:=J8 X Gm h2
  exact⟨⟨C,q1,q2⟩,beq_eq_false_iff_ne.mpr h1⟩
theorem xk(X:K.In base)(Gm:base.Ns mainGlobals mg)(hc:chk K A cls fld=true)(q:GsOk P w K mg base A clo k gs tabs):MdOk (mkD K A clo tabs) P w K mg base (cn cls fld gs N G cel own lam) k:=by
 simp only[chk,Bool.and_eq_true,List.all_eq_true] at hc
 obtain⟨⟨⟨c1,c2⟩,c3⟩,c4⟩:=hc
 have cb:∀{C},Kk K C=true->PySem.W.findIn K (.ref C) "__class__"=some (some (.builtin "object.__class__"))/\PySem.W.specialIn K (.builtin "object.__class__") "__get__"=some (some (.builtin "getset_descriptor.__get__"))/\PySem.W.takesIn K (.builtin "object.__class__")=some true/\PySem.W.mroIn K C (.type "object")=some true:=λ{C} h=>by
  simp only[Kk,Bool.and_eq_true] at h
  exact⟨kR h.1.1.1,kR h.1.1.2,kL h.1.2,kL h.2⟩
 have oc:∀c C,A.cs.lookup c=some C->OCls K C:=λc C h=>by
  have h':=(c3 _ (q9 h)).1
  simp only[Jc,Bool.and_eq_true] at h'
  obtain⟨⟨⟨⟨h1,h2⟩,h3⟩,h4⟩,h5⟩:=h'
  obtain⟨k1,k2,k3,k4⟩:=cb h1
  exact⟨⟨h2,h3,h4,kR h5⟩,k1,k2,k3,k4⟩
 refine⟨rfl,λx hx=>?_,λt x c hxc u v hu hv=>?_,λc C x f hC hf=>?_,λc C hC=>?_,oc,λx c hxc=>?_,λt x c hxc hlt Ct Cc hCt hCc=>?_⟩
 ·obtain⟨g,hg⟩:=lookup_some (l:=gs) hx
  have:=q _ (q9 hg)
  refine⟨?_,this.2⟩
  show GlOkM _ P w K mg base k x ((gs.lookup x).getD .bad)
  rw[hg]
  exact this.1
 ·have h':=c1 _ hxc
  dsimp only at h'
  split at h'
  ·rename_i v' q'
   simp only[Bool.and_eq_true,List.all_eq_true] at h'
   have e:=(ku X Gm q').2 v hv
   subst e
   exact kL (h'.1.2 _ (Yo hu))
  ·cases h'
 ·have h':=c4 _ hf
  dsimp only at h'
  refine⟨?_,(oc c C hC).cl,yK ((c3 _ (q9 hC)).2 _ hf)⟩
  split at h'
  ·rename_i y hy
   show FLD[f]?=some x
   rw[hy,beq_iff_eq.mp h']
  ·cases h'
 ·have h':=c2 _ (q9 hC)
  simp only[XH,Bool.and_eq_true] at h'
  obtain⟨⟨⟨⟨h1,h2⟩,h3⟩,h4⟩,h5⟩:=h'
  obtain⟨k1,k2,k3,k4⟩:=cb h1
  exact⟨kR h2,yK h3,k1,k2,k3,k4,kL h4,h5⟩
 ·have h':=c1 _ hxc
  dsimp only at h'
  split at h'
  ·rename_i v q'
   simp only[Bool.and_eq_true] at h'
   have hcv:=h'.1.1
   refine⟨v,(match v with|.ref C=>V.ref C|.type n=>V.ty n|_=>V.non),(ku X Gm q').1,?_⟩
   cases v with
   |ref C=>exact .inl ⟨C,rfl,rfl⟩
   |type n=>exact .inr ⟨n,rfl,rfl⟩
   |_=>cases hcv
  ·cases h'
 ·have h':=c1 _ hxc
  dsimp only at h'
  split at h'
  ·rename_i v q'
   simp only[Bool.and_eq_true,Bool.or_eq_true] at h'
   have e:=(ku X Gm q').2 (.ref Cc) (.inl hCc)
   subst e
   have h3:=h'.2.resolve_left (λz=>by have:=Nat.le_of_ble_eq_true z;omega)
   simp only[List.all_eq_true] at h3
   exact kL (h3 _ (q9 hCt))
  ·cases h'
end
section
variable {X:Cx}{D:DP}{W:XW}{Γ:Cn}{k:Nat}{pins:List (Addr×Obj)}{s:Shared}{σ:St}{H:Hp}{φ α:List Addr}{τ:Sl}{μ:Mem}{pos:Pos}
theorem MRel.layO{p:Addr}{u:HO}{mo:MO}(m:MRel D φ α H μ)(hp:H p=none)(d:DenO D φ (α++[p]) (upd H p u) mo p):MRel D φ (α++[p]) (upd H p u) (μ++[mo]):=by
 have st:Stp α H (α++[p]) (upd H p u):=ko hp
 have hl:=m.len
 refine⟨by simp[hl],?_,λb hb=>?_,λb hb=>?_,λi a o e1 e2=>?_⟩
 ·rw[List.nodup_append]
  refine⟨m.nd,by simp,λa ha b hb=>?_⟩
  rw[List.mem_singleton.mp hb]
  intro z
  exact zq m hp (z▸ha)
 ·rcases List.mem_append.mp hb with h|h
  ·exact m.dis b h
  ·rw[List.mem_singleton.mp h];exact zr m hp
 ·obtain⟨u,e,n⟩:=m.phi b hb
  exact⟨u,zk hp b u e,n⟩
 ·by_cases hi:i<α.length
  ·rw[List.getElem?_append_left hi] at e1
   rw[List.getElem?_append_left (by omega)] at e2
   have d:=m.ob i a o e1 e2
   obtain⟨u,q,_⟩:=d.some
   exact d.step st ((zk hp _ _ q).trans q.symm)
  ·rw[List.getElem?_append_right (by omega)] at e1 e2
   have hi':i-α.length=0:=by
    by_cases z:i-α.length=0
    ·exact z
    ·rw[List.getElem?_eq_none (by simp;omega)] at e1;cases e1
   have hi2:i-μ.length=0:=by omega
   rw[hi'] at e1
   rw[hi2] at e2
   have e1:some p=some a:=e1
   have e2:some mo=some o:=e2
   cases e1;cases e2
   exact d
end
noncomputable abbrev eB2(op:T->T->Mem->RE T)(f g:De):De:=λτ μ=>(f τ μ).bind λx μ1=>(g τ μ1).bind λy μ2=>op x y μ2
noncomputable abbrev v5(x y:T)(μ:Mem):RE T:=match x,y with
 |.int a,.int b=>.ok (.int (if b<a then b else a)) μ
 |_,_=>.st
noncomputable abbrev Zj(x y:T)(μ:Mem):RE T:=match x,y with
 |.int a,.int b=>.ok (.int (if a<b then b else a)) μ
 |_,_=>.st
section
variable {X:Cx}{D:DP}{W:XW}{Γ:Cn}{k:Nat}{pins:List (Addr×Obj)}{s:Shared}{σ:St}{H:Hp}{φ α:List Addr}{τ:Sl}{μ:Mem}{f g h:De}{a b c:Expr}{pos:Pos}{es:List Expr}
noncomputable def B2 (X:Cx)(D:DP)(W:XW)(fv:Value)(op:T->T->Mem->RE T):Prop:=
 ∀(pins:List (Addr×Obj)) (s:Shared) (σ:St) (H:Hp) (φ α:List Addr) (μ:Mem) (t t':T) (v v':V) (u u':Value) (Q:VK),Inv X pins σ H s->MRel D φ α H μ->Den D φ α H t v->Den D φ α H t' v'->RelV v u->RelV v' u'->Post D W φ α H σ (RV D φ Q) (op t t' μ)->
  wpAny (model X.prog X.w) X.A (call fv [u,u']) (EP X pins σ Q) X.xe s
theorem Y2 (C:Ck D W Γ X k) {x:Str} {id:String} {op:T->T->Mem->RE T} {p0:Pos} (hx:x∈Γ.G) (hg:Γ.gl x=.none) (hv:bootBuiltins x=some (.builtin id)) (hn:x≠"__name__") (ha':noStar a=true) (hb':noStar b=true) (hB:B2 X D W (.builtin id) op) (ha:PE X a (rdE D W f)) (hb:PE X b (rdE D W g)) :
  PE X (.Call (.Name x p0) [a,b] [] pos) (rdE D W (eB2 op f g)):=by
 have hm:=C.glo _ hx
 rw[hg] at hm
 rintro pins s σ H Q I ⟨φ,α,τ,μ,sr,mr,p⟩
 refine wpAny_Call_Name_kw (vS I (C.glb _ hx) hm hv ?_ hn (C.dbG _ hx))
 refine PyProof.Rows.callWith_builtin1 (thn (zI ha (zI hb qp (z7 hb')) (z7 ha') pos pins s σ H (λvs H2=>∃v1 v2 t1 t2 μ2 α2,vs=[v1,v2]/\MRel D φ α2 H2 μ2/\Den D φ α2 H2 t1 v1/\Den D φ α2 H2 t2 v2/\Post D W φ α2 H2 σ (RV D φ Q) (op t1 t2 μ2)) I
  ⟨φ,α,τ,μ,sr,mr,p.bind.mono λt1 μ1 α1 H1 st1 m1 q1 v1 d1=>⟨φ,α1,τ,μ1,sr.step st1,m1,q1.bind.mono λt2 μ2 α2 H2 st2 m2 q2 v2 d2=>⟨v1,v2,t1,t2,μ2,α2,rfl,m2,d1.step st2,d2,q2⟩⟩⟩) ?_) (z7 ha') (qm (by simp[hb']))
 rintro us s1 ⟨vs,H1,I1,rv,v1,v2,t1,t2,μ2,α2,rfl,m,d1,d2,q⟩
 obtain⟨u1,u2,rfl,r1,r2⟩:=vals2 rv
 exact hB pins s1 σ H1 φ α2 μ2 t1 t2 v1 v2 u1 u2 Q I1 m d1 d2 r1 r2 q
theorem YD(hc:X.calm=true):B2 X D W (.builtin "min") v5:=by
 intro pins s σ H φ α μ t t' v v' u u' Q I mr d d' r r' p
 unfold v5 at p
 split at p
 ·cases d;cases d'
  obtain⟨t1,rfl⟩:=r
  obtain⟨t2,rfl⟩:=r'
  refine min_two_ints (I.ok.hd hc) λh' tk kp=>?_
  have I1:Inv X pins σ H {s with heap:=h',toks:=tk}:=I.kept kp
  rename_i i j
  by_cases z:j<i
  ·rw[if_pos z] at p ⊢
   exact⟨.int j,H,I1,⟨_,rfl⟩,p.here mr rfl⟩
  ·rw[if_neg z] at p ⊢
   exact⟨.int i,H,I1,⟨_,rfl⟩,p.here mr rfl⟩
 ·exact p.elim
theorem Yj(hc:X.calm=true):B2 X D W (.builtin "max") Zj:=by
 intro pins s σ H φ α μ t t' v v' u u' Q I mr d d' r r' p
 unfold Zj at p
 split at p
 ·cases d;cases d'
  obtain⟨t1,rfl⟩:=r
  obtain⟨t2,rfl⟩:=r'
  refine max_two_ints (I.ok.hd hc) λh' tk kp=>?_
  have I1:Inv X pins σ H {s with heap:=h',toks:=tk}:=I.kept kp
  rename_i i j
  by_cases z:i<j
  ·rw[if_pos z] at p
   rw[if_pos (show j > i from z)]
   exact⟨.int j,H,I1,⟨_,rfl⟩,p.here mr rfl⟩
  ·rw[if_neg z] at p
   rw[if_neg (show ¬j > i from z)]
   exact⟨.int i,H,I1,⟨_,rfl⟩,p.here mr rfl⟩
 ·exact p.elim
theorem intsAre_of:∀{ns:List Int} {us:List Value},Vals (ns.map V.int) us->IntsAre us ns
 |[],_,.nil=>.nil
 |n::ns,_,.cons r q=>by
  obtain⟨t,rfl⟩:=r
  exact .cons n t (intsAre_of q)
end
noncomputable def rB2 (nm:Str)(op:T->T->Mem->RE T):ER:=λr Γ e=>match e with
 |.Call (.Name x _) [a,b] [] _=>gd (x == nm&&(idx Γ.N x).isNone&&noStar a&&noStar b&&Γ.calm) ((r.e Γ a).bind λf=>(r.e Γ b).bind λg=>(match Γ.look x with
  |.none=>some (eB2 op f g)
  |_=>none))
 |_=>none
theorem JF{D:DP}{nm:Str}{op:T->T->Mem->RE T}(H1:∀{X:Cx} {W:XW} {Γ:Cn} {k:Nat} {a b:Expr} {f g:De} {p0 pos:Pos},Ck D W Γ X k->nm∈Γ.G->Γ.gl nm=.none->Γ.calm=true->noStar a=true->noStar b=true->PE X a (rdE D W f)->PE X b (rdE D W g)->PE X (.Call (.Name nm p0) [a,b] [] pos) (rdE D W (eB2 op f g))):EOk D (rB2 nm op):=by
 intro r H X W Γ k e d C h
 unfold rB2 at h
 split at h
 ·rename_i x p0 a b pos
  have hh:=zF h
  clear h
  obtain⟨hb,h⟩:=hh
  simp only[Bool.and_eq_true,beq_iff_eq] at hb
  obtain⟨⟨⟨⟨rfl,h2⟩,h3⟩,h4⟩,h5⟩:=hb
  obtain⟨f,h1,h⟩:=bnd h
  obtain⟨g,h6,h⟩:=bnd h
  cases hl:Γ.look x with
  |none=>
   simp only[hl] at h
   cases h
   obtain⟨hx,hg⟩:=w4 hl (by intro z;cases z)
   exact H1 C hx hg h5 h3 h4 (H.e C h1) (H.e C h6)
  |_=>simp[hl] at h
 ·cases h
noncomputable def XU:ER:=rB2 "min" v5
theorem Jk{D:DP}:EOk D XU:=JF λC hx hg hc h1 h2 ha hb=>Y2 C hx hg (by decide +kernel) (by decide) h1 h2 (YD (C.clm hc)) ha hb
noncomputable def XN:ER:=rB2 "max" Zj
theorem VE{D:DP}:EOk D XN:=JF λC hx hg hc h1 h2 ha hb=>Y2 C hx hg (by decide +kernel) (by decide) h1 h2 (Yj (C.clm hc)) ha hb
noncomputable abbrev uy(c:Nat)(g:Fn)(ts:List T)(μ:Mem):RE T:=λK Z=>g (.mut μ.length::ts) (μ++[.obj c []]) (λr μ1=>r=.non/\K (.mut μ.length) μ1) Z
noncomputable abbrev z2a(c:Nat)(g:Fn)(fs:List De):De:=λτ μ=>(evs fs τ μ).bind (uy c g)
noncomputable abbrev zt(c:Nat)(g:Fn)(o:De)(as:List De):De:=λτ μ=>(o τ μ).bind λt μ1=>match t with
 |.obj c' fs=>.grd (c'=c) ((evs as τ μ1).bind λts μ2=>g (.obj c' fs::ts) μ2)
 |.mut i=>λK Z=>∃fs,μ1[i]?=some (.obj c fs)/\(evs as τ μ1).bind (λts μ2=>g (.mut i::ts) μ2) K Z
 |_=>.st
section
variable {X:Cx}{D:DP}{W:XW}{Γ:Cn}{k:Nat}{pins:List (Addr×Obj)}{s:Shared}{σ:St}{H:Hp}{φ α:List Addr}{τ:Sl}{μ:Mem}{fs:List De}{a b c:Expr}{pos:Pos}{es:List Expr}
theorem kI{nm:Str}(hf:∀i,D.fn i≠some nm):∀{fs:List (Nat×T)} {gs:List (Str×V)},DenF D φ α H fs gs->gs.lookup nm=none
 |[],_,h=>by cases h;rfl
 |p::r,_,h=>by
  obtain⟨x,v,q,e,rfl,_,l⟩:=h
  rw[List.lookup_cons]
  have:(nm == x)=false:=by
   apply beq_false_of_ne
   intro z
   exact hf p.1 (by rw[z];exact e)
  rw[this]
  exact kI hf l
theorem JK {es : List Expr} {pos : Pos} {env : Env} (hs : es.all noStar = true) (hl : es.length < 30) : ((backTo pos (starEach es env)).all (fun x => !x.1) && (backToKw pos (keywordEach [] env)).all (fun x => x.1.isSome)
      &&decide (es.length+([]:List Keyword).length+(if ([]:List Keyword).isEmpty then 0 else 1)<30))=true:=by
  have h1:=qm (env:=env) (pos:=pos) hs
  have h2:(backTo pos (starEach es env)).all (λx=>!x.1)=true:=by
    rw[List.all_eq_true]
    intro x hx
    have:=List.any_eq_false.mp h1 x hx
    simpa using this
  rw[h2]
  have h3:(backToKw pos (keywordEach [] env)).all (λx=>x.1.isSome)=true:=rfl
  rw[h3]
  simpa using hl
theorem KN(C:Ck D W Γ X k){x m:Str}{c:Nat}{g:Fn}{o:Expr}{go:De}{apos:Pos}(hU:x∈Γ.U)(hg:Γ.gl x=.met c m g)(hc:Γ.calm=true)(hp:qc o=true)(hline:(apos.endLine == pos.line)=true)(hl:es.length<30)(ho:PE X o (rdE D W go))(ha:EsOk X D W es fs) :
  PE X (.Call (.Attribute o m apos) es [] pos) (rdE D W (zt c g go fs)):=by
 have q:=(C.glU x hU).1
 rw[hg] at q
 obtain⟨C0,fI,fd,ps,kk,ad,cl,M,hnf,hb,hkk,Fn,har⟩:=q
 have hr:=(C.rom hc).mono hkk
 have hs:=ha.stars
 have pa:=wx ha
 rintro pins s σ H Q I ⟨φ,α,τ,μ,sr,mr,p⟩
 rw[arm_eval_Call,qJ hp]
 refine wpAny_bind (thn (sub ho I sr mr p) ?_)
 rintro u s1 ⟨v,H1,t,μ1,α1,I1,r1,st1,sr1,mr1,d1,p1⟩
 refine wpAny_bind (wpAny_standAt ?_)
 have hform:methodCallForm (es.length+([]:List Keyword).length) (backTo pos (starEach es X.env)) (backToKw pos (keywordEach [] X.env))=true:=JK hs hl
 have hpos:methodCallPos true o X.env apos pos=pure pos:=by unfold methodCallPos;simp[hline]
 have go:∀{ad0 dx:Addr} {gs:List (Str×V)} {t0:T},H1 ad0=some (.ins C0 dx gs)->gs.lookup m=none->u=.ref ad0->(∀α2 H2,Stp α1 H1 α2 H2->Den D φ α2 H2 t0 (.ref ad0))->Post D W φ α1 H1 σ (RV D φ Q) ((evs fs τ μ1).bind λts μ2=>g (t0::ts) μ2)->
   wpAny (model X.prog X.w) X.A (methodCall o m apos pos X.env u (es.length+([]:List Keyword).length) (backTo pos (starEach es X.env)) (backToKw pos (keywordEach [] X.env))) (EP X pins σ Q) X.xe s1:=λ{ad0 dx gs t0} e1 lk hu hd p2=>by
  subst hu
  unfold methodCall
  rw[hform]
  refine wpAny_bind (wpAny_holding (Ql I1 e1 cl M lk ?_))
  refine wpAny_bind (wpAny_of_eq hpos ?_)
  have d0:=hd α1 H1 (Stp.refl _ _)
  cases es with
  |nil=>
   cases fs with
   |nil=>exact PySem.W.callWith_K0 (first:=[.ref ad0]) I1.kIn M.kp (ki (ts:=[t0]) (us:=[.ref ad0]) (vs:=[.ref ad0]) C Fn hr hb har I1 (.cons rfl .nil) mr1 ⟨_,_,rfl,d0,rfl⟩ p2)
   |cons f fs=>exact ha.elim
  |cons e es=>
   simp only[List.all_cons,Bool.and_eq_true] at hs
   refine PySem.W.callWith_K (first:=[.ref ad0]) (h₀:=X.base) I1.ok.mod.kin M.kp (thn (JQ pa I1 sr1 mr1 p2) ?_) (z7 hs.1) (qm hs.2)
   rintro us s2 ⟨vs,H2,ts,μ2,α2,I2,r2,st2,sr2,mr2,d2,_,p3⟩
   exact⟨I2.kIn,ki (ts:=t0::ts) (us:=.ref ad0::us) (vs:=.ref ad0::vs) C Fn hr hb har I2 (.cons rfl r2) mr2 ⟨_,_,rfl,hd α2 H2 st2,d2⟩ p3⟩
 cases t with
 |obj c' gf=>
  obtain⟨hcc,p2⟩:=Post.grd p1
  subst hcc
  obtain⟨ad0,C1,dx,gs,rfl,n1,n2,ad1,e1,l⟩:=id d1
  rw[ad] at ad1;cases ad1
  exact go e1 (kI hnf l) r1 (λα2 H2 st=>d1.step st) p2
 | «mut» i=>
  obtain⟨gf,hi,p2⟩:=Post.ex1 p1
  obtain⟨ad0,hi',rfl⟩:=id d1
  obtain⟨C1,dx,gs,ad1,e1,l⟩:=mr1.ob i ad0 _ hi' hi
  rw[ad] at ad1;cases ad1
  exact go e1 (kI hnf l) r1 (λα2 H2 st=>d1.step st) p2
 |_=>exact Post.elim p1
end
theorem vI{K:PySem.W.Frag}{A:Ads}{cls fld:List (Str×Nat)}{c:Nat}{C:Addr}(hc:chk K A cls fld=true)(h:A.cs.lookup c=some C):Cls K C:=by
 simp only[chk,Bool.and_eq_true,List.all_eq_true] at hc
 obtain⟨⟨⟨c1,c2⟩,c3⟩,c4⟩:=hc
 have h':=(c3 _ (q9 h)).1
 simp only[Jc,Bool.and_eq_true] at h'
 obtain⟨⟨⟨⟨h1,h2⟩,h3⟩,h4⟩,h5⟩:=h'
 exact⟨h2,h3,h4,kR h5⟩
noncomputable def z2g:ER:=λr Γ e=>match e with
 |.Call (.Name x _) es [] _=>gd ((idx Γ.N x).isNone&&Γ.calm) ((cEs r Γ es).bind λfs=>(match Γ.look x with
  |.mk c false g=>some (z2a c g fs)
  |_=>none))
 |_=>none
noncomputable def dot(m:Str):Str:=⟨#[46]++m.cps⟩
noncomputable def Yr:ER:=λr Γ e=>match e with
 |.Call (.Attribute o m pa) es [] pc=>gd (qc o&&pa.endLine == pc.line&&Γ.calm&&decide (es.length<30)&&Γ.U.contains (dot m)) ((r.e Γ o).bind λgo=>(cEs r Γ es).bind λfs=>(match Γ.gl (dot m) with
  |.met c nm g=>gd (nm == m) (some (zt c g go fs))
  |_=>none))
 |_=>none
theorem Ko{D:DP}:EOk D Yr:=by
 intro r H X W Γ k e d C h
 unfold Yr at h
 split at h
 ·rename_i o m pa es pc
  have hh:=zF h
  clear h
  obtain⟨hb,h⟩:=hh
  simp only[Bool.and_eq_true] at hb
  obtain⟨⟨⟨⟨h0,h2⟩,h3⟩,h4⟩,h5⟩:=hb
  obtain⟨go,h1,h⟩:=bnd h
  obtain⟨fs,h6,h⟩:=bnd h
  cases hl:Γ.gl (dot m) with
  |met c nm g=>
   simp only[hl] at h
   obtain⟨h7,h8⟩:=zF h
   have h7:=beq_iff_eq.mp h7
   subst h7
   cases h8
   exact KN C (by simpa using h5) hl h3 h0 h2 (of_decide_eq_true h4) (H.e C h1) (wF H C h6)
  |_=>simp[hl] at h
 ·cases h
section
variable {X:Cx}{pins:List (Addr×Obj)}{s:Shared}{σ:St}{H:Hp}
theorem vG{x:Addr}{o:HO}(I:Inv X pins σ H s)(ox:XOk X H x)(hp:∀p∈pins,p.1≠x)(hx:ObjOk X.prog X.w (upd H x o) s.heap x o):Inv X pins σ (upd H x o) s:=by
 have ne:∀b,H b≠none->b≠x:=λb h z=>h (by rw[z];exact ox.free)
 refine⟨I.ok,I.os,I.bare,⟨I.base.keep,I.base.slot,λb o e n hx'=>?_,I.base.there,λb xs e=>?_,λb o u e=>?_,λb ps e=>?_⟩,I.loc,I.cell,?_,λy c e=>?_,λp hp'=>?_,λb ob e=>?_,I.len⟩
 ·have:b≠x:=λz=>by
   rcases ox.new with q|q
   ·exact hx' (by rw[z];exact q)
   ·rw[←z,e] at q;cases q
  rw[za this];exact I.base.free b o e n hx'
 ·have q:=I.base.tups b xs e
  rw[za (ne b (by rw[q];simp))];exact q
 ·have q:=I.base.frzs b o u e
  rw[za (ne b (by rw[q];simp))];exact q
 ·obtain⟨more,q⟩:=I.base.tbls b ps e
  exact⟨more,by rw[za (ne b (by rw[q];simp))];exact q⟩
 ·rw[za (Ne.symm ox.loc)];exact I.free
 ·rw[za (ox.cel y c e)];exact I.freeC y c e
 ·obtain⟨e,n,r⟩:=I.pin p hp'
  have:p.1≠x:=(List.mem_append.mp hp').elim (ox.pin p) (hp p)
  exact⟨e,by rw[za this];exact n,r⟩
 ·by_cases z:b=x
  ·subst z
   rw[z8] at e
   cases e
   exact hx
  ·rw[za z] at e
   exact (I.hok b ob e).stay (λ_ _ _ q=>q) (λc q=>by
    by_cases w:c=x
    ·rw[w,ox.free] at q;cases q
    ·rw[za w];exact q) λc _ q=>by
    by_cases w:c=x
    ·rw[w,ox.free] at q;cases q
    ·rw[za w];exact q
theorem Vz{b:Addr}(f:yS X pins H b):XOk X H b/\∀p∈pins,p.1≠b:=
 ⟨⟨f.1,f.2.1,f.2.2.1,f.2.2.2.1.imp id λh=>Heap.get?_none_of_le h,f.2.2.2.2.1,λp hp=>f.2.2.2.2.2 p (List.mem_append_left _ hp)⟩,λp hp=>f.2.2.2.2.2 p (List.mem_append_right _ hp)⟩
end
noncomputable abbrev z2c:De:=λ_ μ=>.ok (.dic []) μ
end NH
namespace NH.P
open PySem L2 NH
@[reducible] noncomputable def xb:List Ds:=[(zG (WV (WY [2] (eV 0)) (z08 (WY [1] (eV 0)))))]
noncomputable def qx:Fn:=fnW 1 0 xb
@[reducible] noncomputable def yf:List Ds:=[(zG (WV (zd qx [(eV 0)]) (zj .GtE (eV 0) (eC (.int 1)))))]
noncomputable def qX:Fn:=fnW 1 0 yf
@[reducible] noncomputable def xa:List Ds:=[(zG (WV (zd qx [(eV 0)]) (eCh (eC (.int 0)) [(.LtE,(eV 0)),(.Lt,(eV 1))])))]
noncomputable def qk:Fn:=fnW 2 0 xa
@[reducible] noncomputable def jk:List Ds:=[(sIf (vd (vx (tE (zd qX [(eV 1)])) (vx (tE (zd qX [(eV 2)])) (tE (zd qX [(eV 3)]))))) [(qh 12 [(eC (.str "a shape has three whole numbers from 1 on"))])] []),(qq (eV 0) 0 (eV 1)),(qq (eV 0) 1 (eV 2)),(qq (eV 0) 2 (eV 3))]
noncomputable def wU:Fn:=fnW 4 0 jk
@[reducible] noncomputable def kz:List Ds:=[(zG (zb .Mult (zb .Mult (ze (eV 0) 0) (ze (eV 0) 1)) (ze (eV 0) 2)))]
noncomputable def jo:Fn:=fnW 1 0 kz
@[reducible] noncomputable def yA:List Ds:=[(zG (zd qk [(eV 1),(zd jo [(eV 0)])]))]
noncomputable def kq:Fn:=fnW 2 0 yA
@[reducible] noncomputable def je:List Ds:=[(sIf (vd (tE (zd kq [(eV 0),(eV 1)]))) [(qh 13 [(eC (.str "no name of the shape"))])] [])]
noncomputable def wC:Fn:=fnW 2 0 je
@[reducible] noncomputable def jZ:List Ds:=[(sIf (tE (zj .Lt (eV 1) (eB1 wM (eV 0)))) [(zG (eIx (eV 0) (eV 1)))] []),(zG (eC (.int 0)))]
noncomputable def wc:Fn:=fnW 2 0 jZ
@[reducible] noncomputable def xv:List Ds:=[(zo (zd wC [(eV 0),(eV 1)])),(zf 2 (zb .Mod (eV 1) (ze (eV 0) 2))),(zf 3 (zb .FloorDiv (eV 1) (ze (eV 0) 2))),(zG (zE [(zb .FloorDiv (eV 3) (ze (eV 0) 1)),(zb .Mod (eV 3) (ze (eV 0) 1)),(eV 2)]))]
noncomputable def vh:Fn:=fnW 2 2 xv
end NH.P
namespace NH
open PySem PySem.Spec PyProof.Rows L2
section
variable {X:Cx}{D:DP}{W:XW}{Γ:Cn}{k:Nat}{pins:List (Addr×Obj)}{s:Shared}{σ:St}{H:Hp}{φ α:List Addr}{τ:Sl}{μ:Mem}
theorem Zu{q:Addr}{o:Obj}(I:Inv X pins σ H s)(h1:s.heap.get? q=some o)(h2:H q=none)(h3:q≠X.env.locals)(h4:q∉X.fs)(h5:∀v,o.data≠.cell v):Inv X ((q,o)::pins) σ H s:=
 ⟨I.ok,I.os,I.bare,I.base,I.loc,I.cell,I.free,I.freeC,λp hp=>by
  rcases List.mem_append.mp hp with z|z
  ·exact I.pin p (List.mem_append_left _ z)
  ·rcases List.mem_cons.mp z with rfl|z
   ·exact⟨h1,h2,h3,h4,h5⟩
   ·exact I.pin p (List.mem_append_right _ z),I.hok,I.len⟩
theorem ZL{p:Addr×Obj}(I:Inv X (p::pins) σ H s):Inv X pins σ H s:=
 ⟨I.ok,I.os,I.bare,I.base,I.loc,I.cell,I.free,I.freeC,λp hp=>by
  rcases List.mem_append.mp hp with z|z
  ·exact I.pin p (List.mem_append_left _ z)
  ·exact I.pin p (List.mem_append_right _ (List.mem_cons_of_mem _ z)),I.hok,I.len⟩
theorem WS{P:Program}{w:World}{H:Hp}{h:Heap}{c:Addr}{qn:Str}(r:h.CodeRec (.ref c) qn):ObjOk P w H h c (.ext (w9 c qn)):=by
 obtain⟨c',oc,vs,tq,e1,e2,e3,e4⟩:=id r
 cases e1
 refine⟨r,⟨oc,e2⟩,λh1 h2 p kk=>?_⟩
 obtain⟨c',oc,vs,tq,e1,e2,e3,e4⟩:=p
 cases e1
 exact⟨c,oc,vs,tq,rfl,kk _ e2,e3,e4⟩
theorem j3{a b c:Value}:∀(l:List Value),TriplesOk l->∀{x y:Int} {t u:Tok},TriplesOk (l++[.int x t,.int y u,c])
 |[],_,_,_,_,_=>trivial
 |[_],h,_,_,_,_=>by simp[TriplesOk] at h
 |[_,_],h,_,_,_,_=>by simp[TriplesOk] at h
 |p::q::r::l,h,x,y,t,u=>by
  cases p with
  |int _ _=>
   cases q with
   |int _ _=>exact j3 (a:=a) (b:=b) l h
   |_=>exact h.elim
  |_=>exact h.elim
theorem ZT{pos p:Pos}{c:Value}:∀(l:List Value),TriplesOk l->codeAmong pos l=none->codeAmong p (l++[rawInt pos.line,rawInt pos.col,c])=some c\/codeAmong p (l++[rawInt pos.line,rawInt pos.col,c])=codeAmong p l:=by
 intro l h hn
 fun_induction TriplesOk l with
 |case1=>
  by_cases q:((pos.line:Int) == (p.line:Int)&&(pos.col:Int) == (p.col:Int))=true
  ·left;simp only[List.nil_append,codeAmong,rawInt];rw[if_pos q]
  ·right;simp only[List.nil_append,codeAmong,rawInt];rw[if_neg q]
 |case2 a t b u x rest ih=>
  simp only[List.cons_append,codeAmong] at hn ⊢
  split at hn
  ·cases hn
  ·split
   ·exact .inr rfl
   ·exact ih h hn
 |case3 l h1 h2=>exact h.elim
theorem Vs{params:Arguments}{body:Expr}{scope:Scope}{pos:Pos}{line i j:Nat}{qn:Str}{c P:Addr}{Q:Value->Shared->Prop}(I:Inv X pins σ H s)(mr:MRel D φ α H μ)(hi:μ[i]?=some (.tab j)){poss:List Pos}(hD:D.tabs j=some (P,poss,qn))(hpp:pos∈poss)
  (hcode:X.env.code=.ref c) (hC:PySem.W.CodeHd X.base c P) (hB:X.base.BuiltinsAt X.mg P) {cl:List (Str×Addr)} (hcl:closureFor scope X.env=pure cl)
  (h:∀q c' ctv H' s',Inv X ((q,PySem.W.kla_obj "<lambda>" qn params body scope cl ((X.mg "__name__").getD .none) c' ctv)::pins) σ H' s'->Stp α H α H'->MRel D φ α H' μ->c'∉α->H' c'=some (.ext (w9 c' qn))->(c'∉φ/\XOk X H' q/\∀p∈pins,p.1≠q)->Q (.ref q) s') :
  wpAny (model X.prog X.w) X.A (makeFunction "<lambda>" qn params (.expr body) scope X.env [] [] [] pos line) Q X.xe s:=by
 have hia:∃a,α[i]?=some a:=⟨_,List.getElem?_eq_getElem (by rw[mr.len];exact (List.getElem?_eq_some_iff.mp hi).1)⟩
 obtain⟨a,ha⟩:=hia
 obtain⟨pos',qn',ps,hD',hH,htr,hall⟩:=mr.ob i a _ ha hi
 rw[hD] at hD'
 cases hD'
 have hcase:=hall pos hpp
 have hP:s.heap.get? P=some (PySem.W.tabObj ps):=I.hok P _ hH
 have hg:s.heap.Ns mainGlobals X.mg:=I.ok.mod.glob.keeps I.bk
 have hCs:PySem.W.CodeHd s.heap c P:=hC.keeps I.bk
 have hBs:s.heap.BuiltinsAt X.mg P:=by
  obtain⟨bm,o,b1,b2,b3,b4,b5,b6⟩:=hB
  exact⟨bm,o,b1,b2,b3,b4,I.bk _ _ b5,b6⟩
 have hPa:P∈α:=List.mem_of_getElem? ha
 have nL:X.env.locals≠P:=λz=>by have:=I.free;rw[z,hH] at this;cases this
 rcases hcase with hmiss|⟨c',hhit,n1,n2,hc'⟩
 ·have hgP:mainGlobals≠P:=λz=>by
   obtain⟨o,es,ep,e,hd,_⟩:=hg
   rw[z,hP] at e;cases e;cases hd
  refine PySem.W.kla_makeFunction (mg:=X.mg) hcl I.ok.glob hg hcode hCs hP htr hmiss hgP hBs λc' ctv h' tk hx hge hlt hrec htb=>?_
  have hc0:H c'=none:=I.hok.fresh hge
  have hcP:c'≠P:=λz=>by rw[z,hH] at hc0;cases hc0
  have lt_of:∀{b o},s.heap.get? b=some o->b≠c':=λ{b o} e z=>absurd (Nat.lt_of_lt_of_le (Heap.lt_size e) hge) (by rw[z];exact Nat.lt_irrefl _)
  generalize hH':upd (upd H c' (.ext (w9 c' qn))) P (.tbl (ps++#[rawInt pos.line,rawInt pos.col,.ref c']))=H'
  have HP:H' P=some (.tbl (ps++#[rawInt pos.line,rawInt pos.col,.ref c'])):=by rw[←hH'];exact z8
  have Hc:H' c'=some (.ext (w9 c' qn)):=by rw[←hH',za hcP];exact z8
  have Ho:∀b,b≠P->b≠c'->H' b=H b:=λb h1 h2=>by rw[←hH',za h1,za h2]
  have Hs:∀b o,b≠P->H b=some o->H' b=some o:=λb o h1 e=>by rw[Ho b h1 (zL e hc0)];exact e
  have rec2:(h'.push (PySem.W.kla_obj "<lambda>" qn params body scope cl ((X.mg "__name__").getD .none) c' ctv)).CodeRec (.ref c') qn:=by
   obtain⟨c2,oc,vs,tq,e1,e2,e3⟩:=hrec
   exact⟨c2,oc,vs,tq,e1,Heap.get?_push_of_some _ e2,e3⟩
  have J:Inv X pins σ H' {s with heap:=h'.push (PySem.W.kla_obj "<lambda>" qn params body scope cl ((X.mg "__name__").getD .none) c' ctv),toks:=tk}:=by
   refine I.step (g':=s.gens) (d':=s.drawn) (ch:=[]) (λ_ z=>nomatch z) (λb o _ _ _ e n=>?_) (λb o _ _ _ e n=>⟨o.slots,?_⟩) (λb o _ e n=>?_) (λb o _ e=>?_) (λb xs e=>?_) (λb o u e=>?_) (λb qs e=>?_) (λm hm=>?_) (λb u e=>?_) I.bare
   ·exact Heap.get?_push_of_some _ (hx b o (λz=>by rw[z,hH] at n;cases n) e)
   ·exact Heap.get?_push_of_some _ (hx b o (λz=>by rw[z,hH] at n;cases n) e)
   ·rw[Ho b (λz=>by rw[z,hH] at n;cases n) (lt_of e)];exact n
   ·by_cases z:b=P
    ·rw[z];exact⟨_,Heap.get?_push_of_some _ htb⟩
    ·exact⟨o,Heap.get?_push_of_some _ (hx b o z e)⟩
   ·exact Hs b _ (λz=>by rw[z,hH] at e;cases e) e
   ·exact Hs b _ (λz=>by rw[z,hH] at e;cases e) e
   ·by_cases z:b=P
    ·rw[z,hH] at e;cases e;rw[z];exact⟨_,HP⟩
    ·exact⟨#[],by rw[Hs b _ z e];simp⟩
   ·exact (hm.extBut hx nL).push _
   ·by_cases z:b=P
    ·subst z
     rw[HP] at e;cases e
     exact Heap.get?_push_of_some _ htb
    ·by_cases z2:b=c'
     ·subst z2
      rw[Hc] at e;cases e
      exact WS rec2
     ·rw[Ho b z z2] at e
      refine (I.hok b u e).stay (λc v hc q=>?_) (λc q=>?_) λc xs q=>?_
      ·refine Heap.get?_push_of_some _ (hx c v (λw=>?_) q)
       rcases hc with hc|hc
       ·exact z (hc▸w)
       ·rw[w,hH] at hc;cases hc
      ·exact Hs c _ (λw=>by rw[w,hH] at q;cases q) q
      ·exact Hs c _ (λw=>by rw[w,hH] at q;cases q) q
  have fresh:s.heap.objs.size<=h'.objs.size:=Nat.le_of_lt (Nat.lt_of_le_of_lt hge hlt)
  have hqP:h'.objs.size≠P:=λz=>absurd (Heap.lt_size htb) (by rw[←z];exact Nat.lt_irrefl _)
  have hqc:h'.objs.size≠c':=Nat.ne_of_gt hlt
  have nq:H' h'.objs.size=none:=by rw[Ho _ hqP hqc];exact I.hok.fresh fresh
  have st:Stp α H α H':=⟨⟨[],by simp,by simp⟩,λb o n e=>Hs b o (λz=>n (z▸hPa)) e,λb e=>by
   by_cases z:b=P
   ·rw[z,HP] at e;cases e
   ·by_cases z2:b=c'
    ·rw[z2];exact hc0
    ·rw[Ho b z z2] at e;exact e⟩
  refine h h'.objs.size c' ctv H' _ (Zu J (Heap.get?_push_size _ rfl) nq (Nat.ne_of_gt (Nat.lt_of_lt_of_le I.lt fresh)) (I.nofs fresh) (λv z=>by cases z)) st ?_ (zq mr hc0) Hc ⟨zr mr hc0,Vz (I.fpOk fresh nq)⟩
  refine⟨mr.len,mr.nd,mr.dis,λb hb=>?_,λi' a' o' e1 e2=>?_⟩
  ·obtain⟨u,hu,n⟩:=mr.phi b hb
   exact⟨u,st.keep b u (λz=>mr.dis b z hb) hu,n⟩
  ·by_cases z:i'=i
   ·subst z
    rw[ha] at e1;cases e1
    rw[hi] at e2;cases e2
    refine⟨poss,qn,_,hD,HP,?_,λp2 hp2=>?_⟩
    ·rw[Array.toList_append]
     exact j3 (a:=.none) (b:=.none) _ htr
    ·rw[Array.toList_append]
     rcases ZT (p:=p2) (c:=.ref c') _ htr hmiss with w|w
     ·exact .inr ⟨c',w,zr mr hc0,zq mr hc0,Hc⟩
     ·rw[show (#[rawInt pos.line,rawInt pos.col,.ref c']:Array Value).toList=[rawInt pos.line,rawInt pos.col,.ref c'] from rfl,w]
      refine (hall p2 hp2).imp id λ⟨c2,k1,k2,k3,k4⟩=>⟨c2,k1,k2,k3,?_⟩
      exact Hs c2 _ (λz=>k3 (z▸hPa)) k4
   ·have ne:a'≠P:=λw=>by
     obtain⟨q1,q2⟩:=List.getElem?_eq_some_iff.mp e1
     obtain⟨q3,q4⟩:=List.getElem?_eq_some_iff.mp ha
     exact z ((List.getElem_inj mr.nd).mp (q2.trans (w.trans q4.symm)))
    have d:=mr.ob i' a' o' e1 e2
    obtain⟨u,hu,_⟩:=d.some
    exact DenO.step st ((Hs a' u ne hu).trans hu.symm) d
 ·refine PySem.W.kla_makeFunctionHit (mg:=X.mg) hcl I.ok.glob hg hcode hCs hP htr hhit hBs λctv h' tk hk hsz=>?_
  have J:Inv X pins σ H {s with heap:=h'.push (PySem.W.kla_obj "<lambda>" qn params body scope cl ((X.mg "__name__").getD .none) c' ctv),toks:=tk}:=I.kept λb u e=>Heap.get?_push_of_some _ (hk b u e)
  exact h h'.objs.size c' ctv H _ (Zu J (Heap.get?_push_size _ rfl) (I.hok.fresh hsz) (Nat.ne_of_gt (Nat.lt_of_lt_of_le I.lt hsz)) (I.nofs hsz) (λv z=>by cases z)) (Stp.refl _ _) mr n2 hc' ⟨n1,Vz (I.fpOk hsz (I.hok.fresh hsz))⟩
end
section
variable {X:Cx}{D:DP}{W:XW}{Γ:Cn}{k n:Nat}{pins:List (Addr×Obj)}{s:Shared}{σ:St}{H:Hp}{φ α:List Addr}{τ:Sl}{μ:Mem}
theorem bind1{fd:FuncData}{y:Str}{pa:Pos}{u:Value}(hp:fd.params=⟨[],[⟨y,none,pa⟩],none,[],[],none,[]⟩)(hd:fd.defaults=.none):bindArgs fd ⟨[u],[]⟩=pure [(y,u)]:=by
 have e:List.lookup y [(y,u)]=some u:=by simp[List.lookup]
 unfold bindArgs
 rw[hp,hd]
 simp[e,seqItems?]
 rfl
end
theorem WL{P:Program}{w:World}{K:PySem.W.Frag}{mg mb:Str->Option Value}{CX:CXT}{k:Nat}{fa a c P0:Addr}{fd:FuncData}{x:Str}{sp:Sp}{s₁:Shared}{vs:List Value}{ns:List Int}
  (KX:K.In s₁.heap) (hns:s₁.heap.Ns mainGlobals mg) (hb:s₁.heap.Ns builtinsNs mb) (hbb:∀x:Str,x≠"__name__"->mb x=bootBuiltins x) (hlim:s₁.heap.NoLimit) (hg:s₁.gens=#[])
  (hbm:∃bm ob,mg "__builtins__"=some (.ref bm)/\bm≠builtinsNs/\s₁.heap.get? bm=some ob/\ob.cls=.type "module"/\ob.dict=some builtinsNs/\ob.data=.plain)
  (hnl:ZE K=true) (hPt:s₁.heap.get? P0=some (PySem.W.tabObj #[])) (hKP:K.lookup P0=none) (hPc:P0≠cStatics) (hcd:PySem.W.codeHdIn K c P0=true)
  (ha:s₁.heap.get? a=some {cls:=.type "list",data:=.seq vs.toArray}) (hi:IntsAre vs ns) (hl:ns.length<=sizeLine) (hr:Room k callerA)
  (F:∀base:Heap,K.In base->base.Ns mainGlobals mg->base.BuiltinsAt mg P0->FnOk P w K mg base CX k fa fd [x] sp) (hbind:∀(s:Shared) (u:Value),BindsTo s fd ⟨[u],[]⟩ [(x,u)])
  (hsp:∀H:Hp,Rd H a (.lst (ns.map V.int))->H P0=some (.tbl #[])->a≠P0->sp [.ref a] H (λv _=>v=.bl true) λ_ _ _=>False)
  (hCX:∀H e s',CX [] H s₁ (λ_ _ _=>False) e s'->False) :
  codeAny (model P w) callerA (.call (.ref fa) ⟨[.ref a],[]⟩) (λr s'=>r=.ok (.ret (.bool true))/\OldK s₁.heap s'.heap/\s'.os=s₁.os/\AllBare s'.gens) s₁:=by
 have rv:=L2.vals_ints hi
 have lenV:=hi.length
 have naP:a≠P0:=λz=>by rw[z,hPt] at ha;cases ha
 have hKa:K.lookup a=none:=by
  cases q:K.lookup a with
  |none=>rfl
  |some o=>
   have e:=KX a o q
   rw[ha] at e;cases e
   exact absurd rfl (QX hnl q)
 obtain⟨H,hH⟩:∃H:Hp,H=upd (upd (λ_=>none) P0 (.tbl #[])) a (.frz {cls:=.type "list",data:=.seq vs.toArray} (.lst (ns.map V.int))):=⟨_,rfl⟩
 have Ha:H a=some (.frz {cls:=.type "list",data:=.seq vs.toArray} (.lst (ns.map V.int))):=by rw[hH];exact z8
 have HP:H P0=some (.tbl #[]):=by rw[hH,za naP.symm];exact z8
 have Ho:∀b,b≠a->b≠P0->H b=none:=λb h1 h2=>by rw[hH,za h1,za h2]
 have hok:HOk P w H s₁.heap:=λb u e=>by
  by_cases h1:b=a
  ·subst h1
   rw[Ha] at e;cases e
   exact⟨ha,by rw[List.length_map];exact hl,vs,_,rv,ha⟩
  ·by_cases h2:b=P0
   ·subst h2
    rw[HP] at e;cases e
    exact hPt
   ·rw[Ho b h1 h2] at e;cases e
 have un:∀{b:Addr} {o:Obj},s₁.heap.get? b=some o->o.cls≠.none->o.cls≠.type "list"->H b=none:=λ{b o} e n1 n2=>Ho b (λz=>by rw[z,ha] at e;cases e;exact n2 rfl) λz=>by rw[z,hPt] at e;cases e;exact n1 rfl
 have noA:∀{b:Addr} {o:Obj} {es:Array DictEntry} {ep:Nat},s₁.heap.get? b=some o->o.data=.dict es ep->H b=none:=λ{b o es ep} e d=>Ho b (λz=>by rw[z,ha] at e;cases e;cases d) λz=>by rw[z,hPt] at e;cases e;cases d
 have qJ:∀{b:Addr} {o:Obj},s₁.heap.get? b=some o->H b=none->(xY s₁.heap H).get? b=some o:=λe n=>VO e n
 have nsK:∀{b:Addr} {m:Str->Option Value},s₁.heap.Ns b m->(xY s₁.heap H).Ns b m:=λ{b m} ⟨o,es,ep,e,d,r⟩=>⟨o,es,ep,qJ e (noA e d),d,r⟩
 have hKf:∀b o,K.lookup b=some o->H b=none:=λb o e=>Ho b (λz=>by rw[z,hKa] at e;cases e) λz=>by rw[z,hKP] at e;cases e
 have hKb:K.In (xY s₁.heap H):=λb o e=>qJ (KX b o e) (hKf b o e)
 have hM:Mod K mg (xY s₁.heap H):=⟨hKb,nsK hns,⟨mb,nsK hb,hbb⟩,let ⟨mc,h1,h2⟩:=hlim;⟨mc,nsK h1,h2⟩⟩
 have hB:(xY s₁.heap H).BuiltinsAt mg P0:=by
  obtain⟨bm,ob,b1,b2,b3,b4,b5,b6⟩:=hbm
  refine⟨bm,ob,b1,b2,λz=>?_,λz=>?_,qJ b3 (un b3 (by rw[b4];exact λz=>by cases z) (by rw[b4];exact λz=>absurd (Value.type.inj z) (by decide))),b4,b5,b6⟩
  ·obtain⟨o,es,ep,e,d,_⟩:=hns
   rw[z,e] at b3;cases b3;rw[d] at b6;cases b6
  ·rw[z,hPt] at b3;cases b3;cases b4
 have e0:Env0 P w K mg (xY s₁.heap H) callerA [] s₁ H:=⟨rfl,hM,λb o e=>Kr e,Nat.le_of_eq (Wj _ _),trivial,λb hb=>absurd (show b∈([]:List Addr) from hb) (by simp),hok,.of_eq hg⟩
 refine codeAny_mono ((F _ hKb (nsK hns) hB).run callerA [] s₁ H ⟨[.ref a],[]⟩ [.ref a] [.ref a] _ _ hr e0 (hbind s₁ (.ref a)) (.cons rfl .nil) (hsp H (.inr ⟨_,Ha⟩) HP naP)) λr s' h=>?_
 cases r with
 |error e=>exact (hCX H e s' h).elim
 |ok fl=>
  cases fl with
  |next=>exact False.elim h
  |brk=>exact False.elim h
  |cont=>exact False.elim h
  |ret u=>
   obtain⟨v,H',os,bare,un,hok',r',q⟩:=h
   have q':v=.bl true:=q
   subst q'
   obtain rfl:u=Value.bool true:=r'
   have kp:∀b o,H b=none->s₁.heap.get? b=some o->s'.heap.get? b=some o:=λb o n e=>un.keep b o e n (by intro z;exact absurd (show b∈([]:List Addr) from z) (by simp)) (by simp)
   obtain⟨more,hm⟩:=un.tbls P0 _ HP
   have hP':s'.heap.get? P0=some (PySem.W.tabObj (#[]++more)):=hok' P0 _ hm
   have cd:=PySem.W.codeHd_of_K KX hcd
   have cd':PySem.W.CodeHd s'.heap c P0:=by
    obtain⟨o,vs,file,tf,flags,tg,inF,text,tt,e1,e2,r⟩:=cd
    refine⟨o,vs,file,tf,flags,tg,inF,text,tt,kp c o ?_ e1,e2,r⟩
    exact Ho c (λz=>by rw[z,ha] at e1;cases e1;exact absurd (Value.type.inj e2) (by decide)) λz=>by rw[z,hPt] at e1;cases e1;cases e2
   refine⟨rfl,(OldK.refl s₁.heap).step_table (cd.tab hPt) (cd.tab hPt) (cd'.tab hP') (λb o hb e=>?_) hPc,os,bare⟩
   by_cases h1:b=a
   ·subst h1
    have z2:=un.frzs b _ _ Ha
    obtain⟨e2,_⟩:=hok' b _ z2
    rw[ha] at e;cases e
    exact e2
   ·exact kp b o (Ho b h1 hb) e
noncomputable def ZO(K:PySem.W.Frag)(P0:Addr):Sp:=λvs H Q _=>∃(a:Addr) (ns:List Int),vs=[.ref a]/\Rd H a (.lst (ns.map V.int))/\H P0=some (.tbl #[])/\a≠P0/\ns.length<=63/\∀H',Q (.bl true) H'
noncomputable def Qq(f:Fn):Prop:=∀ns:List Int,ns.length<=63->f [.lst (ns.map T.int)] [.tab 0] (λt _=>t=.bl true) (λ_ _ _=>False)
theorem X0{D:DP}{P:Program}{w:World}{K:PySem.W.Frag}{mg:Str->Option Value}{base:Heap}{k:Nat}{fa P0:Addr}{fd:FuncData}{x:Str}{f:Fn}{poss:List Pos}{qn:Str}(ht:Qq f)(hD:D.tabs 0=some (P0,poss,qn))
  (F:FnOk P w K mg base (CX1 P w) k fa fd [x] (spN D 1 f)):FnOk P w K mg base (CX1 P w) k fa fd [x] (ZO K P0):=by
 refine F.imp ?_
 rintro vs H Q E ⟨a,ns,rfl,r,hP,hne,hn,q⟩
 refine⟨rfl,[],[P0],[.lst (ns.map T.int)],[.tab 0],⟨.ref a,[],rfl,⟨a,_,rfl,by simp,by simpa using hne,r,yr ns⟩,rfl⟩,⟨rfl,by simp,by simp,by simp,λi a' o e1 e2=>?_⟩,_,_,ht ns hn,?_,?_⟩
 ·cases i with
  |succ i=>simp at e1
  |zero=>
   have e1:P0=a':=by simpa using e1
   have e2:MO.tab 0=o:=by simpa using e2
   subst e1;subst e2
   exact⟨poss,qn,#[],hD,hP,trivial,λ_ _=>.inl rfl⟩
 ·rintro t μ rfl α' H' st m v d
  have d:v=.bl true:=d
  rw[d]
  exact q H'
 ·exact λ_ _ _ z=>z.elim
end NH
namespace NH.P
open PySem L2 NH
@[reducible] noncomputable def vV:List Ds:=[(sIf (vd (tE (zd qk [(eV 0),(eV 1)]))) [(qh 13 [(eC (.str "no moment, house or count of the shape"))])] [])]
noncomputable def qr:Fn:=fnW 2 0 vV
@[reducible] noncomputable def y9:List Ds:=[(zo (zd qr [(eV 1),(ze (eV 0) 0)])),(zo (zd qr [(eV 2),(ze (eV 0) 1)])),(zo (zd qr [(eV 3),(ze (eV 0) 2)])),(zG (zb .Add (zb .Mult (zb .Add (zb .Mult (eV 1) (ze (eV 0) 1)) (eV 2)) (ze (eV 0) 2)) (eV 3)))]
noncomputable def km:Fn:=fnW 4 0 y9
@[reducible] noncomputable def xA:List Ds:=[(sIf (tOr (vd (tE (WY [4] (eV 1)))) (tE (zj .NotEq (eB1 wM (eV 1)) (eC (.int 3))))) [(zG (eC (.bl false)))] []),(sIf (vd (vx (tE (zd qk [(eIx (eV 1) (eC (.int 0))),(ze (eV 0) 1)])) (vx (tE (zd qx [(eIx (eV 1) (eC (.int 1)))])) (tE (zd qx [(eIx (eV 1) (eC (.int 2)))]))))) [(zG (eC (.bl false)))] []),(zG (eCh (eC (.int 0)) [(.LtE,(eIx (eV 1) (eC (.int 1)))),(.Lt,(eIx (eV 1) (eC (.int 2)))),(.LtE,(ze (eV 0) 0))]))]
noncomputable def vc:Fn:=fnW 2 0 xA
@[reducible] noncomputable def vB:List Ds:=[(sIf (vd (tE (zd vc [(eV 0),(eV 1)]))) [(qh 18 [(eC (.str "no lease of the shape"))])] [])]
noncomputable def qV:Fn:=fnW 2 0 vB
end NH.P
namespace NH
open PySem PySem.Spec PyProof.Rows L2
theorem walkT2{l:PySem.W.OpenLaw}{q:Program}{loose:List Str}{XP:(Str->Option Value)->Heap->Prop}{YP:World->Heap->Prop}{d:DefRec}{K:Params->PySem.W.Frag}{x:Str}{k:Nat}{P0:Addr}(hk:k<=90)(hn:l.most=some 63)(hdf:d.params.defaults=[])
  (hY:∀(w:World) (h:Heap),YP w h->(K w.params).In h) (hT:∀(w:World) (h:Heap),YP w h->h.get? P0=some (PySem.W.tabObj #[]))
  (F:∀(w:World) (mg:Str->Option Value) (fa:Addr) (h:Heap),(K w.params).In h->h.Ns mainGlobals mg->mg d.name=some (.ref fa)->
   (ZE (K w.params)=true/\(K w.params).lookup P0=none/\P0≠cStatics/\∃c,PySem.W.codeHdIn (K w.params) c P0=true)/\∃fd:FuncData,(∀(s:Shared) (u:Value),BindsTo s fd ⟨[u],[]⟩ [(x,u)])/\∀base:Heap,(K w.params).In base->base.Ns mainGlobals mg->base.BuiltinsAt mg P0->FnOk l.prog w (K w.params) mg base (CX1 l.prog w) k fa fd [x] (ZO (K w.params) P0)) :
  PySem.W.WalkO q loose XP YP l.row.toRowW d [] (λf vs=>PySem.call f vs):=by
 refine Att.attach_call hn hdf λw s₀ s₁ mg mb fa o pm cd doc a vs ns G Y ho hd hcd hmg hobj hints hlen hg=>?_
 have KX:=hY w _ Y
 obtain⟨⟨f1,f2,f3,c,f4⟩,fd,hb,hF⟩:=F w mg fa _ KX G.T.g hmg
 exact WL KX G.T.g G.T.b G.T.builtins G.T.nolimit hg G.T.bmain f1 (hT w _ Y) f2 f3 f4 hobj hints (Nat.le_trans hlen (by decide)) (Room.mono (k:=90) ⟨rfl,by decide,by decide⟩ hk) hF hb (λH hr hP hne=>⟨a,ns,rfl,hr,hP,hne,hlen,λ_=>rfl⟩) λH e s' z=>by
  obtain⟨_,_,_,_,_,_,_,_,_,_,_,_,_,_,_,z⟩:=z
  exact z
section
variable {prog:Program}{w:World}{A:Around}{E:Value->Shared->Prop}{h:Heap}{g:Array GenState}{d:Drawn}{t:Nat}{os:OsState}
variable {nm q:Str}{C N:Addr}{bs bm bmB:List Value}{hdct:Bool}{sn:List Str}{sub:List Value}{ab:Bool}{col:Option Bool}{dd:Option Addr}{k0 k1 k2 k3 k5:Option Value}{B newId initId:String}
theorem WJ(F:ExcBaseFacts B newId initId bmB)(T0:OwnTail h bmB bm){mN:Str->Option Value}{us:List Value}{fI:Addr}{oI:Obj}{Q:Fin->Shared->Prop}
  (gC:h.get? C=some (excClassObj nm q C N bs bm hdct sn sub ab col dd k0 k1 k2 k3 k5 newId)) (gN:h.Ns N mN) (gI:mN "__init__"=some (.ref fI)) (gf:h.get? fI=some oI) (gc:oI.cls=.type "function")
  (go:∀h1 x,Heap.MadeExcOf h h1 x (.ref C) us->wpAny (model prog w) A (call (.ref fI) (.ref x::us)) (λr s1=>r=.none/\Q (.done (.ret (.ref x))) s1) E ⟨h1,g,d,t,os⟩) (hus:us.length<=sizeLine) :
  wpAny (model prog w) A (Builtin.«type.__call__» ⟨.ref C::us,[]⟩) Q E ⟨h,g,d,t,os⟩:=by
 repeat (first|(with_reducible refine wpAny_loadPart_at gC ?_)|(with_reducible refine wpAny_madeBy_exc gC ?_)|wp_step)
 refine codeAny_call_builtin_code (Code.quiet_builtin _ F.quiet) (wpAny_check_new_subT F T0 gC (codeAny_exc_new_subT F T0 gC ?_ hus))
 show wpAny _ _ _ _ _ _
 let tu:Obj:={cls:=.type "tuple",data:=.seq us.toArray}
 let xo:Obj:={cls:=.ref C,data:=.fields #[.ref h.objs.size,.none,.none,.none,.bool false,.none]}
 have up:∀b o,h.get? b=some o->((h.push tu).push xo).get? b=some o:=λb o e=>Heap.get?_push_of_some _ (Heap.get?_push_of_some _ e)
 have gC1:=up _ _ gC
 have gf1:=up _ _ gf
 have gN1:((h.push tu).push xo).Ns N mN:=by
  obtain⟨o,es,ep,e,r⟩:=gN
  exact⟨o,es,ep,up _ _ e,r⟩
 have gx:((h.push tu).push xo).get? (h.objs.size+1)=some xo:=by
  have:=Heap.get?_push_size (h.push tu) (o:=xo) rfl
  rw[Heap.size_push] at this
  exact this
 have own:(Value.ref C::bm).contains (.ref C)=true:=by simp
 have T1:OwnTail ((h.push tu).push xo) bmB bm:=T0.keeps up
 unfold isInstance
 repeat (first|(with_reducible refine wpAny_loadPart_at gx ?_)|(with_reducible refine wpAny_isSubtype_exc gC1 ?_;rw[own])|wp_step)
 show wpAny _ _ (typeLookup (.ref C) _) _ _ _
 refine wpAny_typeLookup_tail gC1 gN1 T1 F.mroIs F.init.lookup ?_
 rw[gI]
 refine wpAny_holding (wpAny_bind ?_)
 unfold bindSpecial
 refine wpAny_bind (wpAny_typeOf (T:="function") ⟨_,gf1,gc⟩ ?_)
 rw[if_pos (by decide)]
 have mk:Heap.MadeExcOf h ((h.push tu).push xo) (h.objs.size+1) (.ref C) us:=⟨up,Heap.get?_none_of_le (Nat.le_succ _),h.objs.size,gx,Heap.get?_none_of_le (Nat.le_refl _),Heap.get?_push_of_some _ (Heap.get?_push_at rfl rfl)⟩
 refine wpAny_pure (wpAny_bind (wpAny_mono (go _ _ mk) (λr s1 hr=>?_) λ_ _ z=>z))
 obtain⟨rfl,hr⟩:=hr
 wp_walk
 exact hr
theorem Wu(F:ExcBaseFacts B newId initId bmB)(T0:OwnTail h bmB bm){mN:Str->Option Value}{us:List Value}{fI:Addr}{oI:Obj}{Q:Value->Shared->Prop}
  (gC:h.get? C=some (excClassObj nm q C N bs bm hdct sn sub ab col dd k0 k1 k2 k3 k5 newId)) (gN:h.Ns N mN) (gI:mN "__init__"=some (.ref fI)) (gf:h.get? fI=some oI) (gc:oI.cls=.type "function")
  (go:∀h1 x,Heap.MadeExcOf h h1 x (.ref C) us->wpAny (model prog w) (A.under (.builtin "type.__call__" ⟨.ref C::us,[]⟩)) (call (.ref fI) (.ref x::us)) (λr s1=>r=.none/\Q (.ref x) s1) E ⟨h1,g,d,t,os⟩) (hus:us.length<=sizeLine) :
  wpAny (model prog w) A (call (.ref C) us) Q E ⟨h,g,d,t,os⟩:=by
 have i1:=tc_lookup
 have i2:=tc_bind (.ref C)
 have tp:Shared.TypeIs ⟨h,g,d,t,os⟩ (.ref C) "type":=⟨_,gC,rfl⟩
 refine wpAny_call (codeAny_of_tree ?_)
 show wpAny _ _ (callAny (.ref C) _) _ _ _
 repeat (any_goals (first|assumption|(with_reducible refine wpAny_loadPart_at gC ?_)|wp_step))
 refine⟨rfl,codeAny_call_builtin_at (Code.quiet_builtin _ (by decide +kernel)) entry_typeCall (wpAny_check_type_call_sub gC ?_)⟩
 exact WJ F T0 gC gN gI gf gc (λh1 x mk=>go h1 x mk) hus
theorem x6 {M:Model} {env:Env} {s:Shared} {x:Sem Value} {Q:Flow->Shared->Prop} (hbase:bm.contains (.type "BaseException")=true) (hh:A.handled=none)
  (go:wpAny M A x (λv s1=>∃e t dx,v=.ref e/\s1.heap.get? C=some (excClassObj nm q C N bs bm hdct sn sub ab col dd k0 k1 k2 k3 k5 newId)/\
   s1.heap.get? e=some {cls:=.ref C,dict:=dx,data:=.fields #[.ref t,.none,.none,.none,.bool false,.none]}/\E (.ref e) s1) E s) :
  wpAny M A (raiseStmt env (some x) none) Q E s:=by
 have isB:(Value.ref C::bm).contains (.type "BaseException")=true:=by rw[List.contains_cons,hbase];simp
 unfold raiseStmt
 refine wpAny_bind (wpAny_mono go (λv s1 k=>?_) λ_ _ z=>z)
 obtain⟨e,t,dx,rfl,gC,ge,gE⟩:=k
 obtain⟨h1,g1,d1,t1,o1⟩:=s1
 repeat (first|(with_reducible refine wpAny_loadPart_at ge ?_)|(with_reducible refine wpAny_loadPart_at gC ?_)|(with_reducible refine wpAny_isSubtype_exc gC ?_;rw[isB])|wp_step)
 exact wpAny_raiseNew_none hh gE
end
section
variable {prog:Program}{w:World}{A:Around}{E:Value->Shared->Prop}{s:Shared}
variable {nm q:Str}{C N:Addr}{bs bm bmB:List Value}{hdct:Bool}{sn:List Str}{sub:List Value}{ab:Bool}{col:Option Bool}{dd:Option Addr}{k0 k1 k2 k3 k5:Option Value}{B newId initId:String}
theorem VG(F:ExcBaseFacts B newId initId bmB)(T0:OwnTail s.heap bmB bm){e:Addr}{ob:Obj}{vs:Array Value}{t0:Addr}{rest:List Value}{Q:Value->Shared->Prop}
  (gC:s.heap.get? C=some (excClassObj nm q C N bs bm hdct sn sub ab col dd k0 k1 k2 k3 k5 newId)) (he:s.heap.get? e=some ob) (hcls:ob.cls=.ref C) (hd:ob.data=.fields vs) (h0:vs[0]?=some (.ref t0))
  (h:Q .none {s with heap:=(s.heap.push {cls:=.type "tuple",data:=.seq rest.toArray}).update e (Obj.mapFields (·.setIfInBounds 0 (.ref s.heap.objs.size)))}) (hrest:rest.length<=sizeLine) :
  wpAny (model prog w) A (call (.builtin initId) (.ref e::rest)) Q E s:=by
 obtain⟨hh,g,d,t,os⟩:=s
 refine wpAny_call (codeAny_call_builtin F.init.plain F.initEntry (wpAny_check_init_subT F T0 gC he hcls ?_))
 unfold Builtin.«BaseException.__init__»
 dsimp only
 rw[if_neg (by simp)]
 unfold newTuple Builtin.BaseException.bexcPut
 have hsz:0<vs.size:=(Array.getElem?_eq_some_iff.mp h0).1
 have he₁:=Heap.get?_push_of_some (h:=hh) {cls:=.type "tuple",data:=.seq rest.toArray} he
 refine wpAny_bind (wpAny_newObj_type (wpAny_bind (wpAny_bind (wpAny_field he₁ hd h0 (wpAny_bind (wpAny_setField he₁ hd hsz ?_))))) (by show rest.toArray.size<=sizeLine;rw[List.size_toArray];exact hrest))
 exact wpAny_letGo (wpAny_pure h)
end
noncomputable def wL:List Value->Bool
 |.ref _::r=>wL r
 |l=>l == zQ
theorem va(self:Value):∀{l:List Value},wL l=true->PySem.refuseLoop self "__setattr__" l=pure ()
 |.ref c::r,e=>by rw[refuseLoop_ref];exact va self e
 |.type n::r,e=>by rw[show Value.type n::r=zQ from beq_iff_eq.mp e];exact PySem.F.store_ValueError.passes self
 |[],e=>by cases e
 |v::r,e=>by
  unfold wL at e
  split at e
  ·rename_i h;cases h;rw[refuseLoop_ref];exact va self e
  ·rw[beq_iff_eq.mp e];exact PySem.F.store_ValueError.passes self
theorem vJ:∀{l:List Value},wL l=true->l.contains (.type "object")=true
 |.ref c::r,e=>by rw[List.contains_cons,vJ (l:=r) e,Bool.or_true]
 |[],e=>by cases e
 |v::r,e=>by
  unfold wL at e
  split at e
  ·rename_i h;cases h;rw[List.contains_cons,vJ (l:=_) e,Bool.or_true]
  ·rw[beq_iff_eq.mp e];decide
section
variable {prog:Program}{w:World}{A:Around}{E:Value->Shared->Prop}{s:Shared}{K:PySem.W.Frag}{C x:Addr}
theorem Ku{ox:Obj}{name:Str}{v:Value}{Q:Unit->Shared->Prop}(X:K.In s.heap)(hx:s.heap.get? x=some ox)(hc:ox.cls=.ref C)(hnc:PySem.W.notCls ox=true)(hd:ox.dict=none)
  (hs:PySem.W.findIn K (.ref C) "__setattr__"=some (some (.builtin "object.__setattr__"))) (hp:((PySem.W.clsIn K C).any λcd=>wL cd.mro)=true) (ht:PySem.W.findIn K (.ref C) name=some none) (hh:PySem.W.hasDictIn K C=true)
  (h:∀h' tk,h'.get? x=some {ox with dict:=some s.heap.objs.size}->h'.Ns1 s.heap.objs.size (λy=>if y=name then some v else none)->(∀b o,b≠x->s.heap.get? b=some o->h'.get? b=some o)->Q () {s with heap:=h',toks:=tk}) :
  wpAny (model prog w) A (setAttr (.ref x) name v) Q E s:=by
 have J:PySem.W.InstAt s.heap x ox C none:=⟨hx,hc,hnc,by rw[hd];trivial⟩
 refine PySem.W.set_plain X J hs ?_
 have SF:=PySem.F.store_object
 obtain⟨cd,hcd,ho⟩:=PySem.W.any_some hp
 obtain⟨cd',hcd',hdict⟩:=PySem.W.any_some hh
 rw[hcd] at hcd'
 cases hcd'
 have ne:cd.mro.isEmpty=false:=by cases q:cd.mro with|nil=>rw[q] at ho;cases ho|cons _ _=>rfl
 have sub:PySem.W.Looks (model prog w) s.heap (isInstance (.ref x) (.type "object")) true:=J.type.andThen (PySem.W.looks_mroIn X (by unfold PySem.W.mroIn;rw[hcd,Option.bind_some,if_neg (by rw[ne];decide),vJ ho]))
 refine codeAny_call_builtin SF.slot.plain SF.entry (@PySem.W.check_slot (model prog w) _ _ {s with toks:=s.toks+1} "object.__setattr__" "object" "__setattr__" (.ref x) [.str name s.toks,v] [] _ SF.kind SF.split sub (SF.args (.ref x) (.str name s.toks) v) ?_)
 have hm:PySem.W.Looks (model prog w) s.heap (mroOf (.ref C)) cd.mro:=(PySem.W.looks_clsIn X hcd).andThen .now
 rw[PySem.W.osa_eq,refuse_eq]
 refine wpAny_bind (wpAny_bind (PySem.W.Looks.here (s:={s with toks:=s.toks+1}) J.type (wpAny_bind (PySem.W.Looks.here (s:={s with toks:=s.toks+1}) hm ?_))))
 rw[va _ ho]
 refine wpAny_pure (wpAny_bind (PySem.W.Looks.here (s:={s with toks:=s.toks+1}) J.type (wpAny_bind (PySem.W.Looks.here (s:={s with toks:=s.toks+1}) (PySem.W.looks_findIn X ht) (wpAny_bind (wpAny_pure ?_))))))
 obtain⟨hh0,g,dr,t,os⟩:=s
 obtain⟨oc,odi,oda,osl⟩:=ox
 dsimp only at hc hd hx
 subst hc hd
 have hnc':∀c,oda≠.cls c:=λc z=>by subst z;cases hnc
 refine wpAny_bind (wpAny_pure (wpAny_bind (wpAny_bind (wpAny_loadPart hx (wpAny_bind (PySem.W.Looks.here (s:=⟨hh0,g,dr,t+1,os⟩) (PySem.W.looks_clsIn X hcd) ?_))))))
 rw[hdict]
 have hx₁:(hh0.push {cls:=.type "dict",data:=.dict #[]}).get? x=some ⟨.ref C,none,oda,osl⟩:=Heap.get?_push_of_some _ hx
 have hxs:x≠hh0.objs.size:=Nat.ne_of_lt (Heap.lt_size hx)
 have go:wpAny (model prog w) A.in1 (do
   let d ←alloc {cls:=.type "dict",data:=.dict #[]}
   update x λo=>{o with dict:=some d}
   dictMade (.ref C) x d) (λa s'=>wpAny (model prog w) A.in1 (match a with
    |some d=>Builtin.ObjectAttr.storeInDict d (.str name t) name v
    |none=>Builtin.ObjectAttr.noDictFor (.ref x) (.ref C) name false) (λfin s'=>match fin with|.done f=>(match (Except.ok f:Result) with|.ok (.ret _)=>Q () s'|.ok _=>False|.error e=>E e s')|.again c'=>c'.quiet=true/\codeAny (model prog w) A c' (λr s'=>match r with|.ok (.ret _)=>Q () s'|.ok _=>False|.error e=>E e s') s') (λe s'=>E e s') s') (λe s'=>E e s') ⟨hh0,g,dr,t+1,os⟩:=by
  refine wpAny_bind (wpAny_alloc' ?_)
  refine wpAny_bind (wpAny_update' hx₁ ?_)
  refine wpAny_pure ?_
  have hgd:((hh0.push {cls:=.type "dict",data:=.dict #[]}).update x λo=>{cls:=o.cls,dict:=some hh0.objs.size,data:=o.data,slots:=o.slots}).get? hh0.objs.size
    = some {cls:=.type "dict",data:=.dict #[]}:=
   (Heap.get?_update_ne _ _ _ _ hxs.symm).trans (Heap.get?_push_at rfl rfl)
  have hnd:((hh0.push {cls:=.type "dict",data:=.dict #[]}).update x λo=>{cls:=o.cls,dict:=some hh0.objs.size,data:=o.data,slots:=o.slots}).Ns hh0.objs.size (λ_=>none):=
   ⟨_,#[],_,hgd,rfl,λe he=>absurd he (by simp),λ_=>rfl⟩
  show wpAny _ _ (Builtin.ObjectAttr.storeInDict hh0.objs.size (.str name t) name v) _ _ _
  unfold Builtin.ObjectAttr.storeInDict Builtin.ObjectAttr.newKeyGuard
  refine wpAny_bind (wpAny_pure (wpAny_bind (wpAny_nsSet1 (Heap.Ns1.of_empty hnd) λh' hn' hs=>?_)))
  obtain⟨oD,esD,epD,hoD,hdD,hcD⟩:=hn'.count (Within.cons name v Within.nil)
  refine wpAny_bind (wpAny_lookBehind hoD (by rw[hdD];exact pastItsLine_dict (Nat.le_trans hcD (by rw[List.length_cons,List.length_nil,sizeLine_eq];omega))) ?_)
  refine wpAny_pure (h h' _ ?_ ?_ ?_)
  ·refine (hs.2 x hxs).trans (Heap.get?_update_self _ hx₁ ?_)
   have hfr:=(Heap.get?_some_iff.mp hx).2
   cases oda<;>first|rfl|exact hfr
  ·obtain⟨o',es,ep,e1,e2,e3,eu,e4⟩:=hn'
   exact⟨o',es,ep,e1,e2,e3,eu,λy=>by rw[e4 y]⟩
  ·intro b o hbx hb
   exact (hs.2 b (Nat.ne_of_lt (Heap.lt_size hb))).trans ((Heap.get?_update_ne _ _ _ _ hbx).trans (Heap.get?_push_of_some _ hb))
 cases oda<;>first|exact absurd rfl (hnc' _)|exact go
end
theorem jG{K:PySem.W.Frag}{h:Heap}{N:Addr}{x:Str}{v:Value}(X:K.In h)(e:PySem.W.nsOkIn K N=true)(q:PySem.W.nsIn K N x=some (some v)):h.nsMap N x=some v:=by
 obtain⟨o,es,ep,ho,hd,_,hf⟩:=(Heap.Ns.of_isNs (PySem.W.isNs_of_in X e):h.Ns N (h.nsMap N))
 unfold PySem.W.nsIn at q
 split at q
 ·rename_i c d es' n' sl q'
  have:=X _ _ q'
  rw[ho] at this
  cases this
  cases hd
  split at q
  ·rename_i he
   cases q
   rw[←hf]
   unfold nsFind findBy
   rw[←Array.find?_toList,he]
   rfl
  ·split at q<;>cases q
 ·cases q
theorem XIn.mro{K:PySem.W.Frag}{C HE fI:Addr}{fl:Str}(x:XIn K C HE fI fl):((PySem.W.clsIn K C).any λcd=>wL cd.mro)=true:=by
 obtain⟨N,nm,q,bs,hd,sn,sub,ab,col,dd,k0,k1,k2,k3,k5,h,_⟩:=x.cls
 unfold PySem.W.clsIn
 rw[h]
 show wL (.ref C::.ref HE::zQ)=true
 show wL zQ=true
 decide
theorem XIn.at_{K:PySem.W.Frag}{C HE fI:Addr}{fl:Str}{h:Heap}(x:XIn K C HE fI fl)(X:K.In h):∃N nm q bs hd sn sub ab col dd k0 k1 k2 k3 k5,h.get? C=some (excClassObj nm q C N bs (.ref HE::zQ) hd sn sub ab col dd k0 k1 k2 k3 k5 "ValueError.__new__")/\h.Ns N (h.nsMap N)/\h.nsMap N "__init__"=some (.ref fI)/\OwnTail h zQ (.ref HE::zQ):=by
 obtain⟨N,nm,q,bs,hd,sn,sub,ab,col,dd,k0,k1,k2,k3,k5,h1,h2,h3⟩:=x.cls
 obtain⟨tl,N',nm',q',bs',hd',sn',sub',ab',col',dd',k0',k1',k2',k3',k5',mN,g1,g2,g3,g4⟩:=Zo X x.he
 exact⟨N,nm,q,bs,hd,sn,sub,ab,col,dd,k0,k1,k2,k3,k5,X _ _ h1,.of_isNs (PySem.W.isNs_of_in X h2),jG X h2 h3,.own g1 g2 g3 .base⟩
section
variable {X:Cx}{pins:List (Addr×Obj)}{s:Shared}{σ:St}{H:Hp}{C HE fI:Addr}{fl:Str}
theorem Ke {a b par:Str} {ka kb:Nat} {p1 p2 p3 p4 p5:Pos} (hN:X.N[1]?=some par) (hv:Vis X.env.scope par) (hd:(par == ("__debug__":Str))=false) (hcd:(par == ("__classdict__":Str))=false) (ha:a.length<=1000) (hb:b.length<=1000) :
  PE X (.JoinedStr [.Constant (.str a) ka p1,.FormattedValue (.Name par p2) (-1) none p3,.Constant (.str b) kb p4] p5) (λσ H Q=>∃i:Int,σ[1]?=some (some (.int i))/\i.natAbs.log2<1920/\∀z,Q (.str z) H):=by
 rintro pins s σ H Q I ⟨i,hi,hlog,q⟩
 have e:=int_text_length_le (k:=1920) (by decide) hlog
 have e2:(Str.ofString (toString i)).length<=1921:=by rw[PySem.ofString_length];exact e
 refine wpAny_JoinedStr ?_
 refine thn (yY (x:=a) pins s σ H (λv H1=>v=.str a/\H1=H) I ⟨rfl,rfl⟩) ?_
 rintro u s1 ⟨v,H1,I1,r,rfl,rfl⟩
 obtain⟨t1,rfl⟩:=r
 have l0:(Str.empty++a).length<=1000:=by rw[strLen_append];show 0+a.length<=1000;omega
 refine⟨_,_,rfl,by rw[sizeLine_eq];omega,?_⟩
 refine wpAny_FormattedValue_plain (thn (jF (i:=1) hN hv hd hcd pins s1 σ H1 (λv H2=>v=.int i/\H2=H1) I1 ⟨_,hi,rfl,rfl⟩) ?_)
 rintro u s2 ⟨v,H2,I2,r,rfl,rfl⟩
 obtain⟨t2,rfl⟩:=r
 refine wpAny_formatField_int hlog ?_
 have l1:(Str.empty++a++Str.ofString (toString i)).length<=3000:=by rw[strLen_append];omega
 refine⟨_,_,rfl,by rw[sizeLine_eq];omega,?_⟩
 have I3:Inv X pins σ H2 {s2 with toks:=s2.toks+1+1}:=I2.kept (h':=s2.heap) λ_ _ q=>q
 refine thn (yY (x:=b) pins _ σ H2 (λv H1=>v=.str b/\H1=H2) I3 ⟨rfl,rfl⟩) ?_
 rintro u s4 ⟨v,H4,I4,r,rfl,rfl⟩
 obtain⟨t4,rfl⟩:=r
 have l2:(Str.empty++a++Str.ofString (toString i)++b).length<=5000:=by rw[strLen_append];omega
 refine⟨_,_,rfl,by rw[sizeLine_eq];omega,by rw[sizeLine_eq];omega,?_⟩
 exact⟨.str _,H4,I4.kept (h':=s4.heap) λ_ _ q=>q,⟨_,rfl⟩,q _⟩
theorem Vw {a par:Str} {ka:Nat} {p1 p2 p3 p5:Pos} (hN:X.N[1]?=some par) (hv:Vis X.env.scope par) (hd:(par == ("__debug__":Str))=false) (hcd:(par == ("__classdict__":Str))=false) (ha:a.length<=1000) :
  PE X (.JoinedStr [.Constant (.str a) ka p1,.FormattedValue (.Name par p2) (-1) none p3] p5) (λσ H Q=>∃i:Int,σ[1]?=some (some (.int i))/\i.natAbs.log2<1920/\∀z,Q (.str z) H):=by
 rintro pins s σ H Q I ⟨i,hi,hlog,q⟩
 have e:=int_text_length_le (k:=1920) (by decide) hlog
 have e2:(Str.ofString (toString i)).length<=1921:=by rw[PySem.ofString_length];exact e
 refine wpAny_JoinedStr ?_
 refine thn (yY (x:=a) pins s σ H (λv H1=>v=.str a/\H1=H) I ⟨rfl,rfl⟩) ?_
 rintro u s1 ⟨v,H1,I1,r,rfl,rfl⟩
 obtain⟨t1,rfl⟩:=r
 have l0:(Str.empty++a).length<=1000:=by rw[strLen_append];show 0+a.length<=1000;omega
 refine⟨_,_,rfl,by rw[sizeLine_eq];omega,?_⟩
 refine wpAny_FormattedValue_plain (thn (jF (i:=1) hN hv hd hcd pins s1 σ H1 (λv H2=>v=.int i/\H2=H1) I1 ⟨_,hi,rfl,rfl⟩) ?_)
 rintro u s2 ⟨v,H2,I2,r,rfl,rfl⟩
 obtain⟨t2,rfl⟩:=r
 refine wpAny_formatField_int hlog ?_
 have l1:(Str.empty++a++Str.ofString (toString i)).length<=3000:=by rw[strLen_append];omega
 refine⟨_,_,rfl,by rw[sizeLine_eq];omega,by rw[sizeLine_eq];omega,?_⟩
 exact⟨.str _,H2,I2.kept (h':=s2.heap) λ_ _ q=>q,⟨_,rfl⟩,q _⟩
noncomputable def ZD(par:Str)(parts:List Expr):Prop:=
 (∃(a b:Str) (ka kb:Nat) (p1 p2 p3 p4:Pos),parts=[.Constant (.str a) ka p1,.FormattedValue (.Name par p2) (-1) none p3,.Constant (.str b) kb p4]/\a.length<=1000/\b.length<=1000)\/
 ∃(a:Str) (ka:Nat) (p1 p2 p3:Pos),parts=[.Constant (.str a) ka p1,.FormattedValue (.Name par p2) (-1) none p3]/\a.length<=1000
theorem J9 {par:Str} {parts:List Expr} {p5:Pos} (hN:X.N[1]?=some par) (hv:Vis X.env.scope par) (hd:(par == ("__debug__":Str))=false) (hcd:(par == ("__classdict__":Str))=false) (h:ZD par parts) :
  PE X (.JoinedStr parts p5) (λσ H Q=>∃i:Int,σ[1]?=some (some (.int i))/\i.natAbs.log2<1920/\∀z,Q (.str z) H):=by
 rcases h with⟨a,b,ka,kb,p1,p2,p3,p4,rfl,h1,h2⟩|⟨a,ka,p1,p2,p3,rfl,h1⟩
 ·exact Ke hN hv hd hcd h1 h2
 ·exact Vw hN hv hd hcd h1
theorem KR {par slf B:Str} {parts:List Expr} {p5 q0 q1 q2 q4:Pos} (xi:XIn X.K C HE fI fl) (hN0:X.N[0]?=some slf) (hv0:Vis X.env.scope slf) (hd0:(slf == ("__debug__":Str))=false) (hcd0:(slf == ("__classdict__":Str))=false)
  (hN:X.N[1]?=some par) (hv:Vis X.env.scope par) (hd:(par == ("__debug__":Str))=false) (hcd:(par == ("__classdict__":Str))=false) (hfp:ZD par parts)
  (hB:Gl X B) (hm:X.mg B=some (.ref HE)) (hBd:(B == ("__debug__":Str))=false) (hga:PySem.W.specialIn X.K (.ref HE) "__getattribute__"=some (some (.builtin "type.__getattribute__"))) (hr:PySem.W.readsIn X.K HE (.type "type")=true)
  (hf:PySem.W.findCls X.K (.ref HE) (.type "type") "__init__"=some (.val (.builtin "ValueError.__init__"))) (hline:(q1.endLine == q4.line)=true) :
  PE X (.Call (.Attribute (.Name B q0) "__init__" q1) [.Name slf q2,.JoinedStr parts p5] [] q4) (λσ H Q=>∃(x:Addr) (i:Int),σ[0]?=some (some (.ref x))/\σ[1]?=some (some (.int i))/\i.natAbs.log2<1920/\H x=some (.ext (j_ x C))/\Q .non (upd H x (.ext (j_ x C)))):=by
 rintro pins s σ H Q I ⟨x,i,h0,h1,hlog,hx,q⟩
 rw[arm_eval_Call]
 refine wpAny_bind (wN I hB hm ?_ hBd)
 refine wpAny_bind (wpAny_standAt ?_)
 have hpos:methodCallPos true (.Name B q0) X.env q1 q4=pure q4:=by unfold methodCallPos;simp[hline]
 unfold methodCall
 refine wpAny_bind (wpAny_holding (PySem.W.method_cls I.kIn hga (PySem.W.cls_value I.kIn hr hf rfl ?_)))
 refine wpAny_bind (wpAny_of_eq hpos ?_)
 have I1:Inv X pins σ H {s with toks:=s.toks+1}:=I.kept (h':=s.heap) λ_ _ q=>q
 have pa:PA X [.Name slf q2,.JoinedStr parts p5] _:=zI (jF (i:=0) hN0 hv0 hd0 hcd0) (zI (J9 hN hv hd hcd hfp) qp)
 refine PySem.W.callWith_of (P:=λ_=>True) (first:=[]) rfl (λh _=>⟨.machine,.inr (.inl rfl),PySem.W.Looks.of_pure rfl⟩) (Calls.evalArgs_plain (thn (pa q4 pins _ σ H (λvs H1=>∃z,vs=[.ref x,.str z]/\H1=H) I1 ⟨_,h0,i,h1,hlog,λz=>⟨z,rfl,rfl⟩⟩) ?_))
 rintro us s2 ⟨vs,H2,I2,rv,z,rfl,rfl⟩
 obtain⟨u1,rfl⟩:∃u1,us=[.ref x,u1]:=by
  cases rv with
  |cons r1 r2=>cases r2 with
   |cons r3 r4=>cases r4;cases r1;exact⟨_,rfl⟩
 refine⟨trivial,?_⟩
 obtain⟨N,nm,qn,bs,hdd,sn,sub,ab,col,dd,k0,k1,k2,k3,k5,g1,g2,g3,g4⟩:=xi.at_ I2.kIn
 obtain⟨t,ex⟩:j_ x C s2.heap:=(show ObjOk X.prog X.w H2 s2.heap x (.ext (j_ x C)) from I2.hok _ _ hx).1
 refine VG (rest:=[u1]) PySem.F.excBase_ValueError g4 g1 ex rfl rfl rfl ?_ (by rw[sizeLine_eq];show 1<=_;omega)
 have lt:x<s2.heap.objs.size:=Heap.lt_size ex
 have ex1:=Heap.get?_push_of_some (h:=s2.heap) {cls:=.type "tuple",data:=.seq [u1].toArray} ex
 have k1:∀b u,b≠x->s2.heap.get? b=some u->((s2.heap.push {cls:=.type "tuple",data:=.seq [u1].toArray}).update x (Obj.mapFields (·.setIfInBounds 0 (.ref s2.heap.objs.size)))).get? b=some u:=λb u hb hu=>by
  rw[Heap.get?_update_other _ _ (Ne.symm hb)]
  exact Heap.get?_push_of_some _ hu
 have ex2:((s2.heap.push {cls:=.type "tuple",data:=.seq [u1].toArray}).update x (Obj.mapFields (·.setIfInBounds 0 (.ref s2.heap.objs.size)))).get? x=some {cls:=.ref C,data:=.fields #[.ref s2.heap.objs.size,.none,.none,.none,.bool false,.none]}:=by
  rw[Heap.get?_update_self _ ex1 rfl];rfl
 exact⟨.non,_,I2.write (x:=x) (e:=x) (o:=.ext (j_ x C)) (t':=s2.toks) (by rw[hx];exact True.intro) (.inl rfl) k1 ⟨_,ex2⟩ ⟨⟨_,ex2⟩,⟨_,ex2⟩,λh1 h2 ⟨t,e⟩ k=>⟨t,k _ e⟩⟩,rfl,q⟩
theorem VT {par slf:Str} {q0 q1 q2 q3:Pos} (xi:XIn X.K C HE fI fl) (hN0:X.N[0]?=some slf) (hv0:Vis X.env.scope slf) (hd0:(slf == ("__debug__":Str))=false) (hcd0:(slf == ("__classdict__":Str))=false)
  (hN:X.N[1]?=some par) (hv:Vis X.env.scope par) (hd:(par == ("__debug__":Str))=false) (hcd:(par == ("__classdict__":Str))=false) :
  PS X (.Assign [.Attribute (.Name slf q0) fl q1] (.Name par q2) q3) (λD σ H=>∃(x:Addr) (i:Int),σ[0]?=some (some (.ref x))/\σ[1]?=some (some (.int i))/\H x=some (.ext (j_ x C))/\∀dx,H dx=none->dx≠x->D.nx σ (upd (upd H x (.ext (xq x C dx))) dx (.xd [(fl,.int i)]))):=by
 rintro pins s σ H D I ⟨x,i,h0,h1,hx,q⟩
 refine plainObj_wpAny_Assign_Attribute (thn (jF (i:=1) hN hv hd hcd pins s σ H (λv H1=>v=.int i/\H1=H) I ⟨_,h1,rfl,rfl⟩) ?_) rfl
 rintro u s1 ⟨v,H1,I1,r,rfl,rfl⟩
 refine thn (jF (i:=0) hN0 hv0 hd0 hcd0 pins s1 σ H1 (λv H2=>v=.ref x/\H2=H1) I1 ⟨_,h0,rfl,rfl⟩) ?_
 rintro ov s2 ⟨v,H2,I2,r2,rfl,rfl⟩
 cases r2
 obtain⟨t,ex⟩:j_ x C s2.heap:=(show ObjOk X.prog X.w H2 s2.heap x (.ext (j_ x C)) from I2.hok _ _ hx).1
 refine Ku I2.kIn ex rfl rfl rfl xi.sa xi.mro xi.no xi.dct λh' tk e1 e2 e3=>?_
 have lt:x<s2.heap.objs.size:=Heap.lt_size ex
 have hf:H2 s2.heap.objs.size=none:=I2.hok.fresh (Nat.le_refl _)
 have ne:s2.heap.objs.size≠x:=Nat.ne_of_gt lt
 refine⟨σ,_,?_,q _ hf ne⟩
 have ox:XOk X H2 s2.heap.objs.size:=wD I2 (Heap.get?_none_of_le (Nat.le_refl _))
 have hpn:∀p∈pins,p.1≠s2.heap.objs.size:=λp hp z=>by
  have:=(I2.pin p (List.mem_append_right _ hp)).1
  rw[z,Heap.get?_none_of_le (Nat.le_refl _)] at this;cases this
 have I3:Inv X pins σ (upd H2 x (.ext (xq x C s2.heap.objs.size))) {s2 with heap:=h',toks:=tk}:=I2.write (x:=x) (e:=x) (by rw[hx];exact True.intro) (.inl rfl) (λb u hb hu=>e3 b u hb hu) ⟨_,e1⟩ ⟨⟨t,e1⟩,⟨_,e1⟩,λh1 h2 ⟨t,e⟩ k=>⟨t,k _ e⟩⟩
 have ox3:XOk X (upd H2 x (.ext (xq x C s2.heap.objs.size))) s2.heap.objs.size:=⟨by rw[za ne];exact ox.free,ox.loc,ox.nfs,ox.new,ox.cel,ox.pin⟩
 refine vG I3 ox3 hpn ⟨_,e2,λf=>?_⟩
 show RelO (List.lookup f [(fl,V.int i)]) (if f=fl then some u else none)
 by_cases z:f=fl
 ·subst z
  rw[if_pos rfl]
  simp only[List.lookup,beq_self_eq_true]
  exact r
 ·rw[if_neg z]
  have:(f == fl)=false:=beq_eq_false_iff_ne.mpr z
  simp only[List.lookup,this]
  exact trivial
end
noncomputable def z1q(body:List Stmt)(B slf par fl:Str):Prop:=∃(q0 q1 q2 p5 q4 q5 r0 r1 r2 r3:Pos) (parts:List Expr),
 body=[.Expr (.Call (.Attribute (.Name B q0) "__init__" q1) [.Name slf q2,.JoinedStr parts p5] [] q4) q5,.Assign [.Attribute (.Name slf r0) fl r1] (.Name par r2) r3]/\(q1.endLine == q4.line)=true/\ZD par parts
noncomputable def scI(slf par B:Str)(sc:Scope):Bool:=(sc.kind == .function)&&!sc.isCoroutine&&!sc.isGenerator&&(slf != par)&&(sc.names.lookup slf == some .local)&&(sc.names.lookup par == some .local)&&sc.names.all (λy=>y.2 != .free)&&(sc.names.lookup B == some .globalImplicit)&&
 (slf != ("__debug__":Str))&&(slf != ("__classdict__":Str))&&(par != ("__debug__":Str))&&(par != ("__classdict__":Str))&&(B != ("__debug__":Str))
section
variable {P:Program}{w:World}{K:PySem.W.Frag}{mg:Str->Option Value}{base:Heap}{C HE fI:Addr}{fl:Str}{k:Nat}
structure HIn(K:PySem.W.Frag)(mg:Str->Option Value)(HE:Addr)(B:Str):Prop where
 mg:mg B=some (.ref HE)
 ga:PySem.W.specialIn K (.ref HE) "__getattribute__"=some (some (.builtin "type.__getattribute__"))
 rd:PySem.W.readsIn K HE (.type "type")=true
 fc:PySem.W.findCls K (.ref HE) (.type "type") "__init__"=some (.val (.builtin "ValueError.__init__"))
theorem z10{CX:CXT}{name qual slf par B:Str}{params:Arguments}{body:List Stmt}{scope:Scope}{dV kV doc pm cdv ct oc:Value}{an od:Option Addr}{osl:Array (Option Value)}
  (xi:XIn K C HE fI fl) (hi:HIn K mg HE B) (lk:K.lookup fI=some ⟨oc,od,.func (PySem.W.fnOf name qual params body scope dV kV doc pm an cdv ct),osl⟩) (hcd:PySem.W.codeIn K cdv qual=true) (hf:z1q body B slf par fl) (hs:scI slf par B scope=true) :
  FnOk P w K mg base CX (k+1) fI (PySem.W.fnOf name qual params body scope dV kV doc pm an cdv ct) [slf,par] (spI C fl):=by
 simp only[scI,Bool.and_eq_true,List.all_eq_true,beq_iff_eq,Bool.not_eq_true',bne_iff_ne,ne_eq] at hs
 obtain⟨⟨⟨⟨⟨⟨⟨⟨⟨⟨⟨⟨h1,h2⟩,h3⟩,h4⟩,h5⟩,h6⟩,h7⟩,h8⟩,h9⟩,h10⟩,h11⟩,h12⟩,h13⟩:=hs
 have S:FnScope [slf,par] [slf,par] scope:=⟨h1,h2,h3,by simp[h4],rfl,λx hx=>by
  rcases List.mem_cons.mp hx with rfl|hx
  ·exact .inl h5
  ·rw[List.mem_singleton.mp hx];exact .inl h6,h7⟩
 obtain⟨q0,q1,q2,p5,q4,q5,r0,r1,r2,r3,parts,rfl,c5,c6⟩:=hf
 refine XJ (fnb:=λ_=>true) lk hcd S (λvs H Q E q=>by obtain⟨x,i,rfl,_⟩:=q;rfl) λA outer s H vs Q E hr hsp _=>?_
 obtain⟨x,i,rfl,hlog,hx,q⟩:=hsp
 have hd0:(slf == ("__debug__":Str))=false:=beq_eq_false_iff_ne.mpr h9
 have hc0:(slf == ("__classdict__":Str))=false:=beq_eq_false_iff_ne.mpr h10
 have hd1:(par == ("__debug__":Str))=false:=beq_eq_false_iff_ne.mpr h11
 have hc1:(par == ("__classdict__":Str))=false:=beq_eq_false_iff_ne.mpr h12
 have hdB:(B == ("__debug__":Str))=false:=beq_eq_false_iff_ne.mpr h13
 refine⟨_,uJ (Qr (KR (C:=C) (HE:=HE) (fI:=fI) (fl:=fl) xi rfl (.inl h5) hd0 hc0 rfl (.inl h6) hd1 hc1 c6 h8 hi.mg hdB hi.ga hi.rd hi.fc c5)) (Xg (VT (C:=C) (HE:=HE) (fI:=fI) xi rfl (.inl h5) hd0 hc0 rfl (.inl h6) hd1 hc1)),?_⟩
 refine⟨x,i,rfl,rfl,hlog,hx,x,i,rfl,rfl,z8,λdx hdx ne=>?_⟩
 rw[Q_]
 exact q dx (by rw[za ne] at hdx;exact hdx) ne
end
section
variable {X:Cx}{pins:List (Addr×Obj)}{s:Shared}{σ:St}{H:Hp}
theorem Zc{x:Addr}{φ:Heap->Prop}(I:Inv X pins σ (upd H x (.ext φ)) s)(hx:H x=none):Inv X pins σ H s:=by
 have nn:∀b,upd H x (.ext φ) b=none->H b=none:=λb e=>by
  by_cases z:b=x
  ·rw[z];exact hx
  ·rw[za z] at e;exact e
 have so:∀b o,upd H x (.ext φ) b=some o->(∀ψ,o≠.ext ψ)->H b=some o:=λb o e n=>by
  by_cases z:b=x
  ·rw[z,z8] at e;cases e;exact absurd rfl (n φ)
  ·rw[za z] at e;exact e
 refine⟨I.ok,I.os,I.bare,⟨I.base.keep,I.base.slot,λb o e n hx'=>nn b (I.base.free b o e n hx'),I.base.there,λb xs e=>so b _ (I.base.tups b xs e) (λψ z=>by cases z),λb o u e=>so b _ (I.base.frzs b o u e) (λψ z=>by cases z),λb ps e=>?_⟩,I.loc,I.cell,nn _ I.free,λy c e=>(I.freeC y c e).imp (nn _) λ⟨n,o,u,f⟩=>⟨n,o,u,so c _ f (λψ z=>by cases z)⟩,λp hp=>?_,λb ob e=>?_,I.len⟩
 ·obtain⟨more,q⟩:=I.base.tbls b ps e
  exact⟨more,so b _ q (λψ z=>by cases z)⟩
 ·obtain⟨e,n,r⟩:=I.pin p hp
  exact⟨e,nn _ n,r⟩
 ·have ne:b≠x:=λz=>by rw[z,hx] at e;cases e
  have q:=I.hok b ob (by rw[za ne];exact e)
  exact q.stay (λ_ _ _ q=>q) (λc q=>so c _ q (λψ z=>by cases z)) λc xs q=>so c _ q (λψ z=>by cases z)
end
section
variable {X:Cx}{D:DP}{W:XW}{Γ:Cn}{k:Nat}{pins:List (Addr×Obj)}{s:Shared}{σ:St}{H:Hp}{φ α:List Addr}{τ:Sl}{μ:Mem}{a:Expr}{pos:Pos}{E:Ends}{g:De}
theorem Vv{H:Hp}{x y:Addr}{a b:HO}(h:x≠y):upd (upd H x a) y b=upd (upd H y b) x a:=by
 funext c
 by_cases z:c=y
 ·subst z;rw[z8,za (Ne.symm h),z8]
 ·rw[za z]
  by_cases z2:c=x
  ·subst z2;rw[z8,z8]
  ·rw[za z2,za z2,za z]
theorem JY{C HE fI:Addr}{fl:Str}{fd:FuncData}{ps:List Str}{kk:Nat}{u:Value}{i:Int}{Q:Value->Shared->Prop}(xi:XIn X.K C HE fI fl)(hb:Binds X.K fd ps [])(hr:Room (kk+1) X.A)
  (F:FnOk X.prog X.w X.K X.mg X.base (CX1 X.prog X.w) kk fI fd ps (spI C fl)) (I:Inv X pins σ H s) (r:RelV (.int i) u) (hlog:i.natAbs.log2<1920)
  (q:∀x dx t s',Inv X pins σ (upd H dx (.xd [(fl,.int i)])) s'->H dx=none->XOk X H x->dx≠x->s'.heap.get? x=some {cls:=.ref C,dict:=some dx,data:=.fields #[.ref t,.none,.none,.none,.bool false,.none]}->Q (.ref x) s') :
  wpAny (model X.prog X.w) X.A (call (.ref C) [u]) Q X.xe s:=by
 obtain⟨N,nm,qn,bs,hdd,sn,sub,ab,col,dd,k0,k1,k2,k3,k5,g1,g2,g3,g4⟩:=xi.at_ I.kIn
 obtain⟨oI,gf,gc⟩:∃oI,s.heap.get? fI=some oI/\oI.cls=.type "function":=by
  obtain⟨o,ho,e⟩:=Option.map_eq_some_iff.mp xi.fn
  exact⟨o,I.kIn _ _ ho,e⟩
 obtain⟨hh,gg,d,tk,os⟩:=s
 refine Wu PySem.F.excBase_ValueError g4 g1 g2 g3 gf gc (λh1 x mk=>?_) (by rw[sizeLine_eq];show 1<=_;omega)
 have J:Inv X pins σ H ⟨h1,gg,d,tk,os⟩:=I.kept (t':=tk) mk.keeps
 have ox:XOk X H x:=wD I mk.new
 have hpn:∀p∈pins,p.1≠x:=λp hp z=>by
  have:=(I.pin p (List.mem_append_right _ hp)).1
  rw[z,mk.new] at this;cases this
 obtain⟨t,ho,_,_⟩:=mk.there
 have I2:Inv X pins σ (upd H x (.ext (j_ x C))) ⟨h1,gg,d,tk,os⟩:=vG J ox hpn ⟨⟨t,ho⟩,⟨_,ho⟩,λh1 h2 ⟨t,e⟩ k=>⟨t,k _ e⟩⟩
 have rv:Vals [.ref x,.int i] [.ref x,u]:=.cons rfl (.cons r .nil)
 have hl:([Value.ref x,u]++[]).length=ps.length:=by
  have:=F.len [.ref x,.int i] (upd H x (.ext (j_ x C))) (λ_ _=>True) (λ_ _ _=>False) ⟨x,i,rfl,hlog,z8,λ_ _ _=>trivial⟩
  exact this
 refine wpAny_call (codeAny_mono (F.run _ X.stack ⟨h1,gg,d,tk,os⟩ (upd H x (.ext (j_ x C))) ⟨[.ref x,u],[]⟩ [.ref x,u] [.ref x,.int i] (λv H'=>v=.non/\∃dx,H dx=none/\dx≠x/\H'=upd (upd H x (.ext (xq x C dx))) dx (.xd [(fl,.int i)])) (λ_ _ _=>False) (hr.make C [u] []) (I2.env0.make C [u] []) (by simpa using hb _ [.ref x,u] I2.kIn hl) rv
  ⟨x,i,rfl,hlog,z8,λdx hdx ne=>⟨rfl,dx,by rw[za ne] at hdx;exact hdx,ne,by rw[Q_]⟩⟩) λres s' hq=>?_)
 cases res with
 |error e=>
  obtain⟨_,_,_,_,_,_,_,_,_,_,_,_,_,_,_,z⟩:=hq
  exact z.elim
 |ok flw=>
  cases flw with
  |ret v=>
   obtain⟨v',H',I3,rv',⟨rfl,dx,hdx,ne,rfl⟩⟩:=I2.after hq
   refine⟨rv',?_⟩
   obtain⟨t',e'⟩:xq x C dx s'.heap:=(show ObjOk X.prog X.w _ s'.heap x (.ext (xq x C dx)) from I3.hok x _ (by rw[za (Ne.symm ne),z8])).1
   rw[Vv (Ne.symm ne)] at I3
   have I4:=Zc I3 (by rw[za (Ne.symm ne)];exact ox.free)
   exact q x dx t' s' I4 hdx ox ne e'
  |next=>exact False.elim hq
  |brk=>exact False.elim hq
  |cont=>exact False.elim hq
noncomputable def hash(m:Str):Str:=⟨#[35]++m.cps⟩
theorem WA(C:Sk D W Γ X k)(hc:Γ.calm=true){x fl:Str}{n f:Nat}{p0 p1:Pos}(hx:x∈Γ.G)(hU:hash x∈Γ.U)(hg:Γ.gl (hash x)=.xin n f x fl)(hst:noStar a=true)(ha:PE X a (rdE D W g)) :
  PS X (.Raise (some (.Call (.Name x p0) [a] [] p1)) none pos) (rdS D W (ug n f g)):=by
 rintro pins s σ H E I ⟨φ,α,τ,μ,sr,mr,p⟩
 have q:=(C.glU _ hU).1
 rw[hg] at q
 obtain⟨C0,HE,fI,fd,ps,kk,ad,hm,hfl,xi,hb,hkk,F⟩:=q
 have hr:=(C.rom hc).mono hkk
 obtain⟨N,nm,qn,bs,hdd,sn,sub,ab,col,dd,k0,k1,k2,k3,k5,g1,g2,g3,g4⟩:=xi.at_ I.ok.mod.kin
 have hbase:(Value.ref HE::zQ).contains (.type "BaseException")=true:=g4.hasType PySem.F.excBase_ValueError.hasBase
 have body:wpAny (model X.prog X.w) X.A (eval (.Call (.Name x p0) [a] [] p1) X.env) (λv s1=>∃e t dx,v=.ref e/\s1.heap.get? C0=some (excClassObj nm qn C0 N bs (.ref HE::zQ) hdd sn sub ab col dd k0 k1 k2 k3 k5 "ValueError.__new__")/\
   s1.heap.get? e=some {cls:=.ref C0,dict:=dx,data:=.fields #[.ref t,.none,.none,.none,.bool false,.none]}/\X.xe (.ref e) s1) X.xe s:=by
  refine wpAny_Call_ofName (wN I (C.glb x hx) hm ?_ (C.dbG x hx))
  refine PySem.W.callWith_K (K:=X.K) (first:=[]) (h₀:=X.base) I.ok.mod.kin xi.kp (thn (zI ha qp (z7 hst) p1 pins s σ H (λvs H1=>∃v t μ1 α1,vs=[v]/\Stp α H α1 H1/\SRel D φ α1 H1 τ σ/\MRel D φ α1 H1 μ1/\Den D φ α1 H1 t v/\PostS D W φ α1 H1 E ((match t with
   |.int i=>.grd (i.natAbs.log2<1920) (.ex n [(f,.int i)] τ μ1)
   |_=>.st:Out))) I ⟨φ,α,τ,μ,sr,mr,(PostS.out sr p).mono λt μ' α' H' st m q v d=>⟨v,t,μ',α',rfl,st,sr.step st,m,d,q⟩⟩) ?_) (z7 hst) rfl
  rintro us s1 ⟨vs,H1,I1,rv,v,t,μ1,α1,rfl,st1,sr1,mr1,d1,p1⟩
  obtain⟨u,rfl,r⟩:∃u,us=[u]/\RelV v u:=by
   cases rv with
   |cons r1 r2=>cases r2;exact⟨_,rfl,r1⟩
  refine⟨I1.kIn,?_⟩
  cases t<;>first|(obtain⟨Q,q,_⟩:=p1;exact q.elim)|skip
  rename_i i
  obtain⟨hlog,p2⟩:=PostS.grd p1
  cases d1
  refine JY xi hb hr F I1 r hlog λe dx t s' I2 hdx oe ne he=>?_
  refine⟨e,t,some dx,rfl,I2.bk _ _ g1,he,C.xe _ _ ?_⟩
  have sm:vH H1 (upd H1 dx (.xd [(fl,.int i)])):=zk hdx
  have st2:Stp α1 H1 α1 (upd H1 dx (.xd [(fl,.int i)])):=Stp.new sm
  refine⟨e,.ref C0,some dx,σ,_,none,.none,rfl,I2.pins_of (λp hp=>absurd hp (by simp)),⟨by rw[za (Ne.symm ne)];exact oe.free,oe.loc,oe.nfs,oe.new,oe.cel,oe.pin⟩,λt ht=>absurd ht (by simp),⟨⟨_,_,.ref t,he,⟨rfl,rfl⟩,rfl,rfl,rfl⟩,rfl⟩,.inl rfl,?_⟩
  refine PostS.ex p2 st2 (mr1.new sm) (sr1.step st2) ad ⟨_,zr mr1 hdx,zq mr1 hdx,z8,?_⟩
  exact⟨fl,.int i,[],hfl,rfl,rfl,rfl⟩
 rw[arm_exec_Raise]
 first
  |exact wpAny_bind (wpAny_standAt (x6 hbase (I.ok.hd (C.clm hc)) (wpAny_bind (wpAny_mono body (λv s₃ h₃=>wpAny_bind (wpAny_standAt (wpAny_pure h₃))) λ_ _ x=>x))))
  |(simp only[evalOpt,Option.map];exact wpAny_bind (wpAny_standAt (x6 hbase (I.ok.hd (C.clm hc)) (wpAny_bind (wpAny_mono body (λv s₃ h₃=>wpAny_bind (wpAny_standAt (wpAny_pure h₃))) λ_ _ x=>x)))))
end
noncomputable def z1J:List Expr->Option Expr
 |[a]=>some a
 |_=>none
noncomputable def ZV:SR:=λr Γ s=>(KP s).bind λe=>(W5 e).bind λq=>(z1J q.2).bind λa=>gd (Γ.calm&&(idx Γ.N q.1).isNone&&Γ.G.contains q.1&&Γ.U.contains (hash q.1)&&noStar a) ((r.e Γ a).bind λg=>(match Γ.gl (hash q.1) with
  |.xin c f nm _=>gd (nm == q.1) (some (ug c f g))
  |_=>none))
theorem Wk{D:DP}:SOk D ZV:=by
 intro r H X W Γ k e d C h
 unfold ZV at h
 obtain⟨e',z0,z1⟩:=bnd h
 obtain⟨⟨x,as⟩,z2,z3⟩:=bnd z1
 obtain⟨a,ha,z4⟩:=bnd z3
 clear h z1 z3
 obtain⟨p2,rfl⟩:=Qy z0
 obtain⟨p0,p1,rfl⟩:=uO z2
 obtain⟨hb,h⟩:=zF z4
 simp only[Bool.and_eq_true] at hb
 obtain⟨⟨⟨⟨h0,h2⟩,h3⟩,h4⟩,h5⟩:=hb
 obtain⟨g,h6,h⟩:=bnd h
 have ea:as=[a]:=by
  cases as with
  |nil=>cases ha
  |cons b r=>cases r with
   |nil=>cases ha;rfl
   |cons _ _=>cases ha
 subst ea
 cases hl:Γ.gl (hash x) with
 |xin c f nm fl=>
  simp only[hl] at h
  obtain⟨h7,h8⟩:=zF h
  have h7:=beq_iff_eq.mp h7
  subst h7
  cases h8
  exact WA C h0 (by simpa using h3) (by simpa using h4) hl h5 (H.e C.toCk h6)
 |_=>simp[hl] at h
noncomputable abbrev z0x(n:Nat)(o f:De):De:=λτ μ=>(o τ μ).bind λt μ1=>(xD t n μ1).bind λw μ2=>.grd (z0C w) ((f τ μ2).bind λ_ μ3=>.ok .non μ3)
noncomputable abbrev z1g(j:Nat):De:=λ_ (μ:Mem) K _=>(∃i:Nat,μ[i]?=some (MO.tab j))/\K (.clo (2 * j) [.clo (100+j) []]) μ
noncomputable abbrev Yv(c:Nat)(g:Fn)(fs:List De):De:=λτ μ=>(evs fs τ μ).bind (uy c λts μ=>g (ts++[.non]) μ)
noncomputable def Xe:Str:=⟨#[37]⟩
noncomputable def til(m:Str):Str:=⟨#[126]++m.cps⟩
section
variable {X:Cx}{D:DP}{W:XW}{Γ:Cn}{k:Nat}{pins:List (Addr×Obj)}{s:Shared}{σ:St}{H:Hp}{φ α:List Addr}{τ:Sl}{μ:Mem}{f g:De}{fs:List De}{a b c:Expr}{pos:Pos}{es:List Expr}
theorem Zn{A:Around}{E:Value->Shared->Prop}{ad C0 dx:Addr}{gs:List (Str×V)}{m:Str}{v:V}{pl:Sem Bool}{Q:Value×List Value->Shared->Prop}(I:Inv X pins σ H s)(e:H ad=some (.ins C0 dx gs))(c:Cls X.K C0)(n:NoAttr X.K C0 m)(l:gs.lookup m=some v)
  (h:∀u s',Inv X pins σ H s'->RelV v u->Q (u,[]) s'):wpAny (model X.prog X.w) A (getMethod (.ref ad) m pl) Q E s:=by
 obtain⟨mA,O,r,_,_,_⟩:=vX I.hok e
 obtain⟨od,J,hl⟩:=O.look
 exact PySem.W.method_usual I.kIn J (PySem.W.plainGet_of (c.get m)).1 (PySem.W.plainGet_of (c.get m)).2 n rfl (kD I e c n l h)
theorem K7{c:Nat}{g:Fn}{C0 fI:Addr}{fd:FuncData}{ps:List Str}{kk:Nat}{us:List Value}{vs:List V}{ts:List T}{Q:VK}(C:Ck D W Γ X k)(ad:D.cad c=some C0)(M:Mk X.K C0 fI)(F:FnOk X.prog X.w X.K X.mg X.base (CX1 X.prog X.w) kk fI fd ps (spN D ps.length g))
  (hr:Room (kk+1) X.A) (hb:Binds X.K fd ps [.none]) (har:∀ts μ K Z,g ts μ K Z->ts.length=ps.length) (I:Inv X pins σ H s) (r:Vals vs us) (mr:MRel D φ α H μ) (d:DenL D φ α H ts vs) (p:Post D W φ α H σ (RV D φ Q) (uy c (λts μ=>g (ts++[.non]) μ) ts μ)) :
  wpAny (model X.prog X.w) X.A (call (.ref C0) us) (EP X pins σ Q) X.xe s:=by
 obtain⟨K,Z,hg,hk,hz⟩:=p
 have hl:(T.mut μ.length::ts++[T.non]).length=ps.length:=har _ _ _ _ hg
 have hlv:(V.ref 0::(vs++[V.non])).length=ps.length:=by
  have:=d.length
  simp only[List.length_cons,List.length_append,List.length_nil] at hl ⊢;omega
 have hq:∀x dx,H x=none->H dx=none->dx≠x->spN D ps.length g (.ref x::(vs++[.non])) (upd (upd H dx (.own x)) x (.ins C0 dx [])) (λv H2=>v=.non/\Q (.ref x) H2) (λc d H'=>W c d σ H'):=by
  intro x dx hx hdx hne
  have sm1:vH H (upd H dx (.own x)):=zk hdx
  have hx1:upd H dx (.own x) x=none:=by rw[za (Ne.symm hne)];exact hx
  have mr1:MRel D φ α (upd H dx (.own x)) μ:=mr.new sm1
  have st0:Stp α H (α++[x]) (upd (upd H dx (.own x)) x (.ins C0 dx [])):=(Stp.new sm1).trans (ko hx1)
  have mr2:MRel D φ (α++[x]) (upd (upd H dx (.own x)) x (.ins C0 dx [])) (μ++[.obj c []]):=mr1.layO hx1 ⟨C0,dx,[],ad,z8,rfl⟩
  have hget:(α++[x])[μ.length]?=some x:=by rw[←mr.len,List.getElem?_append_right (Nat.le_refl _)];simp
  refine⟨hlv,φ,α++[x],.mut μ.length::(ts++[T.non]),μ++[MO.obj c []],⟨.ref x,vs++[.non],rfl,⟨x,hget,rfl⟩,DenL.append (d.step st0) (show DenL D φ (α++[x]) _ [T.non] [V.non] from ⟨.non,[],rfl,rfl,rfl⟩)⟩,mr2,_,_,hg,?_,?_⟩
  ·rintro t μ2 ⟨rfl,q⟩ α2 H3 st m v dv
   refine⟨dv,?_⟩
   obtain⟨β,e,_⟩:=st.ext
   refine hk _ _ q α2 H3 (st0.trans st) m _ ⟨x,?_,rfl⟩
   rw[e,List.getElem?_append_left (List.getElem?_eq_some_iff.mp hget).1];exact hget
  ·rintro e fs μ2 q α2 H3 C1 d1 st m had xd
   exact hz _ _ _ q α2 H3 C1 d1 (st0.trans st) m had xd
 have hq1:=hq (s.heap.objs.size+1) s.heap.objs.size (I.hok.fresh (Nat.le_succ _)) (I.hok.fresh (Nat.le_refl _)) (Nat.ne_of_lt (Nat.lt_succ_self _))
 have I2:=Inv.made (C:=C0) I
 have r2:Vals (V.ref (s.heap.objs.size+1)::(vs++[V.non])) (Value.ref (s.heap.objs.size+1)::us++[.none]):=.cons rfl (r.append (.cons rfl .nil))
 have hlu:(Value.ref (s.heap.objs.size+1)::us++[Value.none]).length=ps.length:=by
  have:=r2.length
  rw[←this]
  simpa using hlv
 refine wpAny_call (u_ (f:=fI) I.kIn M.makes M.init (beq_iff_eq.mp M.fn) (codeAny_mono (F.run _ X.stack _ _ ⟨Value.ref (s.heap.objs.size+1)::us,[]⟩ (Value.ref (s.heap.objs.size+1)::us++[.none]) _ _ (λc d H'=>W c d σ H') (hr.make C0 us [])
  (I2.env0.make C0 us []) (by simpa using hb _ (Value.ref (s.heap.objs.size+1)::us) I2.kIn hlu) r2 hq1) λr s' hq'=>?_))
 cases r with
 |error e=>exact C.xe e s' (uD (E:=λc d H'=>W c d σ H') I2 hq' λcls d H' w=>w)
 |ok fl=>
  cases fl with
  |ret u=>
   obtain⟨v,H',I3,rv,ev,q3⟩:=I2.after hq'
   subst ev
   exact⟨rv,⟨V.ref (s.heap.objs.size+1),H',I3,rfl,q3⟩⟩
  |next=>exact False.elim hq'
  |brk=>exact False.elim hq'
  |cont=>exact False.elim hq'
theorem VD(C:Ck D W Γ X k){x:Str}{c n:Nat}{g:Fn}{p0:Pos}(hx:x∈Γ.G)(hU:til x∈Γ.U)(hg:Γ.gl (til x)=.mkd c x n g)(hc:Γ.calm=true)(ha:EsOk X D W (a::es) fs):PE X (.Call (.Name x p0) (a::es) [] pos) (rdE D W (Yv c g fs)):=by
 have q:=(C.glU _ hU).1
 rw[hg] at q
 obtain⟨C0,fI,fd,ps,kk,ad,hm,M,hb,hkk,Fn,har,_⟩:=q
 have hr:=(C.rom hc).mono hkk
 have hs:=ha.stars
 have pa:=wx ha
 rintro pins s σ H Q I ⟨φ,α,τ,μ,sr,mr,p⟩
 refine wpAny_Call_Name_kw (wN I (C.glb x hx) hm ?_ (C.dbG x hx))
 simp only[List.all_cons,Bool.and_eq_true] at hs
 refine PySem.W.callWith_K (h₀:=X.base) I.ok.mod.kin M.kp (thn (JQ pa I sr mr p) ?_) (z7 hs.1) (qm hs.2)
 rintro us s1 ⟨vs,H1,ts,μ1,α1,I1,r1,st1,sr1,mr1,d1,_,p1⟩
 exact⟨I1.kIn,K7 C ad M Fn hr hb har I1 r1 mr1 d1 p1⟩
end
noncomputable def z2f:ER:=λr Γ e=>match e with
 |.Lambda ⟨[],[⟨y,none,_⟩],none,[],[],none,[]⟩ (.Constant .none _ _) sc pl=>gd (XA y sc&&Γ.U.contains Xe) (match Γ.gl Xe,Γ.lam with
  |.kpr,some (j,poss)=>gd (decide (pl∈poss)&&decide (j<2)) (some (z1g j))
  |_,_=>none)
 |_=>none
noncomputable def z2d:ER:=λr Γ e=>match e with
 |.Call (.Attribute o m pa) [a] [] pc=>gd (qc o&&pa.endLine == pc.line&&Γ.calm&&noStar a&&Γ.U.contains Xe&&m == ("keeper":Str)) ((r.e Γ o).bind λgo=>(r.e Γ a).bind λf=>(match Γ.gl Xe,Γ.fld.lookup m with
  |.kpr,some n=>some (z0x n go f)
  |_,_=>none))
 |_=>none
theorem xc{x:Str}{n:Nat}:∀{l:List (Str×Nat)},l.lookup x=some n->(x,n)∈l
 |[],h=>by cases h
 |(y,m)::r,h=>by
  rw[List.lookup_cons] at h
  split at h
  ·rename_i e
   have e:=beq_iff_eq.mp e
   cases h
   rw[e];exact List.mem_cons_self
  ·exact List.mem_cons_of_mem _ (xc h)
noncomputable def z0h:ER:=λr Γ e=>match e with
 |.Call (.Name x _) (a::es) [] _=>gd ((idx Γ.N x).isNone&&Γ.calm&&Γ.G.contains x&&Γ.U.contains (til x)) ((cEs r Γ (a::es)).bind λfs=>(match Γ.gl (til x) with
  |.mkd c nm n g=>gd (nm == x&&decide (es.length+1=n)) (some (Yv c g fs))
  |_=>none))
 |_=>none
theorem Km{D:DP}:EOk D z0h:=by
 intro r H X W Γ k e d C h
 unfold z0h at h
 split at h
 ·rename_i x p0 a es pos
  have hh:=zF h
  clear h
  obtain⟨hb,h⟩:=hh
  simp only[Bool.and_eq_true] at hb
  obtain⟨⟨⟨h0,h1⟩,h2⟩,h3⟩:=hb
  obtain⟨fs,e1,h⟩:=bnd h
  cases hl:Γ.gl (til x) with
  |mkd c nm n g=>
   simp only[hl] at h
   obtain⟨h4,h5⟩:=zF h
   simp only[Bool.and_eq_true] at h4
   have h4:=beq_iff_eq.mp h4.1
   subst h4
   cases h5
   exact VD C (by simpa using h2) (by simpa using h3) hl h1 (wF H C e1)
  |_=>simp[hl] at h
 ·cases h
section
variable {P:Program}{w:World}{K:PySem.W.Frag}{mg:Str->Option Value}{base:Heap}{D:DP}{k n:Nat}
theorem vj{fd:FuncData}{ps:List Str}{T0:Addr}{o:Obj}{items:Array Value}{n:Nat}(hd:fd.defaults=.ref T0)(ho:K.lookup T0=some o)(hs:o.data=.seq items n)(h:∀us:List Value,us.length=ps.length->∃k,bindArgs fd ⟨us,[]⟩=seqItems? fd.defaults >>= k/\k (some items)=pure (ps.zip us)):Binds K fd ps []:=λs us X hl=>by
 rw[List.append_nil] at hl ⊢
 obtain⟨k,h1,h2⟩:=h us hl
 exact PySem.W.binds_K X hd ho hs h1 h2
theorem vm{fd:FuncData}{ps:List Str}{T0:Addr}{o:Obj}{items:Array Value}{n:Nat}{d:Value}(hd:fd.defaults=.ref T0)(ho:K.lookup T0=some o)(hs:o.data=.seq items n)(h:∀us:List Value,us.length+1=ps.length->∃k,bindArgs fd ⟨us,[]⟩=seqItems? fd.defaults >>= k/\k (some items)=pure (ps.zip (us++[d]))):Binds K fd ps [d]:=λs us X hl=>by
 obtain⟨k,h1,h2⟩:=h us (by simpa using hl)
 exact PySem.W.binds_K X hd ho hs h1 h2
end
end NH
namespace NH.P
open PySem L2 NH
@[reducible] noncomputable def wm:List Ds:=[(zG (WV (zd qx [(eV 0)]) (zj .GtE (eV 0) (eC (.int 0)))))]
noncomputable def zZ:Fn:=fnW 1 0 wm
@[reducible] noncomputable def yw:List Ds:=[(sIf (tOr (vd (tE (WY [4] (eV 1)))) (tE (zj .NotEq (eB1 wM (eV 1)) (eC (.int 2))))) [(zG (eC (.bl false)))] []),(sIf (vd (tOr (tE (zj .Is (eIx (eV 1) (eC (.int 0))) (eC .non))) (tE (zd vc [(eV 0),(eIx (eV 1) (eC (.int 0)))])))) [(zG (eC (.bl false)))] []),(zG (eOr (zj .Is (eIx (eV 1) (eC (.int 1))) (eC .non)) (zd qk [(eIx (eV 1) (eC (.int 1))),(ze (eV 0) 0)])))]
noncomputable def QP:Fn:=fnW 2 0 yw
@[reducible] noncomputable def vZ:List Ds:=[(qq (eV 0) 11 (eV 1)),(qq (eV 0) 12 (eV 2)),(qq (eV 0) 13 (eV 3))]
noncomputable def qw:Fn:=fnW 4 0 vZ
@[reducible] noncomputable def yH:List Ds:=[(zG (zd km [(eV 0),(zb .FloorDiv (eV 2) (ze (eV 0) 2)),(eV 1),(zb .Mod (eV 2) (ze (eV 0) 2))]))]
noncomputable def vY:Fn:=fnW 3 0 yH
@[reducible] noncomputable def vE:List Ds:=[(zf 3 (zd vh [(eV 0),(eV 2)])),(sIf (tE (zj .Lt (eIx (eV 3) (eC (.int 1))) (eV 1))) [(zG (zb .Mult (eIx (eV 3) (eC (.int 0))) (ze (eV 0) 2)))] []),(sIf (tE (zj .Gt (eIx (eV 3) (eC (.int 1))) (eV 1))) [(zG (zb .Mult (zb .Add (eIx (eV 3) (eC (.int 0))) (eC (.int 1))) (ze (eV 0) 2)))] []),(zG (zb .Add (zb .Add (zb .Mult (eIx (eV 3) (eC (.int 0))) (ze (eV 0) 2)) (eIx (eV 3) (eC (.int 2)))) (eC (.int 1))))]
noncomputable def q_:Fn:=fnW 3 1 vE
@[reducible] noncomputable def wu:List Ds:=[(sIf (tE (ze (eV 0) 20)) [(qh 24 [(eC (.str "the house has fallen"))])] [])]
noncomputable def zK:Fn:=fnW 1 0 wu
@[reducible] noncomputable def j9:List Ds:=[(zG (zE [(ze (eV 0) 6),(ze (eV 0) 17)]))]
noncomputable def qt:Fn:=fnW 1 0 j9
@[reducible] noncomputable def qj:List Ds:=[(sIf (tE (zj .Is (ze (eV 0) 6) (eC .non))) [(qh 18 [(eC (.str "the house has no lease"))])] [])]
noncomputable def zA:Fn:=fnW 1 0 qj
@[reducible] noncomputable def qS:List Ds:=[(sIf (tE (zj .IsNot (ze (eV 0) 18) (eC .non))) [(zG (zd q_ [(ze (eV 0) 9),(eIx (ze (eV 0) 6) (eC (.int 0))),(ze (eV 0) 18)]))] []),(sIf (tE (zj .IsNot (ze (eV 0) 17) (eC .non))) [(zG (zb .Mult (zb .Add (ze (eV 0) 17) (eC (.int 1))) (ze (ze (eV 0) 9) 2)))] []),(zG (eC (.int 0)))]
noncomputable def z_:Fn:=fnW 1 0 qS
@[reducible] noncomputable def qO:List Ds:=[(sIf (tOr (vd (tE (zd qX [(eV 2)]))) (tE (zj .Gt (eV 2) (ze (ze (eV 0) 9) 2)))) [(qh 20 [(eC (.str "so many are whole numbers from 1 on up to the shape's counts"))])] []),(sIf (vd (tE (zd qx [(eV 1)]))) [(qh 16 [(eC (.str "a reading is a whole number"))])] []),(zo (zt 45 zA (eV 0) [])),(zf 3 (zb .Mult (eB2 Zj (eIx (ze (eV 0) 6) (eC (.int 1))) (eV 1)) (ze (ze (eV 0) 9) 2))),(zf 4 (eB2 Zj (zt 45 z_ (eV 0) []) (eV 3))),(zf 5 (zb .Add (eV 4) (eV 2))),(sIf (tE (zj .Gt (eV 5) (zb .Mult (eIx (ze (eV 0) 6) (eC (.int 2))) (ze (ze (eV 0) 9) 2)))) [(qh 18 [(eC (.str "the lease has not so many names"))])] []),(zf 6 (zb .Sub (zb .FloorDiv (zb .Sub (eV 5) (eC (.int 1))) (ze (ze (eV 0) 9) 2)) (zb .Add (eV 1) (ze (eV 0) 14)))),(sIf (tE (zj .Gt (eV 6) (eC (.int 0)))) [(ug 21 29 (eV 6))] []),(zG (eMk 44 qw [(eIx (ze (eV 0) 6) (eC (.int 0))),(eV 4),(eV 5)]))]
noncomputable def qb:Fn:=fnW 3 4 qO
@[reducible] noncomputable def qf:List Ds:=[(sIf (vx (tE (zj .IsNot (ze (eV 0) 17) (eC .non))) (tE (zj .LtE (eV 1) (ze (eV 0) 17)))) [(zG (ze (eV 0) 17))] []),(zG (eB2 v5 (zb .Add (eV 1) (ze (eV 0) 15)) (zb .Sub (ze (ze (eV 0) 9) 0) (eC (.int 1)))))]
noncomputable def zY:Fn:=fnW 2 0 qf
@[reducible] noncomputable def ja:List Ds:=[(zG (ze (eV 0) 18))]
noncomputable def wy:Fn:=fnW 1 0 ja
@[reducible] noncomputable def y4:List Ds:=[(zf 2 (zb .Mod (zb .Mult (zb .Add (zb .Add (zb .Mod (eV 0) (eC (.int 2147483629))) (zb .Mult (eC (.int 69621)) (eV 1))) (eC (.int 1))) (eC (.int 48271))) (eC (.int 2147483629)))),(zf 2 (zb .Mod (zb .Mult (eV 2) (zb .Add (zb .FloorDiv (eV 2) (eC (.int 1009))) (eC (.int 69621)))) (eC (.int 2147483629)))),(zf 2 (zb .Mod (zb .Mult (eV 2) (zb .Add (zb .Add (zb .FloorDiv (eV 2) (eC (.int 907))) (eC (.int 16807))) (eV 1))) (eC (.int 2147483629)))),(zG (zb .Mod (zb .Mult (eV 2) (zb .Add (zb .FloorDiv (eV 2) (eC (.int 1201))) (eC (.int 30011)))) (eC (.int 2147483629))))]
noncomputable def kn:Fn:=fnW 2 1 y4
@[reducible] noncomputable def kW:List Ds:=[(zG (ke [(zb .Mult (zb .FloorDiv (eV 0) (eC (.int 2))) (zb .Sub (eC (.int 1)) (zb .Mod (eV 0) (eC (.int 2))))),(eV 0),(eC (.int 0))]))]
noncomputable def wb:Fn:=fnW 1 0 kW
@[reducible] noncomputable def xu:List Ds:=[(sIf (tE (zj .Gt (eIx (eV 0) (eC (.int 0))) (eC (.int 0)))) [(zf 2 (zb .Mod (eIx (eV 0) (eC (.int 0))) (eV 1))),(Ki (eV 0) (eC (.int 0)) (zb .FloorDiv (eIx (eV 0) (eC (.int 0))) (eV 1))),(zG (eV 2))] []),(Ki (eV 0) (eC (.int 2)) (zb .Add (eIx (eV 0) (eC (.int 2))) (eC (.int 1)))),(zG (zb .Mod (zd kn [(eIx (eV 0) (eC (.int 1))),(eIx (eV 0) (eC (.int 2)))]) (eV 1)))]
noncomputable def zN:Fn:=fnW 2 1 xu
end NH.P
namespace NH
open PySem PySem.Spec PyProof.Rows L2
noncomputable abbrev U9(ts:List T)(μ:Mem):RE T:=.som (intsOf ts) λns=>.ok (.int ns.sum) μ
noncomputable abbrev Kw(t:T)(μ:Mem):RE T:=match t with
 |.lst ts=>U9 ts μ
 |.mut i=>λK Z=>∃ts,μ[i]?=some (.lst ts)/\U9 ts μ K Z
 |_=>.st
noncomputable def z0X(i:Nat)(t:T)(μ:Mem)(zs:List T):Prop:=t=.lst zs\/∃j,t=.mut j/\j≠i/\μ[j]?=some (.lst zs)
noncomputable abbrev ju(o f:De):De:=λτ μ=>(o τ μ).bind λot μ1=>match ot with
 |.mut i=>λK Z=>(∃ts,μ1[i]?=some (.lst ts))/\f τ μ1 (λt μ2=>∃ts zs,μ2[i]?=some (.lst ts)/\z0X i t μ2 zs/\ts.length+zs.length<=room/\K .non (μ2.set i (.lst (ts++zs)))) Z
 |_=>.st
section
variable {X:Cx}{D:DP}{W:XW}{Γ:Cn}{k:Nat}{pins:List (Addr×Obj)}{s:Shared}{σ:St}{H:Hp}{φ α:List Addr}{τ:Sl}{μ:Mem}{f g:De}{fs:List De}{a b c:Expr}{pos:Pos}{es:List Expr}
theorem z0g{A:Around}{E:Value->Shared->Prop}{prog:Program}{w:World}{l:Addr}{vs:List Value}{ns:List Int}{Q:Value->Shared->Prop}(hh:A.handled=none)(hl:s.heap.IsList l vs.toArray)(hi:IntsAre vs ns)
  (h:∀h' tk t',(∀b o,s.heap.get? b=some o->h'.get? b=some o)->Q (.int ns.sum t') {s with heap:=h',toks:=tk}):wpAny (model prog w) A (call (.builtin "sum") [.ref l]) Q E s:=by
 obtain⟨xs,hx⟩:=hi.allInts.items
 have hl':s.heap.IsList l (intItems xs):=hx▸hl
 refine sum_intListG hh hl' λh' tk t' hk=>?_
 have e1:ns=xs.toList.map (·.1):=by
  rw[←nums_intItems,←hx]
  exact (show numsOf vs.toArray.toList=ns from hi.numsOf).symm
 have e2:preSum (numAt xs) xs.size=ns.sum:=by
  rw[preSum_eq,List.take_of_length_le (by simp),e1]
 rw[e2]
 exact h h' tk t' hk
theorem VW{ad:Addr}{xs:List T}{ws:List V}{Q:VK}(hc:X.calm=true)(I:Inv X pins σ H s)(mr:MRel D φ α H μ)(q:Rd H ad (.lst ws))(l:DenL D φ α H xs ws)(p:Post D W φ α H σ (RV D φ Q) (U9 xs μ)) :
  wpAny (model X.prog X.w) X.A (call (.builtin "sum") [.ref ad]) (EP X pins σ Q) X.xe s:=by
 obtain⟨its,rv,pl,hz⟩:=I.list (.inl q)
 obtain⟨ns,hns,p⟩:=Post.som p
 have ey:=wJ hns l
 subst ey
 refine z0g (I.ok.hd hc) pl.isList (intsAre_of rv) λh' tk t' kp=>?_
 exact⟨.int ns.sum,H,I.kept kp,⟨_,rfl⟩,Post.here p mr rfl⟩
theorem z0r(hc:X.calm=true):B1 X D W (.builtin "sum") Kw:=by
 intro pins s σ H φ α μ t v u Q I mr d r p
 unfold Kw at p
 split at p
 ·obtain⟨ad,xs,rfl,_,_,q,l⟩:=d
  cases r
  exact VW hc I mr q l p
 ·obtain⟨ts,hj,p⟩:=p.ex1
  obtain⟨ad,hi,rfl⟩:=d
  cases r
  obtain⟨xs,q,l⟩:=mr.ob _ ad _ hi hj
  exact VW hc I mr (.inl q) l p
 ·exact p.elim
theorem Qh:MtR X "list.extend" (λx vs H Q=>∃l b xs zs,x=.ref l/\vs=[.ref b]/\H l=some (.lst xs)/\Rd H b (.lst zs)/\xs.length+zs.length<=sizeLine/\Q .non (upd H l (.lst (xs++zs)))):=by
 intro pins s σ H x vs v us Q I rx rv h
 obtain⟨l,b,xs,zs,rfl,rfl,hH,hB,hz,q⟩:=h
 cases rx
 obtain⟨u,rfl,ru⟩:=vals1 rv
 cases ru
 obtain⟨z,its,n,r,hl,e⟩:=I.lstM hH
 obtain⟨z2,its2,n2,r2,e2⟩:=hB.ok I.hok
 have hl2:=r2.length
 have hsz:its.toArray.size+its2.toArray.size<=sizeLine:=by rw[List.size_toArray,List.size_toArray];omega
 have hlong:¬(!its.toArray.isEmpty&&Builtin.List.listTooLong (its.toArray.size+its2.toArray.size))=true:=by
  rw[VM hsz,Bool.and_false]
  exact Bool.false_ne_true
 refine call_meets F.slot_list_extend ⟨_,e,rfl⟩ F.entry_list_extend (F.args_list_extend_2 _ _)
  (AutoSeq1.list_extend_list_list_0 l its.toArray n b its2.toArray n2 hlong (by rw[List.size_toArray];omega) (by omega)) ⟨e,e2,?_⟩
 refine⟨.non,_,I.lset (its':=its++its2) hH e (by simp) (r.append r2) ?_,rfl,q⟩
 rw[List.length_append]
 omega
theorem Yu{o:Expr}{pa pc:Pos}{go:De}(hp:qc o=true)(hs:noStar a=true)(hline:(pa.endLine == pc.line)=true)(ho:PE X o (rdE D W go))(ha:PE X a (rdE D W f)) :
  PE X (.Call (.Attribute o "extend" pa) [a] [] pc) (rdE D W (ju go f)):=by
 have hb:starEach [a] X.env=[(false,eval a X.env)]:=z7 hs
 refine PE.mono (XX PySem.F.plainAttrs_list PySem.F.slot_list_extend PySem.F.type_list_extend Qh ho (zI ha qp (z7 hs)) (qJ hp) (by rw[hb];rfl) hline (z7 hs) rfl) ?_
 rintro σ H Q ⟨φ,α,τ,μ,sr,mr,p⟩
 refine⟨φ,α,τ,μ,sr,mr,p.bind.mono λot μ1 α1 H1 st1 m1 q ov dv=>?_⟩
 split at q
 case h_2=>exact q.elim
 rename_i i
 obtain⟨K,Z,⟨⟨ts0,hμ0⟩,hf⟩,hk,hz⟩:=q
 obtain⟨x,hx,rfl⟩:=dv
 obtain⟨xs0,hH0,l0⟩:=m1.ob _ x _ hx hμ0
 refine⟨.inl ⟨rfl,_,.inl (.inl hH0)⟩,φ,α1,τ,μ1,sr.step st1,m1,_,Z,hf,?_,hz⟩
 rintro t μ2 ⟨ts,zs,hμ,hl,hr,q2⟩ α2 H2 st2 m2 v d
 obtain⟨β,e2,_⟩:=st2.ext
 have hx2:α2[i]?=some x:=by
  rw[e2,List.getElem?_append_left (List.getElem?_eq_some_iff.mp hx).1];exact hx
 obtain⟨xs,hH,l⟩:=m2.ob i x _ hx2 hμ
 have hv:∃y ws,v=.ref y/\Rd H2 y (.lst ws)/\DenL D φ α2 H2 zs ws:=by
  rcases hl with rfl|⟨j,rfl,hj,hμj⟩
  ·obtain⟨y,ws,rfl,_,_,r,dl⟩:=d
   exact⟨y,ws,rfl,r,dl⟩
  ·obtain⟨y,hy,rfl⟩:=d
   obtain⟨ws,hw,dl⟩:=m2.ob j y _ hy hμj
   exact⟨y,ws,rfl,.inl hw,dl⟩
 obtain⟨y,ws,rfl,hr2,dl⟩:=hv
 have st4:Stp α2 H2 α2 (upd H2 x (.lst (xs++ws))):=Stp.turn (List.mem_of_getElem? hx2) ⟨_,hH⟩
 have hi:i<μ2.length:=(List.getElem?_eq_some_iff.mp hμ).1
 refine⟨x,y,xs,ws,rfl,rfl,hH,hr2,?_,?_⟩
 ·rw[←l.length,←dl.length];exact Nat.le_trans hr (zB (Nat.le_refl _))
 ·exact hk _ _ q2 α2 _ (st2.trans st4) (m2.turn hx2 hi st4 ⟨_,z8,(l.step st4).append (dl.step st4)⟩) .non rfl
end
noncomputable def z1m:ER:=rB1 "sum" Kw true
theorem Kb{D:DP}:EOk D z1m:=JB λC hx hg hc hs ha=>XI C hx hg (by decide +kernel) (by decide) hs (z0r (C.clm (hc rfl))) ha
noncomputable def Ub:ER:=λr Γ e=>match e with
 |.Call (.Attribute o m pa) [a] [] pc=>gd (m == ("extend":Str)&&qc o&&noStar a&&pa.endLine == pc.line) ((r.e Γ o).bind λgo=>(r.e Γ a).bind λf=>some (ju go f))
 |_=>none
theorem Xr{D:DP}:EOk D Ub:=by
 intro r H X W Γ k e d C h
 unfold Ub at h
 split at h
 ·obtain⟨hb,h1⟩:=zF h
  clear h
  simp only[Bool.and_eq_true] at hb
  obtain⟨⟨⟨h0,h2⟩,h3⟩,h4⟩:=hb
  have h0:=beq_iff_eq.mp h0
  subst h0
  obtain⟨go,e1,h1⟩:=bnd h1
  obtain⟨f,e2,h1⟩:=bnd h1
  cases h1
  exact Yu h2 h3 h4 (H.e C e1) (H.e C e2)
 ·cases h
noncomputable def ZC:ER:=λr Γ e=>match e with
 |.Tuple [a,b] _ _=>gd (noStar a&&noStar b) ((r.e Γ a).bind λf=>(r.o Γ b).bind λg=>some (zE [f,g]))
 |_=>none
theorem Wo{D:DP}:EOk D ZC:=by
 intro r H X W Γ k e d C h
 unfold ZC at h
 split at h
 ·obtain⟨hb,h⟩:=zF h
  simp only[Bool.and_eq_true] at hb
  obtain⟨f,h1,h⟩:=bnd h
  obtain⟨g,h2,h⟩:=bnd h
  cases h
  exact Jy (by show (2:Nat)<=room;decide) ⟨hb.1,H.e C h1,hb.2,H.o C h2,trivial⟩
 ·cases h
end NH
namespace NH.P
open PySem L2 NH
@[reducible] noncomputable def qQ:List Ds:=[(zG (wR 1 [1,0] (.one 0) (Qt (ze (eV 1) 12) (ze (eV 1) 13)) [] (zd vY [(eV 2),(ze (eV 1) 11),(eV 0)])))]
noncomputable def zS:Fn:=fnW 2 0 qQ
@[reducible] noncomputable def jU:List Ds:=[(zG (eB1 Kw (jQ 1 [] (.one 0) (iE (eV 0)) [] (zb .Sub (ze (eV 0) 13) (ze (eV 0) 12)))))]
noncomputable def wk:Fn:=fnW 1 0 jU
@[reducible] noncomputable def Zv:List Ds:=[(zf 2 (ke [])),(zf 3 (ke [])),(zf 4 (eV 1)),(Jb (.one 5) (iE (eV 0)) [(zf 6 (eB2 v5 (zb .Add (ze (eV 5) 12) (eV 4)) (ze (eV 5) 13))),(zf 4 (zb .Sub (eV 4) (zb .Sub (eV 6) (ze (eV 5) 12)))),(zo (wX (eV 2) (eMk 44 qw [(ze (eV 5) 11),(ze (eV 5) 12),(eV 6)]))),(zo (wX (eV 3) (eMk 44 qw [(ze (eV 5) 11),(eV 6),(ze (eV 5) 13)])))]),(zG (zE [(eV 2),(wR 1 [] (.one 0) (iE (eV 3)) [(tE (zj .Lt (ze (eV 0) 12) (ze (eV 0) 13)))] (eV 0))]))]
noncomputable def parted:Fn:=fnW 2 5 Zv
@[reducible] noncomputable def ve:List Ds:=[(sIf (vd (vx (tE (zd zZ [(eV 2)])) (tE (zd zZ [(eV 3)])))) [(qh 16 [(eC (.str "ahead and stride are whole numbers from 0 on"))])] []),(sIf (vx (tE (zj .IsNot (eV 5) (eC .non))) (vd (tE (zd QP [(eV 1),(eV 5)])))) [(qh 23 [(eC (.str "no note of the shape"))])] []),(qq (eV 0) 9 (eV 1)),(qq (eV 0) 14 (eV 2)),(qq (eV 0) 15 (eV 3)),(qq (eV 0) 16 (eV 4)),(qq (eV 0) 6 (eIf (tE (zj .Is (eV 5) (eC .non))) (eC .non) (eIx (eV 5) (eC (.int 0))))),(qq (eV 0) 17 (eIf (tE (zj .Is (eV 5) (eC .non))) (eC .non) (eIx (eV 5) (eC (.int 1))))),(qq (eV 0) 18 (eC .non)),(qq (eV 0) 19 (ke [])),(qq (eV 0) 20 (eC (.bl false)))]
noncomputable def qa:Fn:=fnW 6 0 ve
@[reducible] noncomputable def wB:List Ds:=[(zo (zt 45 zK (eV 0) [])),(sIf (vd (tE (zd qX [(eV 1)]))) [(qh 20 [(eC (.str "so many are whole numbers from 1 on"))])] []),(sIf (tE (zj .Lt (zd wk [(ze (eV 0) 19)]) (eV 1))) [(qh 22 [(eC (.str "fewer are in store"))])] []),(zf 2 (zd parted [(ze (eV 0) 19),(eV 1)])),(qq (eV 0) 19 (eIx (eV 2) (eC (.int 1)))),(zf 3 (ke [])),(Jb (.one 4) (iE (eIx (eV 2) (eC (.int 0)))) [(zo (ju (eV 3) (zd zS [(ze (eV 0) 9),(eV 4)])))]),(zG (eV 3))]
noncomputable def zV:Fn:=fnW 2 3 wB
@[reducible] noncomputable def Qx:List Ds:=[(zG (zb .Add (zb .Mult (zb .Add (zb .Mult (zb .FloorDiv (eV 2) (eIx (eV 0) (eC (.int 2)))) (eIx (eV 0) (eC (.int 1)))) (eV 1)) (eIx (eV 0) (eC (.int 2)))) (zb .Mod (eV 2) (eIx (eV 0) (eC (.int 2))))))]
noncomputable def QA:Fn:=fnW 3 0 Qx
@[reducible] noncomputable def yC:List Ds:=[(sIf (tOr (tE (zj .Is (eV 1) (eC .non))) (tE (zj .Lt (eV 1) (eIx (eV 0) (eC (.int 1)))))) [(zG (eC .non))] []),(zG (eB2 v5 (eV 1) (zb .Sub (eIx (eV 0) (eC (.int 2))) (eC (.int 1)))))]
noncomputable def kf:Fn:=fnW 2 0 yC
@[reducible] noncomputable def qE:List Ds:=[(sIf (tE (zj .Is (ze (eV 0) 18) (eC .non))) [(zG (ze (eV 0) 17))] []),(zG (eIx (zd vh [(ze (eV 0) 9),(ze (eV 0) 18)]) (eC (.int 0))))]
noncomputable def zX:Fn:=fnW 1 0 qE
end NH.P
namespace NH
open PySem PySem.Spec PyProof.Rows L2
noncomputable abbrev Ut(g:De)(τ:Sl)(μ:Mem):RE T:=λK _=>g τ μ K (λ_ _ _=>False)
noncomputable abbrev UQ(js:List (Nat×De))(n:Nat)(o f:De):De:=λτ μ=>(o τ μ).bind λt μ1=>(xD t n μ1).bind λw μ2 K Z=>∃p:Nat×(Nat×De)×List T,(js[p.1]?=some p.2.1/\w=Jh p.1 p.2.1.1 p.2.2)/\((f τ μ2).bind λx μ3=>Ut p.2.1.2 (some x::p.2.2.map some) μ3) K Z
noncomputable abbrev J5(jt j:Nat)(fs:List Nat):De:=λτ (μ:Mem) K _=>(∃i:Nat,μ[i]?=some (MO.tab jt))/\∃ts:List T,fs.map (uT τ)=ts.map some/\K (Jh j jt ts) μ
noncomputable def yX:Str:=⟨#[38]⟩
section
variable {X:Cx}{D:DP}{W:XW}{Γ:Cn}{k:Nat}{pins:List (Addr×Obj)}{s:Shared}{σ:St}{H:Hp}{φ α:List Addr}{τ:Sl}{μ:Mem}{f g:De}{a b c:Expr}{pos:Pos}
theorem J1{x:Str}{c:Addr}{o:Obj}{v:Option Value}(I:Inv X pins σ H s)(hx:X.env.cells.lookup x=some c)(hf:X.fn x=false)(hs:X.s₀.heap.objs.size<=c)(hn:H c=none)(ho:s.heap.get? c=some o)(hd:o.data=.cell v):Inv X pins σ (upd H c (.frz o (.ext λ_=>True))) s:=by
 have st:∀b u,H b=some u->upd H c (.frz o (.ext λ_=>True)) b=some u:=λb u q=>by rw[za (zL q hn)];exact q
 refine⟨I.ok,I.os,I.bare,⟨I.base.keep,I.base.slot,λb o' e n hx'=>?_,I.base.there,λb xs e=>st b _ (I.base.tups b xs e),λb o' u e=>st b _ (I.base.frzs b o' u e),λb ps e=>?_⟩,I.loc,I.cell,?_,λy c' e=>?_,λp hp=>?_,λb ob e=>?_,I.len⟩
 ·rw[za (Nat.ne_of_lt (Nat.lt_of_lt_of_le (Heap.lt_size e) hs))];exact I.base.free b o' e n hx'
 ·obtain⟨more,q⟩:=I.base.tbls b ps e
  exact⟨more,st b _ q⟩
 ·rw[za (Ne.symm (I.cne x c hx))];exact I.free
 ·by_cases z:c'=c
  ·subst z
   rw[I.ok.inj _ _ _ e hx]
   exact .inr ⟨hf,o,_,z8⟩
  ·rw[za z];exact I.freeC y c' e
 ·obtain⟨e,n,ne,nf,d⟩:=I.pin p hp
  have:p.1≠c:=λz=>by rw[z,ho] at e;cases e;exact d _ hd
  exact⟨e,by rw[za this];exact n,ne,nf,d⟩
 ·by_cases z:b=c
  ·subst z
   rw[z8] at e;cases e
   exact⟨ho,trivial,⟨o,ho⟩,λ_ _ _ _=>trivial⟩
  ·rw[za z] at e
   exact (I.hok b ob e).stay (λ_ _ _ q=>q) (λb q=>st b _ q) λb xs q=>st b _ q
theorem uR(C:Ck D W Γ X k){ls:List LamD}(KM:KapMk D ls)(hl:Γ.lam.isSome=true):∀{fr:List Str} {fs:List Nat} {ts:List T} {H:Hp},(∀x∈fr,x∈Γ.fz/\x∈Γ.cel)->vp Γ.N fr=some fs->fs.map (uT τ)=ts.map some->Inv X pins σ H s->SRel D φ α H τ σ->MRel D φ α H μ->
  ∃(H':Hp) (cs:List Addr),Inv X pins σ H' s/\vH H H'/\fr.map (λx=>X.env.cells.lookup x)=cs.map some/\DenL D φ α H' (ts.map λt=>.clo 200 [t]) (cs.map V.ref)
 |[],fs,ts,H,_,h2,h3,I,sr,mr=>by
  cases h2
  cases ts with
  |nil=>exact⟨H,[],I,λ_ _ e=>e,rfl,rfl⟩
  |cons _ _=>cases h3
 |x::fr,fs,ts,H,h1,h2,h3,I,sr,mr=>by
  simp only[vp] at h2
  split at h2
  ·rename_i i is hi his
   cases h2
   cases ts with
   |nil=>cases h3
   |cons t ts=>
    have h3':=h3
    simp only[List.map_cons,List.cons.injEq] at h3'
    obtain⟨ht,hts⟩:=h3'
    obtain⟨hz,hc⟩:=h1 x List.mem_cons_self
    obtain⟨v,hv,d⟩:=sr.val i t (uz.mp ht)
    obtain⟨hf,hsz⟩:=C.kfz hl x hz
    obtain⟨m,_,hlc⟩:=I.loc
    obtain⟨u,ru,lk⟩:=hlc i x v (by rw[C.hN];exact qW hi) hv (C.vis x (qH hi))
    have kd:=C.cel x hc
    rcases lk with⟨z,_⟩|⟨_,c,ec,o,ho,hd⟩
    ·rcases kd with q|q<;>(rw[z] at q;cases q)
    ·obtain⟨H1,ob,I1,sm,e1,n1,n2⟩:∃H1 ob,Inv X pins σ H1 s/\vH H H1/\H1 c=some (.frz o ob)/\c∉φ/\c∉α:=by
      rcases I.freeC x c ec with q|⟨_,o',u',q⟩
      ·exact⟨_,_,J1 I ec hf (hsz c ec) q ho hd,zk q,z8,zr mr q,zq mr q⟩
      ·have h0:s.heap.get? c=some o':=(I.hok c _ q).1
       rw[ho] at h0;cases h0
       refine⟨H,u',I,λ_ _ e=>e,q,λz=>?_,λz=>?_⟩
       ·obtain⟨w,e,n⟩:=mr.phi c z
        rw[q] at e;cases e;cases n
       ·obtain⟨i',hi'⟩:=List.mem_iff_getElem?.mp z
        have hl':i'<μ.length:=by rw[←mr.len];exact (List.getElem?_eq_some_iff.mp hi').1
        obtain⟨w,e,n⟩:=(mr.ob i' c μ[i'] hi' (by simp[hl'])).some
        rw[q] at e;cases e;cases n
     have st:=Stp.new (α:=α) sm
     obtain⟨H2,cs,I2,sm2,hcs,dl⟩:=uR C KM hl (fr:=fr) (fs:=is) (ts:=ts) (λy hy=>h1 y (List.mem_cons_of_mem _ hy)) his hts I1 (sr.step st) (mr.new sm)
     refine⟨H2,c::cs,I2,λb o e=>sm2 b o (sm b o e),by simp[ec,hcs],⟨.ref c,cs.map V.ref,rfl,⟨c,some (.frz o ob),[v],rfl,KM.ce c o u v ob hd ru,λo' e=>?_,v,[],rfl,(d.step st).step (Stp.new sm2),rfl⟩,dl⟩⟩
     cases e
     exact⟨n1,n2,sm2 _ _ e1⟩
  ·cases h2
theorem VR{P:Program}{w:World}{h:Heap}{q c:Addr}{l:LamD}{cl:List (Str×Addr)}(p:jg q c l cl h):ObjOk P w H h q (.ext (jg q c l cl)):=by
 obtain⟨pa,pm,ctv,h2⟩:=id p
 refine⟨p,⟨_,h2⟩,λg1 g2 p kk'=>?_⟩
 obtain⟨pa,pm,ctv,h2⟩:=p
 exact⟨pa,pm,ctv,kk' _ h2⟩
theorem KD(C:Ck D W Γ X k){l:LamD}{ls:List LamD}{pa pl:Pos}{j:Nat}{poss:List Pos}{fs:List Nat}(hlm:Γ.lam=some (l.jt,poss))(hpp:pl∈poss)(hU:yX∈Γ.U)(hg:Γ.gl yX=.kap ls)(hj:ls[j]?=some l)(hfr:frees l.sc=l.fr)(hnd:l.fr.Nodup)(hfz:∀x∈l.fr,x∈Γ.fz/\x∈Γ.cel)(hfs:vp Γ.N l.fr=some fs) :
  PE X (.Lambda ⟨[],[⟨l.y,none,pa⟩],none,[],[],none,[]⟩ l.body l.sc pl) (rdE D W (J5 l.jt j fs)):=by
 obtain⟨hk,c,P,hcode,hC,hB,hD⟩:=C.lam _ poss hlm
 have gq:=(C.glU _ hU).1
 rw[hg] at gq
 have KM:=gq.2
 obtain⟨P',pos',hD'⟩:=KM.tb j l hj
 have hqn:X.env.qual++"<lambda>"=l.qn:=by
  have:=hD.symm.trans hD'
  simp only[Option.some.injEq,Prod.mk.injEq] at this
  exact this.2.2
 rintro pins s σ H Q I ⟨φ,α,τ,μ,sr,mr,K0,Z0,⟨⟨i,hi⟩,ts,hts,q0⟩,k1,k2⟩
 obtain⟨H1,cs,I1,sm1,hcs,dl⟩:=uR C KM (by rw[hlm];rfl) hfz hfs hts I sr mr
 have hcel:∀x∈frees l.sc,∃c,X.env.cells.lookup x=some c:=λx hx=>I.ok.has x (C.cel x (hfz x (by rw[←hfr];exact hx)).2)
 obtain⟨cl,hcl,hc1,hc2⟩:=xF hcel
 have cat:WI l.fr cl cs:=by
  refine⟨?_,?_,λx a e=>by rw[←hfr];exact (hc1 x a e).2⟩
  ·rw[←hcs]
   refine List.map_congr_left λx hx=>?_
   obtain⟨c,e⟩:=hc2 x (by rw[hfr];exact hx)
   rw[e,(hc1 x c e).1]
  ·have q:(cs.map some).Pairwise (·≠·):=by
    rw[←hcs,List.pairwise_map]
    refine List.Pairwise.imp_of_mem (λ{a b} ha hb hne e=>hne ?_) hnd
    obtain⟨c,e1⟩:=hcel a (by rw[hfr];exact ha)
    exact I.ok.inj a b c e1 (by rw[←e];exact e1)
   rw[List.pairwise_map] at q
   exact q.imp λh e=>h (congrArg some e)
 refine PySem.W.kla_eval rfl (Vs (line:=pl.line) I1 (mr.new sm1) hi hD hpp hcode hC hB hcl λq c' ctv H2 s2 I2 st2 m2 hca hcc hx=>?_)
 have ho:=(I2.pin _ (List.mem_append_right _ List.mem_cons_self)).1
 have np:jg q c' l cl s2.heap:=⟨pa,_,ctv,by rw[←hqn];exact ho⟩
 have I4:=vG (o:=.ext (jg q c' l cl)) (ZL I2) hx.2.1 hx.2.2 (VR np)
 have fr0:=hx.2.1.free
 have sm:vH H2 (upd H2 q (.ext (jg q c' l cl))):=zk fr0
 refine⟨.ref q,_,I4,rfl,k1 _ _ q0 α _ ((Stp.new sm1).trans (st2.trans (Stp.new sm))) (m2.new sm) _ ?_⟩
 refine⟨q,_,_,rfl,KM.fn j l q c' cl cs hj cat,λo e=>?_,.ref c',cs.map V.ref,rfl,⟨c',_,[],rfl,KM.co _ _ _ _ c' hD,λo e=>?_,rfl⟩,(dl.step st2).step (Stp.new sm)⟩
 ·cases e
  exact⟨zr m2 fr0,zq m2 fr0,z8⟩
 ·cases e
  exact⟨hx.1,hca,sm _ _ hcc⟩
end
section
variable {D:DP}{φ α:List Addr}{H:Hp}
structure CellK(H:Hp)(c:Addr)(x:V):Prop where
 ex:∃(o:Obj) (ob:HO) (u:Value),H c=some (.frz o ob)/\o.data=.cell (some u)/\RelV x u
noncomputable def Kl(D:DP):Prop:=∀c ob xs,D.clo 200 c ob xs->∃(x:V) (u:Value) (o:Obj) (u':HO),xs=[x]/\RelV x u/\Obj.data o=.cell (some u)/\ob=some (HO.frz o u')
theorem ym(hinv:Kl D):∀{ts:List T} {cs:List Addr},DenL D φ α H (ts.map λt=>.clo 200 [t]) (cs.map V.ref)->∃vs:List V,DenL D φ α H ts vs/\vs.length=cs.length/\∀(i:Nat) (c:Addr),cs[i]?=some c->∃x,vs[i]?=some x/\CellK H c x
 |[],[],_=>⟨[],rfl,rfl,λi c e=>by simp at e⟩
 |[],_::_,h=>by cases (show _=[] from h)
 |t::ts,[],h=>by obtain⟨_,_,e,_⟩:=h;cases e
 |t::ts,c::cs,h=>by
  obtain⟨v,r,e,⟨a,ob,xs,e2,hc,hob,dl⟩,h2⟩:=h
  cases e
  cases e2
  obtain⟨vs,h3,h4,h5⟩:=ym hinv h2
  obtain⟨x,u,o,u',rfl,r,hd,rfl⟩:=hinv _ _ _ hc
  obtain⟨x',r',e3,d,e4⟩:=dl
  cases e3
  refine⟨x::vs,⟨x,vs,rfl,d,h3⟩,by simp[h4],λi c' e=>?_⟩
  cases i with
  |zero=>cases e;exact⟨x,rfl,⟨o,u',u,(hob _ rfl).2.2,hd,r⟩⟩
  |succ i=>exact h5 i c' (by simpa using e)
theorem uf{fr:List Str}{cl:List (Str×Addr)}{cs:List Addr}(h:WI fr cl cs){x:Str}{c:Addr}(e:cl.lookup x=some c):∃i:Nat,fr[i]?=some x/\cs[i]?=some c:=by
 obtain⟨i,hi⟩:=List.mem_iff_getElem?.mp (h.2.2 x c e)
 refine⟨i,hi,?_⟩
 have:=congrArg (λl=>l[i]?) h.1
 simp only[List.getElem?_map,hi,Option.map_some,e] at this
 cases q:cs[i]? with
 |none=>rw[q] at this;cases this
 |some c'=>rw[q] at this;cases this;rfl
theorem QW{fr:List Str}{cl:List (Str×Addr)}{cs:List Addr}(h:WI fr cl cs){x:Str}{i:Nat}(e:fr[i]?=some x):∃c,cl.lookup x=some c/\cs[i]?=some c:=by
 have:=congrArg (λl=>l[i]?) h.1
 simp only[List.getElem?_map,e,Option.map_some] at this
 cases q:cs[i]? with
 |none=>rw[q] at this;cases this
 |some c'=>rw[q] at this;exact⟨c',by simpa using this,rfl⟩
noncomputable def QZ(Γ:Cn)(l:LamD):Bool:=
 (l.sc.kind == .function)&&!l.sc.isCoroutine&&!l.sc.isGenerator&&l.sc.names.all (λp=>p.2 != .cell)&&(frees l.sc == l.fr)&&decide ((l.y::l.fr).Nodup)&&(l.sc.names.lookup l.y == some .local)&&l.fr.all (λx=>l.sc.names.lookup x == some .free)&&
 (l.y::l.fr).all (λx=>x != ("__debug__":Str)&&x != ("__classdict__":Str))&&Γ.G.all (λx=>Γ.U.contains x&&l.sc.names.lookup x == some .globalImplicit)
noncomputable def kr(Γ:Cn)(l:LamD)(G:List Str):Cn:={Γ with N:=l.y::l.fr,G:=G,cel:=l.fr,own:=[],lam:=none,fz:=[],calm:=true}
theorem V7{R:Rules}{P:Program}{w:World}{K:PySem.W.Frag}{mg:Str->Option Value}{base:Heap}{Γ:Cn}{G:List Str}(HR:RulesOk D R){n k0:Nat}{l:LamD}(M:MdOk D P w K mg base Γ k0)(hsc:QZ (kr Γ l G) l=true)(hE:(comp R n).e (kr Γ l G) l.body=some l.g)
  {A:Around} {outer:List Env} {s:Shared} {a c:Addr} {cl:List (Str×Addr)} {cs:List Addr} (hr:Room (k0+1) A) (e0:Env0 P w K mg base A outer s H) (ho:jg a c l cl s.heap) (hrec:s.heap.CodeRec (.ref c) l.qn) (cat:WI l.fr cl cs)
  {ts:List T} {vs:List V} (dts:DenL D φ α H ts vs) (hvl:vs.length=cs.length) (hcv:∀(i:Nat) (c:Addr),cs[i]?=some c->∃x,vs[i]?=some x/\CellK H c x)
  {u:Value} {x:V} {Q:VK} {t:T} {μ:Mem} {K0:T->Mem->Prop} (r:RelV x u) (d:Den D φ α H t x) (mr:MRel D φ α H μ) (p:l.g (some t::ts.map some) μ K0 (λ_ _ _=>False)) (hK0:∀t' μ',K0 t' μ'->∀α' H' v',Stp α H α' H'->MRel D φ α' H' μ'->Den D φ α' H' t' v'->Q v' H') :
  codeAny (model P w) A (.call (.ref a) ⟨[u],[]⟩) (CR (CX1 P w) outer P w H s Q (λ_ _ _=>False)) s:=by
 obtain⟨pa,pm,ctv,ho⟩:=ho
 simp only[QZ,Bool.and_eq_true,List.all_eq_true,beq_iff_eq,Bool.not_eq_true',decide_eq_true_eq,bne_iff_ne,ne_eq] at hsc
 obtain⟨⟨⟨⟨⟨⟨⟨⟨⟨h1,h2⟩,h3⟩,h4⟩,h5⟩,h6⟩,h7⟩,h8⟩,h9⟩,h10⟩:=hsc
 have lim:s.heap.NoLimit:=e0.mod.nolimit.keeps λb o e=>(e0.bs b o e).1
 have hfl:l.fr.length=cs.length:=by have:=congrArg List.length cat.1;simpa using this
 refine PySem.W.kla_callFunE (fd:=PySem.W.kla_fn "<lambda>" l.qn ⟨[],[⟨l.y,none,pa⟩],none,[],[],none,[]⟩ l.body l.sc cl pm (.ref c) ctv) hr.depth ho rfl h2 h3 rfl hrec (wpAny_of_eq (bind1 rfl rfl) (wpAny_newFunctionEnv h4 (λz hz=>?_) (λhh hns hsb=>?_) h1))
 ·rw[List.mem_singleton.mp hz];exact h7
 have old:∀b o,s.heap.get? b=some o->hh.get? b=some o:=λb o e=>hsb.extBut b o (Nat.ne_of_lt (Heap.lt_size e)) (Heap.get?_push_of_some _ e)
 have cellK:∀z c',cl.lookup z=some c'->∃(i:Nat) (v:V),l.fr[i]?=some z/\vs[i]?=some v/\CellK H c' v:=λz c' e=>by
  obtain⟨i,e1,e2⟩:=uf cat e
  obtain⟨v,e3,e4⟩:=hcv i c' e2
  exact⟨i,v,e1,e3,e4⟩
 let env:Env:=newEnv l.sc s.heap.objs.size mainGlobals cl (l.qn++".<locals>.") (some a) (.ref c) none builtinsNs
 let Y:Cx:={prog:=P,w:=w,K:=K,mg:=mg,base:=base,A:=A.deeper env,N:=l.y::l.fr,s₀:=s,H₀:=H,env:=env,outer:=outer,stack:=env::outer,ex:=[],fn:=λ_=>false,calm:=true,pn:=[],xe:=λ_ _=>False}
 have I:Inv Y [] (some x::vs.map some) H {s with heap:=hh,toks:=s.toks+[(l.y,u)].length}:=by
  refine⟨⟨e0.mod,h1,rfl,rfl,Nat.le_refl _,λy z c' q1 q2=>?_,λy hy=>?_,λy c' z=>(by cases z),λ_=>hr.hd,Around.frames_deeper e0.frames,.inr ⟨rfl,rfl⟩,λb z=>absurd z (by simp[Y]),e0.bs,e0.bsz,λb _ _=>(by simp[Y]),λb z=>absurd z (by simp[Y]),e0.funs,e0.frf⟩,
   rfl,e0.bare,Un.kept old,⟨_,hns,λi y v q1 q2 q3=>?_⟩,λy c' q=>?_,e0.hok.fresh (Nat.le_refl _),λy c' q=>?_,λp hp=>absurd hp (by simp[Y]),e0.hok.kept old,by simp[Y,hvl,hfl]⟩
  ·obtain⟨i1,a1,a2⟩:=uf cat q1
   obtain⟨i2,b1,b2⟩:=uf cat q2
   have:i1=i2:=by
    obtain⟨l1,g1⟩:=List.getElem?_eq_some_iff.mp a2
    obtain⟨l2,g2⟩:=List.getElem?_eq_some_iff.mp b2
    exact (List.getElem_inj cat.2.1).mp (g1.trans g2.symm)
   rw[this,b1] at a1;exact (Option.some.inj a1).symm
  ·rcases hy with hy|hy
   ·exact absurd rfl (h4 _ (PySem.mem_of_lookup hy))
   ·obtain⟨i,hi⟩:=List.mem_iff_getElem?.mp (show y∈l.fr by rw[←h5];exact wg.mpr ⟨_,PySem.mem_of_lookup hy,rfl,rfl⟩)
    obtain⟨c',e,_⟩:=QW cat hi
    exact⟨c',e⟩
  ·cases i with
   |zero=>
    cases q1
    cases q2
    exact⟨u,r,.inl ⟨h7,by simp[List.lookup]⟩⟩
   |succ i=>
    have q1:l.fr[i]?=some y:=q1
    obtain⟨c',e1,e2⟩:=QW cat q1
    obtain⟨v',e3,⟨o,ob,u',k1,k2,k3⟩⟩:=hcv i c' e2
    have q2:(vs.map some)[i]?=some (some v):=q2
    rw[List.getElem?_map,e3] at q2
    cases q2
    exact⟨u',k3,.inr ⟨.inr (h8 y (List.mem_of_getElem? q1)),c',e1,o,old _ _ (e0.hok c' _ k1).1,k2⟩⟩
  ·obtain⟨i,v,_,_,⟨o,ob,u',k1,k2,k3⟩⟩:=cellK y c' q
   exact⟨some u',o,old _ _ (e0.hok c' _ k1).1,k2⟩
  ·obtain⟨i,v,_,_,⟨o,ob,u',k1,k2,k3⟩⟩:=cellK y c' q
   exact .inr ⟨rfl,o,ob,k1⟩
 have F:Frm Y env outer s.heap.objs.size:=⟨rfl,rfl,rfl⟩
 have hr':Room k0 Y.A:=hr.deeper env
 have kd:∀z∈l.y::l.fr,Vis l.sc z:=λz hz=>(List.mem_cons.mp hz).elim (λq=>.inl (by rw[q];exact h7)) λq=>.inr (.inr (h8 z q))
 have C2:Ck D noW (kr Γ l G) Y k0:={hK:=M.hK,hN:=rfl,nd:=h6,vis:=kd,dbg:=λz hz=>⟨beq_eq_false_iff_ne.mpr (h9 z hz).1,beq_eq_false_iff_ne.mpr (h9 z hz).2⟩,dbG:=λz hz=>(M.glo z (List.contains_iff_mem.mp (h10 z hz).1)).2,glb:=λz hz=>(h10 z hz).2,glo:=λz hz=>(M.glo z (List.contains_iff_mem.mp (h10 z hz).1)).1,glU:=M.glo,cel:=λz hz=>.inr (h8 z hz),isi:=M.isi,fld:=M.fld,xcx:=M.xcx,ocx:=M.ocx,clv:=M.clv,clm:=λ_=>rfl,rom:=λ_=>hr',rmh:=⟨hr'.dp,hr'.un⟩,xe:=(λe s p=>by obtain⟨_,_,_,_,_,_,_,_,_,_,_,_,_,z⟩:=p;exact z),frm:=⟨_,_,_,F.stk,F.f0,F.fe⟩,lam:=LamOk.no rfl,kfz:=(λh=>by cases h)}
 have sr:SRel D φ α H (some t::ts.map some) (some x::vs.map some):=by
  refine⟨by simp[dts.length],λi t' e=>?_⟩
  cases i with
  |zero=>cases e;exact⟨x,rfl,d⟩
  |succ i=>
   have e:(ts.map some)[i]?=some (some t'):=e
   rw[List.getElem?_map] at e
   cases q:ts[i]? with
   |none=>rw[q] at e;cases e
   |some t2=>
    rw[q] at e;cases e
    obtain⟨v,hv,dv⟩:=dts.get q
    exact⟨v,by show (vs.map some)[i]?=_;rw[List.getElem?_map,hv];rfl,dv⟩
 have B:=(qG HR n).e C2 hE [] _ _ H Q I ⟨φ,α,_,μ,sr,mr,_,_,p,λa μ' e α' H' st m v' dv=>hK0 a μ' e α' H' v' st m dv,λ_ _ _ z=>z.elim⟩
 refine⟨lim.keeps old,PySem.W.kla_codeExpr (wpAny_mono B (λv s' hs=>?_) λ_ _ z=>z.elim)⟩
 obtain⟨v',H',J,rv,q'⟩:=hs
 exact⟨v',H',J.os,J.bare,J.base,J.hok,rv,q'⟩
end
section
variable {X:Cx}{D:DP}{W:XW}{Γ:Cn}{k:Nat}{pins:List (Addr×Obj)}{s:Shared}{σ:St}{H:Hp}{φ α:List Addr}{τ:Sl}{μ:Mem}{f g:De}{a b c:Expr}{pos:Pos}
theorem YJ(C:Ck D W Γ X k){m:Str}{n:Nat}{o:Expr}{go:De}{apos:Pos}{ls:List LamD}(hU:yX∈Γ.U)(hg:Γ.gl yX=.kap ls)(hn:(m,n)∈Γ.fld)(hc:Γ.calm=true)(hp:qc o=true)(hline:(apos.endLine == pos.line)=true)(hst:noStar a=true)(ho:PE X o (rdE D W go))(ha:PE X a (rdE D W f)) :
  PE X (.Call (.Attribute o m apos) [a] [] pos) (rdE D W (UQ (ls.map λl=>(l.jt,l.g)) n go f)):=by
 have gq:=(C.glU _ hU).1
 rw[hg] at gq
 rintro pins s σ H Q I ⟨φ,α,τ,μ,sr,mr,p⟩
 rw[arm_eval_Call,qJ hp]
 refine wpAny_bind (thn (sub ho I sr mr p) ?_)
 rintro u s1 ⟨v,H1,t,μ1,α1,I1,r1,st1,sr1,mr1,d1,p1⟩
 refine wpAny_bind (wpAny_standAt ?_)
 have hform:methodCallForm ([a].length+([]:List Keyword).length) (backTo pos (starEach [a] X.env)) (backToKw pos (keywordEach [] X.env))=true:=JK (by simp[hst]) (by show (1:Nat)<30;decide)
 have hpos:methodCallPos true o X.env apos pos=pure pos:=by unfold methodCallPos;simp[hline]
 have run:∀{ad0 C0 dx:Addr} {gs:List (Str×V)} {z:V} {t0:T},H1 ad0=some (.ins C0 dx gs)->Cls X.K C0->NoAttr X.K C0 m->gs.lookup m=some z->u=.ref ad0->Den D φ α1 H1 t0 z->Post D W φ α1 H1 σ (RV D φ Q) (λK Z=>∃p:Nat×(Nat×De)×List T,((ls.map λl=>(l.jt,l.g))[p.1]?=some p.2.1/\t0=Jh p.1 p.2.1.1 p.2.2)/\((f τ μ1).bind λx μ3=>Ut p.2.1.2 (some x::p.2.2.map some) μ3) K Z)->
   wpAny (model X.prog X.w) X.A (methodCall o m apos pos X.env u ([a].length+([]:List Keyword).length) (backTo pos (starEach [a] X.env)) (backToKw pos (keywordEach [] X.env))) (EP X pins σ Q) X.xe s1:=λ{ad0 C0 dx gs z t0} e1 cl na lk hu dz p=>by
  subst hu
  obtain⟨⟨j,⟨jt,gg⟩,ts⟩,⟨hj,rfl⟩,p2⟩:=p.ex1
  rw[List.getElem?_map] at hj
  obtain⟨l,hl,e⟩:=Option.map_eq_some_iff.mp hj
  cases e
  obtain⟨fa,kk,rfl,hkk,hF⟩:=gq.1 j l ts φ α1 H1 z hl dz
  unfold methodCall
  rw[hform]
  refine wpAny_bind (wpAny_holding (Zn I1 e1 cl na lk λu' s1' I1' r'=>?_))
  cases (show u'=Value.ref fa from r')
  refine wpAny_bind (wpAny_of_eq hpos ?_)
  refine PySem.W.callWith_F (first:=[]) (hF X.A X.stack s1' I1'.env0).1 (thn (zI ha qp (z7 hst) pos pins s1' σ H1 (λvs H2=>∃v t μ2 α2,vs=[v]/\Stp α1 H1 α2 H2/\MRel D φ α2 H2 μ2/\Den D φ α2 H2 t v/\Post D W φ α2 H2 σ (RV D φ Q) (Ut l.g (some t::ts.map some) μ2)) I1' ⟨φ,α1,τ,μ1,sr1,mr1,p2.bind.mono λt μ' α' H' st m q v d=>⟨v,t,μ',α',rfl,st,m,d,q⟩⟩) ?_) (z7 hst) rfl
  rintro us s2 ⟨vs,H2,I2,rv,v2,t2,μ2,α2,rfl,st2,m2,d2,K0,Z0,q6,k1,k2⟩
  obtain⟨ux,rfl,rx⟩:=vals1 rv
  obtain⟨fa',kk',e',hkk',hF'⟩:=gq.1 j l ts φ α2 H2 _ hl (dz.step st2)
  cases e'
  have hE:=hF' X.A X.stack s2 I2.env0
  refine⟨hE.1,wpAny_call (codeAny_mono (hE.2 ((C.rom hc).mono hkk') ux v2 Q t2 μ2 K0 rx d2 m2 q6 (λt' μ' z α' H' v' st m dv=>k1 t' μ' z α' H' st m v' dv)) λr s' hq=>?_)⟩
  cases r with
  |error e=>
   obtain⟨_,_,_,_,_,_,_,_,_,_,_,_,_,_,_,z⟩:=hq
   exact z.elim
  |ok fl=>
   cases fl with
   |ret u=>exact I2.after hq
   |next=>exact False.elim hq
   |brk=>exact False.elim hq
   |cont=>exact False.elim hq
 unfold xD at p1
 split at p1
 ·split at p1
  ·rename_i c fs _ w hw
   obtain⟨ad,C0,dx,gs,rfl,_,_,e1,e2,l⟩:=d1
   obtain⟨y,z,hy,hz,dz⟩:=l.look hw
   obtain⟨c0,c1,c2⟩:=C.fld c C0 m n e1 hn
   rw[hy] at c0;cases c0
   exact run e2 c1 c2 hz r1 dz p1
  ·exact Post.elim p1
 ·obtain⟨c,fs,w,hi,hw,q⟩:=Post.ex3 p1
  obtain⟨ad,hi',rfl⟩:=d1
  obtain⟨C0,dx,gs,e1,e2,l⟩:=mr1.ob _ ad _ hi' hi
  obtain⟨y,z,hy,hz,dz⟩:=l.look hw
  obtain⟨c0,c1,c2⟩:=C.fld c C0 m n e1 hn
  rw[hy] at c0;cases c0
  exact run e2 c1 c2 hz r1 dz q
 ·exact Post.elim p1
end
noncomputable def Uh (ls:List LamD)(tbs:List (Addr×List Pos×Str)):Nat->Addr->Option HO->List V->Prop:=λn a ob xs=>
 (∃(j:Nat) (l:LamD) (c:Addr) (cl:List (Str×Addr)) (cs:List Addr),ls[j]?=some l/\n=300+j/\WI l.fr cl cs/\xs=.ref c::cs.map V.ref/\ob=some (.ext (jg a c l cl)))\/
 (n=200/\∃(x:V) (u:Value) (o:Obj) (u':HO),xs=[x]/\RelV x u/\o.data=.cell (some u)/\ob=some (.frz o u'))\/
 ∃(j:Nat) (q:Addr×List Pos×Str),tbs[j]?=some q/\j<100/\n=100+j/\xs=[]/\ob=some (.ext (w9 a q.2.2))
section
variable {P:Program}{w:World}{K:PySem.W.Frag}{mg:Str->Option Value}{base:Heap}{n k0:Nat}
theorem K_{A0:Ads}{x:Str}{tbs:List (Addr×List Pos×Str)}{ls:List LamD}{R:Rules}{Γ:Cn}{G:List Str}(HR:∀{D:DP},RulesOk D R)(hb:tbs.length<=100)(htb:∀l∈ls,(tbs[l.jt]?).map (·.2.2)=some l.qn)
  (M:MdOk (mkD K A0 (Uh ls tbs) λj=>tbs[j]?) P w K mg base Γ k0) (h:∀l∈ls,QZ (kr Γ l G) l=true/\(comp R n).e (kr Γ l G) l.body=some l.g):GlOkM (mkD K A0 (Uh ls tbs) λj=>tbs[j]?) P w K mg base (k0+1) x (.kap ls):=by
 have tq:∀{j:Nat} {l:LamD},ls[j]?=some l->∃P' pos,tbs[l.jt]?=some (P',pos,l.qn):=λ{j l} e=>by
  obtain⟨⟨p1,p2,p3⟩,q1,q2⟩:=Option.map_eq_some_iff.mp (htb l (List.mem_of_getElem? e))
  cases q2
  exact⟨p1,p2,q1⟩
 have lt:∀{j:Nat} {q:Addr×List Pos×Str},tbs[j]?=some q->j<100:=λe=>Nat.lt_of_lt_of_le (List.getElem?_eq_some_iff.mp e).1 hb
 refine⟨λj l ts φ α H v hl d=>?_,⟨λj l e=>tq e,λj l a c cl cs e h=>.inl ⟨j,l,c,cl,cs,e,rfl,h,rfl,rfl⟩,λc o u x ob h1 h2=>.inr (.inl ⟨rfl,x,u,o,ob,rfl,h2,h1,rfl⟩),λj P' pos qn c e=>.inr (.inr ⟨j,_,e,lt e,rfl,rfl,rfl⟩)⟩⟩
 obtain⟨a,ob,xs,rfl,hc,hob,v,q,hv,⟨c,ob2,xs2,hcv,hc2,hob2,_⟩,dl⟩:=d
 rcases hc with⟨j',l',c',cl,cs,e1,e2,cat,e3,rfl⟩|⟨z,_⟩|⟨j',q',_,hj',z,_⟩
 ·have:j=j':=by omega
  subst this
  rw[hl] at e1;cases e1
  rw[hv] at e3
  injection e3 with e4 e5
  rw[e4] at hcv
  cases hcv
  subst e5
  have hrec:ob2=some (.ext (w9 c l.qn)):=by
   obtain⟨P',pos',hq⟩:=tq hl
   have:=lt hq
   rcases hc2 with⟨j2,_,_,_,_,_,z,_⟩|⟨z,_⟩|⟨j2,q2,hq2,_,z,_,e⟩
   ·omega
   ·omega
   ·have:l.jt=j2:=by omega
    subst this
    rw[hq] at hq2;cases hq2
    exact e
  subst hrec
  refine⟨a,k0+1,rfl,Nat.le_refl _,λA outer s e0=>?_⟩
  have ha:=(hob _ rfl).2.2
  have hcc:=(hob2 _ rfl).2.2
  obtain⟨np,_⟩:=(show ObjOk P w H s.heap a (.ext (jg a c l cl)) from e0.hok a _ ha)
  obtain⟨cr,_⟩:=(show ObjOk P w H s.heap c (.ext (w9 c l.qn)) from e0.hok c _ hcc)
  refine⟨?_,λhr u x Q t μ K0 r dx mr p hK0=>?_⟩
  ·obtain⟨_,_,_,h2⟩:=np
   exact⟨_,_,_,_,h2⟩
  ·obtain⟨vs,h3,h4,h5⟩:=ym (λc ob xs hc=>by
    rcases hc with⟨j2,_,_,_,_,_,z,_⟩|⟨_,z⟩|⟨j2,q2,_,z2,z,_⟩
    ·omega
    ·exact z
    ·omega) dl
   obtain⟨g1,g2⟩:=h l (List.mem_of_getElem? hl)
   exact V7 HR M g1 g2 hr e0 np cr cat h3 h4 h5 r dx mr p hK0
 ·omega
 ·omega
end
noncomputable def eqE:Expr->Expr->Bool
 |.Name x p,.Name y q=>x == y&&p == q
 |.Attribute o x p,.Attribute u y q=>eqE o u&&x == y&&p == q
 |.Tuple [a,b] k p,.Tuple [c,d] j q=>eqE a c&&eqE b d&&k == j&&p == q
 |.Call f [a] [] p,.Call g [b] [] q=>eqE f g&&eqE a b&&p == q
 |_,_=>false
theorem UP:∀{a b:Expr},eqE a b=true->a=b:=by
 intro a b h
 fun_induction eqE a b with
 |case1 x p y q=>simp only[Bool.and_eq_true,beq_iff_eq] at h;rw[h.1,h.2]
 |case2 o x p u y q ih=>simp only[Bool.and_eq_true,beq_iff_eq] at h;rw[ih h.1.1,h.1.2,h.2]
 |case3 a b k p c d j q ih1 ih2=>simp only[Bool.and_eq_true,beq_iff_eq] at h;rw[ih1 h.1.1.1,ih2 h.1.1.2,h.1.2,h.2]
 |case4 f a p g b q ih1 ih2=>simp only[Bool.and_eq_true,beq_iff_eq] at h;rw[ih1 h.1.1,ih2 h.1.2,h.2]
 |case5=>cases h
noncomputable def Qs(y:Str)(body:Expr)(sc:Scope):List LamD->Nat->Option (Nat×LamD)
 |[],_=>none
 |l::r,i=>match l.y == y&&l.sc == sc&&eqE l.body body with
  |true=>some (i,l)
  |false=>Qs y body sc r (i+1)
theorem Z1{y:Str}{body:Expr}{sc:Scope}{l:LamD}:∀{ls:List LamD} {i j:Nat},Qs y body sc ls i=some (j,l)->i<=j/\ls[j-i]?=some l/\l.y=y/\l.sc=sc/\l.body=body
 |[],_,_,h=>by cases h
 |l'::r,i,j,h=>by
  unfold Qs at h
  split at h
  ·rename_i q
   cases h
   simp only[Bool.and_eq_true,beq_iff_eq] at q
   exact⟨Nat.le_refl _,by simp,q.1.1,q.1.2,UP q.2⟩
  ·obtain⟨h1,h2,h3⟩:=Z1 h
   refine⟨by omega,?_,h3⟩
   rw[show j-i=(j-(i+1))+1 by omega,List.getElem?_cons_succ];exact h2
noncomputable def Y_:Expr->Option (Str×Expr×Scope×Pos)
 |.Lambda ⟨[],[⟨y,none,_⟩],none,[],[],none,[]⟩ body sc pl=>some (y,body,sc,pl)
 |_=>none
theorem JR{e:Expr}{q:Str×Expr×Scope×Pos}(h:Y_ e=some q):∃pa,e=.Lambda ⟨[],[⟨q.1,none,pa⟩],none,[],[],none,[]⟩ q.2.1 q.2.2.1 q.2.2.2:=by
 unfold Y_ at h
 split at h
 ·cases h;exact⟨_,rfl⟩
 ·cases h
noncomputable def UY:GM->Option (List LamD)
 |.kap ls=>some ls
 |_=>none
theorem QJ{g:GM}{ls:List LamD}(h:UY g=some ls):g=.kap ls:=by
 cases g<;>first|(cases h;rfl)|cases h
noncomputable def Ju:ER:=λr Γ e=>(Y_ e).bind λq=>(UY (Γ.gl yX)).bind λls=>(Qs q.1 q.2.1 q.2.2.1 ls 0).bind λz=>Γ.lam.bind λp=>(vp Γ.N z.2.fr).bind λfs=>
 gd (Γ.U.contains yX&&p.1 == z.2.jt&&decide (q.2.2.2∈p.2)&&frees z.2.sc == z.2.fr&&decide (z.2.fr.Nodup)&&z.2.fr.all (λx=>Γ.fz.contains x&&Γ.cel.contains x)) (some (J5 z.2.jt z.1 fs))
theorem Vb{D:DP}:EOk D Ju:=by
 intro r H X W Γ k e d C h
 unfold Ju at h
 obtain⟨q,h1,h⟩:=bnd h
 obtain⟨ls,h2,h⟩:=bnd h
 obtain⟨⟨j,l⟩,h3,h⟩:=bnd h
 obtain⟨⟨jt,poss⟩,h4,h⟩:=bnd h
 obtain⟨fs,h5,h⟩:=bnd h
 obtain⟨hb,h⟩:=zF h
 cases h
 simp only[Bool.and_eq_true,beq_iff_eq,decide_eq_true_eq,List.all_eq_true,List.contains_iff_mem] at hb
 obtain⟨⟨⟨⟨⟨b1,b2⟩,b3⟩,b4⟩,b5⟩,b6⟩:=hb
 obtain⟨pa,rfl⟩:=JR h1
 obtain⟨_,e1,e2,e3,e4⟩:=Z1 h3
 subst b2
 rw[←e2,←e3,←e4]
 exact KD C h4 b3 b1 (QJ h2) (by simpa using e1) b4 b5 b6 h5
noncomputable def z0p:ER:=λr Γ e=>match e with
 |.Call (.Attribute o m pa) [a] [] pc=>(UY (Γ.gl yX)).bind λls=>gd (qc o&&pa.endLine == pc.line&&Γ.calm&&noStar a&&Γ.U.contains yX&&m == ("keeper":Str)) ((r.e Γ o).bind λgo=>(r.e Γ a).bind λf=>(Γ.fld.lookup m).bind λn=>some (UQ (ls.map λl=>(l.jt,l.g)) n go f))
 |_=>none
theorem Xd{D:DP}:EOk D z0p:=by
 intro r H X W Γ k e d C h
 unfold z0p at h
 split at h
 ·obtain⟨ls,h1,h⟩:=bnd h
  obtain⟨hb,h⟩:=zF h
  simp only[Bool.and_eq_true] at hb
  obtain⟨⟨⟨⟨⟨h0,h1'⟩,h2⟩,h3⟩,h4⟩,h5⟩:=hb
  obtain⟨go,e1,h⟩:=bnd h
  obtain⟨f,e2,h⟩:=bnd h
  obtain⟨n,e3,h⟩:=bnd h
  cases h
  exact YJ C (by simpa using h4) (QJ h1) (xc e3) h2 h0 h1' h3 (H.e C e1) (H.e C e2)
 ·cases h
end NH
namespace NH
open PySem PySem.Spec PyProof.Rows L2 PySem.W
noncomputable def qv (K:Frag)(x:Str)(st:Stmt):Prop:=∃f fd,nsIn K mainGlobals x=some (some (.ref f))/\Fun K x x st f fd
noncomputable def j4 (K:Frag)(C:Addr)(x q:Str)(st:Stmt):Prop:=∃f fd,findIn K (.ref C) x=some (some (.ref f))/\isFn K (.ref f)=true/\Fun K x q st f fd
noncomputable def KU (K:Frag)(C:Addr)(x q:Str)(st:Stmt):Prop:=∃f fd,nsIn K mainGlobals x=some (some (.ref C))/\findIn K (.ref C) "__init__"=some (some (.ref f))/\isFn K (.ref f)=true/\Fun K "__init__" q st f fd/\makesIn K C=true/\keepIn K (.ref C)=true
theorem dfp{K:Frag}{x:Str}{st:Stmt}{f:Addr}{oc:Value}{od an:Option Addr}{osl:Array (Option Value)}{kV doc pm cdv ct:Value}(a:nsIn K mainGlobals x=some (some (.ref f)))(l:K.lookup f=some ⟨oc,od,.func (fnOf x x (zz st) (z5 st) (zh st) .none kV doc pm an cdv ct),osl⟩)(c:codeIn K cdv x=true)(k:keepIn K (.ref f)=true):qv K x st:=⟨f,_,a,xJ l c k⟩
theorem mtp{K:Frag}{x q:Str}{st:Stmt}{f C:Addr}{oc:Value}{od an:Option Addr}{osl:Array (Option Value)}{kV doc pm cdv ct:Value}(a:findIn K (.ref C) x=some (some (.ref f)))(j:isFn K (.ref f)=true)(l:K.lookup f=some ⟨oc,od,.func (fnOf x q (zz st) (z5 st) (zh st) .none kV doc pm an cdv ct),osl⟩)(c:codeIn K cdv q=true)(k:keepIn K (.ref f)=true):j4 K C x q st:=⟨f,_,a,j,xJ l c k⟩
theorem clp {K:Frag} {x q:Str} {st:Stmt} {f C:Addr} {oc:Value} {od an:Option Addr} {osl:Array (Option Value)} {kV doc pm cdv ct:Value} (a:nsIn K mainGlobals x=some (some (.ref C))) (i:findIn K (.ref C) "__init__"=some (some (.ref f))) (j:isFn K (.ref f)=true) (l:K.lookup f=some ⟨oc,od,.func (fnOf "__init__" q (zz st) (z5 st) (zh st) .none kV doc pm an cdv ct),osl⟩) (c:codeIn K cdv q=true) (k:keepIn K (.ref f)=true) (m:makesIn K C=true) (kk:keepIn K (.ref C)=true):KU K C x q st:=⟨f,_,a,i,j,xJ l c k,m,kk⟩
noncomputable def PL:Nat->(List Value->Prop)->Prop
 |0,P=>P []
 |n+1,P=>∀a,PL n λl=>P (a::l)
theorem PL.all:∀{n:Nat} {P:List Value->Prop},PL n P->∀us:List Value,us.length=n->P us
 |0,_,h,[],_=>h
 |_+1,_,h,a::l,e=>PL.all (h a) l (Nat.succ.inj e)
abbrev BdP(x q:Str)(st:Stmt)(ps:List Str):Prop:=∀(kV doc pm:Value) (an:Option Addr) (cdv ct:Value),PL ps.length λus=>bindArgs (fnOf x q (zz st) (z5 st) (zh st) .none kV doc pm an cdv ct) ⟨us,[]⟩=pure (ps.zip us)
abbrev GsB(l:OpenLaw)(w:World)(K:Frag)(mg:Str->Option Value)(base:Heap)(k:Nat)(gs:List (Str×GM)){A:Ads}{clo:Nat->Addr->Option HO->List V->Prop}{tabs:Nat->Option (Addr×List Pos×Str)}:Prop:=GsOk l.prog w K mg base A clo k gs tabs
structure Pk(R:Rules)(K:Frag)(mg:Str->Option Value)(base:Heap)(A:Ads)(cls fld:List (Str×Nat)):Prop where
 r:∀{D},RulesOk D R
 i:K.In base
 n:base.Ns mainGlobals mg
 c:chk K A cls fld=true
section
variable {R:Rules}{P:Program}{w:World}{K:Frag}{mg:Str->Option Value}{base:Heap}{A:Ads}{cls fld:List (Str×Nat)}{clo:Nat->Addr->Option HO->List V->Prop}{gs:List (Str×GM)}{tabs:Nat->Option (Addr×List Pos×Str)}{k:Nat}{x qu:Str}{st:Stmt}{f C:Addr}{fd:FuncData}{ps N G cel own:List Str}{m n:Nat}{ds:List Ds}
theorem Pk.ok(Z:Pk R K mg base A cls fld)(F:Fun K x qu st f fd)(q:GsOk P w K mg base A clo k gs tabs)(hds:zx ((comp R n).s (cn cls fld gs N G cel own none)) (z5 st)=some ds)(hs:Z8 (cn cls fld gs N G cel own none) ps (zh st)=true)(hm:N.length=ps.length+m) :
  FnOk P w K mg base (CX1 P w) (k+1) f fd ps (spN (mkD K A clo tabs) ps.length (fnW ps.length m ds)):=by
 obtain⟨oc,od,kV,doc,pm,an,cdv,ct,osl,rfl,lk,hcd⟩:=F.ex
 exact jd Z.r (xk Z.i Z.n Z.c q) lk hcd hs hm hds
theorem Pk.fn (Z:Pk R K mg base A cls fld) (p:qv K x st) (q:GsOk P w K mg base A clo k gs tabs) (hds:zx ((comp R n).s (cn cls fld gs N G cel own none)) (z5 st)=some ds) (hs:Z8 (cn cls fld gs N G cel own none) ps (zh st)=true) (hm:N.length=ps.length+m) (hb:BdP x x st ps) (hx:(x == ("__debug__":Str))=false) :
  GsOk P w K mg base A clo (k+1) ((x,GM.fn (fnW ps.length m ds))::gs) tabs:=by
 obtain⟨f,fd,a,F⟩:=p
 exact GsOk.add (q.mono (Nat.le_succ k)) ⟨f,mg_of Z.i Z.n a,fd,ps,k+1,F.kp,F.binds λkV dc pm an cd ct=>(hb kV dc pm an cd ct).all,Nat.le_refl _,Z.ok F q hds hs hm,ql⟩ hx
theorem Pk.met {c:Nat} (Z:Pk R K mg base A cls fld) (p:j4 K C x qu st) (q:GsOk P w K mg base A clo k gs tabs) (hds:zx ((comp R n).s (cn cls fld gs N G cel own none)) (z5 st)=some ds) (hc:A.cs.lookup c=some C) (hn:(FLD.contains x)=false) (hs:Z8 (cn cls fld gs N G cel own none) ps (zh st)=true) (hm:N.length=ps.length+m) (hb:BdP x qu st ps) (hx:(dot x == ("__debug__":Str))=false) :
  GsOk P w K mg base A clo (k+1) ((dot x,GM.met c x (fnW ps.length m ds))::gs) tabs:=by
 obtain⟨f,fd,i,j,F⟩:=p
 refine GsOk.add (q.mono (Nat.le_succ k)) ⟨C,f,fd,ps,k+1,hc,vI Z.c hc,⟨i,j,F.kp⟩,λi h=>?_,F.binds λkV dc pm an cd ct=>(hb kV dc pm an cd ct).all,Nat.le_refl _,Z.ok F q hds hs hm,ql⟩ hx
 have:=List.contains_iff_mem.mpr (List.mem_of_getElem? (show FLD[i]?=some x from h))
 rw[hn] at this;cases this
theorem Pk.cl {c:Nat} {b:Bool} (Z:Pk R K mg base A cls fld) (p:KU K C x qu st) (q:GsOk P w K mg base A clo k gs tabs) (hds:zx ((comp R n).s (cn cls fld gs N G cel own none)) (z5 st)=some ds) (hc:A.cs.lookup c=some C) (hs:Z8 (cn cls fld gs N G cel own none) ps (zh st)=true) (hm:N.length=ps.length+m) (hb:BdP "__init__" qu st ps) (hx:(x == ("__debug__":Str))=false) :
  GsOk P w K mg base A clo (k+2) ((x,GM.mk c b (fnW ps.length m ds))::gs) tabs:=by
 obtain⟨f,fd,a,i,j,F,mk,kk⟩:=p
 exact GsOk.add (q.mono (Nat.le_add_right k 2)) ⟨C,f,fd,ps,k+1,hc,mg_of Z.i Z.n a,⟨mk,i,j,kk⟩,F.binds λkV dc pm an cd ct=>(hb kV dc pm an cd ct).all,Nat.le_refl _,Z.ok F q hds hs hm,ql⟩ hx
end
end NH
namespace NH
open PySem PySem.Spec PyProof.Rows L2
noncomputable def sIx(l:List Stmt)(i:Nat):Stmt:=l.getD i (.Pass ⟨0,0,0,0⟩)
noncomputable def z1_:Stmt->Expr
 |.Assign _ e _=>e
 |.Return (some e) _=>e
 |.Expr e _=>e
 |_=>.Name "" ⟨0,0,0,0⟩
noncomputable def z28(e:Expr)(i:Nat):Expr:=match e with
 |.Call _ as _ _=>as.getD i e
 |_=>e
noncomputable def z25:Expr->Expr
 |.Lambda _ b _ _=>b
 |e=>e
noncomputable def z1H:Expr->Scope
 |.Lambda _ _ s _=>s
 |_=>⟨.function,[],false,false,[]⟩
noncomputable def AllL{β:Type}(P:β->Prop):List β->Prop
 |[]=>True
 |a::r=>P a/\AllL P r
theorem AllL.mem{β:Type}{P:β->Prop}:∀{ls:List β},AllL P ls->∀l∈ls,P l
 |[],_,_,h=>absurd h (by simp)
 |a::r,q,l,h=>(List.mem_cons.mp h).elim (λe=>e▸q.1) λh=>AllL.mem q.2 l h
theorem z0u{D:DP}{P:Program}{w:World}{K:PySem.W.Frag}{mg:Str->Option Value}{base:Heap}{Γ:Cn}{k:Nat}{F:List Str}(M:MdOk D P w K mg base Γ k):MdOk D P w K mg base {Γ with fz:=F} k:=⟨M.hK,M.glo,M.isi,M.fld,M.xcx,M.ocx,M.clv,M.xmt⟩
theorem US{R:Rules}{D:DP}{P:Program}{w:World}{K:PySem.W.Frag}{mg:Str->Option Value}{base:Heap}{Γ:Cn}{n k:Nat}(HR:RulesOk D R){f:Addr}{name qual:Str}{params:Arguments}{body:List Stmt}{scope:Scope}{dV kV doc pm cdv ct oc:Value}{an od:Option Addr}{osl:Array (Option Value)}{ps:List Str}{m cut:Nat}{ds:List Ds}
  (M:MdOk D P w K mg base Γ k) (lk:K.lookup f=some ⟨oc,od,.func (PySem.W.fnOf name qual params body scope dV kV doc pm an cdv ct),osl⟩) (hcd:PySem.W.codeIn K cdv qual=true) (hs:Z8 Γ ps scope=true) (hm:Γ.N.length=ps.length+m) (hd1:zx ((comp R n).s {Γ with fz:=[]}) (body.take cut)=some (ds.take cut)) (hds:zx ((comp R n).s Γ) (body.drop cut)=some (ds.drop cut)) (hlam:LamOk D mg base cdv (qual++".<locals>.") k Γ.lam) :
  FnOk P w K mg base (CX1 P w) (k+1) f (PySem.W.fnOf name qual params body scope dV kV doc pm an cdv ct) ps (spN D ps.length (fnW ps.length m ds)):=by
 have:=Zd HR M lk hcd hs hm (List.take_append_drop cut body).symm hd1 hds hlam
 rwa[List.take_append_drop] at this
end NH
namespace NH.P
open PySem L2 NH
@[reducible] noncomputable def vg:List Ds:=[(sIf (tE (zj .Eq (zE [(eV 1),(eV 2)]) (zt 45 qt (eV 0) []))) [Vd] []),(qq (eV 0) 20 (eC (.bl true))),(zo (UQ [(0,(wX (eV 1) (zE [(eV 0),(eB1 wM (eV 2))])))] 16 (eV 0) (zE [(eV 1),(eV 2)]))),(qq (eV 0) 20 (eC (.bl false))),(qq (eV 0) 6 (eV 1)),(qq (eV 0) 17 (eV 2))]
noncomputable def zW:Fn:=fnW 3 0 vg
@[reducible] noncomputable def qy:List Ds:=[(zo (zt 45 zK (eV 0) [])),(zo (zd qV [(ze (eV 0) 9),(eV 1)])),(zo (zt 45 zW (eV 0) [(eV 1),(ze (eV 0) 17)]))]
noncomputable def zw:Fn:=fnW 2 0 qy
@[reducible] noncomputable def qP:List Ds:=[(zo (zt 45 zK (eV 0) [])),(zf 3 (zt 45 qb (eV 0) [(eV 1),(eV 2)])),(zo (zt 45 zW (eV 0) [(ze (eV 0) 6),(zt 45 zY (eV 0) [(zb .FloorDiv (zb .Sub (ze (eV 3) 13) (eC (.int 1))) (ze (ze (eV 0) 9) 2))])])),(qq (eV 0) 18 (zd vY [(ze (eV 0) 9),(ze (eV 3) 11),(zb .Sub (ze (eV 3) 13) (eC (.int 1)))])),(zG (eV 3))]
noncomputable def zP:Fn:=fnW 3 1 qP
@[reducible] noncomputable def vC:List Ds:=[(zf 3 (zt 45 zP (eV 0) [(eV 1),(eV 2)])),(qq (eV 0) 19 (ke [])),(zG (zd zS [(ze (eV 0) 9),(eV 3)]))]
noncomputable def zD:Fn:=fnW 3 1 vC
@[reducible] noncomputable def wW:List Ds:=[(zf 3 (zt 45 zP (eV 0) [(eV 1),(eV 2)])),(zo (wX (ze (eV 0) 19) (eV 3))),(zG (zd wk [(ze (eV 0) 19)]))]
noncomputable def zv:Fn:=fnW 3 1 wW
@[reducible] noncomputable def qF:List Ds:=[(zo (zt 45 zK (eV 0) [])),(zo (zt 45 zA (eV 0) [])),(zf 1 (zE [(ze (eV 0) 6),(zd kf [(ze (eV 0) 6),(zt 45 zX (eV 0) [])])])),(zo (zt 45 zW (eV 0) [(eC .non),(ze (eV 0) 17)])),(qq (eV 0) 19 (ke [])),(zG (eV 1))]
noncomputable def zM:Fn:=fnW 1 1 qF
@[reducible] noncomputable def jO:List Ds:=[(zf 7 (ke [])),(zf 8 (zE [(eC .non),(eC .non)])),(zf 9 (eC (.int 0))),(zf 10 (eC (.int 0))),(Jb (.one 11) (iE (eV 6)) [(zf 12 (zd wb [(eV 11)])),(zf 13 (zd zN [(eV 12),(eC (.int 8))])),(zf 14 (zb .Add (eC (.int 1)) (zd zN [(eV 12),(eIx (eV 1) (eC (.int 2)))]))),(sIf (vx (tE (zj .Eq (eV 13) (eC (.int 7)))) (tE (zj .IsNot (eIx (eV 8) (eC (.int 0))) (eC .non)))) [(zf 8 (zE [(eC .non),(eIx (eV 8) (eC (.int 1)))])),(zo (wX (eV 7) (zE [(eV 8),(eB1 wM (eV 4))]))),(sIf (tE (zj .NotEq (eIx (zt 45 zM (eV 0) []) (eC (.int 0))) (zE [(eV 3),(eC (.int 0)),(eIx (eV 1) (eC (.int 0)))]))) [(zG (eC (.bl false)))] []),(zf 10 (eC (.int 0)))] [(sIf (tOr (tE (zj .Eq (eV 13) (eC (.int 6)))) (tE (zj .Is (eIx (eV 8) (eC (.int 0))) (eC .non)))) [(sIf (tE (zj .Is (eIx (eV 8) (eC (.int 0))) (eC .non))) [(zo (wX (eV 7) (zE [(zE [(zE [(eV 3),(eC (.int 0)),(eIx (eV 1) (eC (.int 0)))]),(eIx (eV 8) (eC (.int 1)))]),(eB1 wM (eV 4))])))] []),(zf 8 (zE [(zE [(eV 3),(eC (.int 0)),(eIx (eV 1) (eC (.int 0)))]),(eIx (eV 8) (eC (.int 1)))])),(zo (zt 45 zw (eV 0) [(zE [(eV 3),(eC (.int 0)),(eIx (eV 1) (eC (.int 0)))])]))] [(sIf (vx (tE (zj .Eq (eV 13) (eC (.int 5)))) (tE (zj .Gt (eV 10) (eC (.int 0))))) [(zo (ju (eV 4) (zt 45 zV (eV 0) [(eC (.int 1))]))),(zf 10 (zb .Sub (eV 10) (eC (.int 1))))] [(sIf (tE (zj .Lt (zb .FloorDiv (zb .Sub (zb .Add (eV 9) (eV 14)) (eC (.int 1))) (eIx (eV 1) (eC (.int 2)))) (eIx (eV 1) (eC (.int 0))))) [(zf 15 (zb .FloorDiv (zb .Sub (zb .Add (eV 9) (eV 14)) (eC (.int 1))) (eIx (eV 1) (eC (.int 2))))),(sIf (tOr (tE (zj .Is (eIx (eV 8) (eC (.int 1))) (eC .non))) (tE (zj .Gt (eV 15) (eIx (eV 8) (eC (.int 1)))))) [(zf 8 (zE [(eIx (eV 8) (eC (.int 0))),(eB2 v5 (zb .Add (eV 15) (eV 2)) (zb .Sub (eIx (eV 1) (eC (.int 0))) (eC (.int 1))))])),(zo (wX (eV 7) (zE [(eV 8),(eB1 wM (eV 4))])))] []),(zf 9 (zb .Add (eV 9) (eV 14))),(sIf (tE (zj .Lt (eV 13) (eC (.int 2)))) [(zf 10 (zt 45 zv (eV 0) [(eC (.int 0)),(eV 14)]))] [(zo (ju (eV 4) (zt 45 zD (eV 0) [(eC (.int 0)),(eV 14)]))),(zf 10 (eC (.int 0)))])] [])])])]),(sIf (tOr (tE (zj .NotEq (eV 5) (eV 7))) (tE (zj .NotEq (zt 45 qt (eV 0) []) (eV 8)))) [(zG (eC (.bl false)))] [])]),(zG (eOr (zj .Eq (eV 9) (eC (.int 0))) (zj .Eq (zt 45 wy (eV 0) []) (zd QA [(eV 1),(eV 3),(zb .Sub (eV 9) (eC (.int 1)))]))))]
noncomputable def wo:Fn:=fnW 7 9 jO
@[reducible] noncomputable def vn:List Ds:=[(zf 1 (zd wb [(zd wc [(eV 0),(eC (.int 0))])])),(zf 2 (zE [(zb .Add (eC (.int 60)) (zd zN [(eV 1),(eC (.int 300))])),(zb .Add (eC (.int 1)) (zd zN [(eV 1),(eC (.int 3))])),(zb .Add (eC (.int 1)) (zd zN [(eV 1),(eC (.int 5))]))])),(zf 3 (eIx (X1 [(eC (.int 0)),(zd zN [(eV 1),(eC (.int 9))]),(zd zN [(eV 1),(eC (.int 500))])]) (zd zN [(eV 1),(eC (.int 3))]))),(zf 4 (zd zN [(eV 1),(eIx (eV 2) (eC (.int 1)))])),(zf 7 (ke [])),(zf 6 (ke [])),(zf 5 (Yv 45 qa [(eMk 40 wU [(eIx (eV 2) (eC (.int 0))),(eIx (eV 2) (eC (.int 1))),(eIx (eV 2) (eC (.int 2)))]),(eC (.int 400)),(eV 3),(J5 0 0 [6,7])])),(zG (zd wo [(eV 5),(eV 2),(eV 3),(eV 4),(eV 7),(eV 6),(zb .Add (X1 [(zd wc [(eV 0),(eC (.int 1))])]) (eSl (eV 0) (pS (eC (.int 2))) (pS (eC (.int 30)))))]))]
noncomputable def ji:Fn:=fnW 1 7 vn
end NH.P
namespace NH.K42
open PySem PySem.Spec PyProof.Rows L2 NH NH.P
noncomputable def st(i:Nat):Stmt:=PySem.Challenge.pw_namehouses_k42_notes_kept.main.body.getD i (.Pass ⟨0,0,0,0⟩)
noncomputable def cls:List (Str×Nat):=[("bool",1),("int",2),("tuple",4)]
noncomputable def fld:List (Str×Nat):=[("moments",0),("houses",1),("counts",2),("lease",6),("shape",9),("house",11),("begin",12),("end",13),("ahead",14),("stride",15),("keeper",16),("mark",17),("newest",18),("batches",19),("has_fallen",20),("by",29)]
noncomputable def RU:Rules:=⟨[z0p,Ju,z0h,z0N,Y4,z0Y,rUn,XR,z1b,z1r,z0V,UE,z0v,YY,z0_,U0,z1B,Jj,XU,XN,z1m,Ub,Yr],[XQ],[V4],[VA,riE],[ZC,XE,ZR],[XB,XZ,z14,XG,Xz,JG,ZV]⟩
theorem xg{D:DP}:RulesOk D RU:=⟨⟨Xd,Vb,Km,K2,JV,Xs,z0c,Jv,Xo,KC,KG,Kc,JW,KA,Ky,Xm,Xv,Vt,Jk,VE,Kb,Xr,Ko,trivial⟩,⟨JI,trivial⟩,⟨Wl,trivial⟩,⟨Vj,Yc,trivial⟩,⟨Wo,V1,WQ,trivial⟩,⟨Jd,Vq,Kh,VV,Jg,V6,Wk,trivial⟩⟩
noncomputable def gs0:List (Str×GM):=QC ["ValueError","bool","int","isinstance","len","max","min","range","sum","tuple"] [("HouseError",10),("NoShape",12),("NoName",13),("NoTime",16),("NoLease",18),("TooMany",20),("Empty",22),("NoNote",23),("Fallen",24)] [("Wait",21,29)]
noncomputable def qU:=inClass (st 7) 0
noncomputable def gs1:List (Str×GM):=(hash "Wait",GM.xin 21 29 "Wait" "by")::gs0
noncomputable def gs2:List (Str×GM):=(hash "by",GM.xin 21 29 "Wait" "by")::gs1
noncomputable def kB:=st 12
noncomputable def Qd:Cn:=cn cls fld gs2 ["thing"] ["isinstance","int","bool"] [] []
theorem Zw:zx ((comp RU 60).s Qd) (z5 kB)=some xb:=by kernel_rfl
noncomputable def gs3:List (Str×GM):=("is_whole",GM.fn qx)::gs2
noncomputable def yj:=st 13
noncomputable def Wr:Cn:=cn cls fld gs3 ["thing"] ["is_whole"] [] []
theorem WD:zx ((comp RU 60).s Wr) (z5 yj)=some yf:=by kernel_rfl
noncomputable def gs4:List (Str×GM):=("is_size",GM.fn qX)::gs3
noncomputable def we:=st 14
noncomputable def jB:Cn:=cn cls fld gs4 ["thing"] ["is_whole"] [] []
theorem jJ:zx ((comp RU 60).s jB) (z5 we)=some wm:=by kernel_rfl
noncomputable def gs5:List (Str×GM):=("is_from_nought",GM.fn zZ)::gs4
noncomputable def xx:=st 15
noncomputable def Qp:Cn:=cn cls fld gs5 ["thing","bound"] ["is_whole"] [] []
theorem Qg:zx ((comp RU 60).s Qp) (z5 xx)=some xa:=by kernel_rfl
noncomputable def gs6:List (Str×GM):=("is_below",GM.fn qk)::gs5
noncomputable def j5:=inClass (st 16) 0
noncomputable def yW:Cn:=cn cls fld gs6 ["self","moments","houses","counts"] ["is_size","NoShape"] [] []
theorem um:zx ((comp RU 60).s yW) (z5 j5)=some jk:=by kernel_rfl
noncomputable def gs7:List (Str×GM):=("Shape",GM.mk 40 true wU)::gs6
noncomputable def xG:=st 17
noncomputable def ZZ:Cn:=cn cls fld gs7 ["shape"] [] [] []
theorem ZI:zx ((comp RU 60).s ZZ) (z5 xG)=some kz:=by kernel_rfl
noncomputable def gs8:List (Str×GM):=("names_in",GM.fn jo)::gs7
noncomputable def yp:=st 18
noncomputable def Wy:Cn:=cn cls fld gs8 ["shape","thing"] ["is_below","names_in"] [] []
theorem Wg:zx ((comp RU 60).s Wy) (z5 yp)=some yA:=by kernel_rfl
noncomputable def gs9:List (Str×GM):=("is_name",GM.fn kq)::gs8
noncomputable def jb:=st 19
noncomputable def y_:Cn:=cn cls fld gs9 ["shape","thing"] ["is_name","NoName"] [] []
theorem ua:zx ((comp RU 60).s y_) (z5 jb)=some je:=by kernel_rfl
noncomputable def Yx:List (Str×GM):=("check_name",GM.fn wC)::gs9
noncomputable def jf:=st 20
noncomputable def yQ:Cn:=cn cls fld Yx ["thing","bound"] ["is_below","NoName"] [] []
theorem uA:zx ((comp RU 60).s yQ) (z5 jf)=some vV:=by kernel_rfl
noncomputable def YW:List (Str×GM):=("check_part",GM.fn qr)::Yx
noncomputable def yv:=st 21
noncomputable def Wi:Cn:=cn cls fld YW ["shape","moment","house","count"] ["check_part"] [] []
theorem Wq:zx ((comp RU 60).s Wi) (z5 yv)=some y9:=by kernel_rfl
noncomputable def U3:List (Str×GM):=("name_of",GM.fn km)::YW
noncomputable def kC:=st 22
noncomputable def ZX:Cn:=cn cls fld U3 ["shape","name","count","above"] ["check_name"] [] []
theorem Qi:zx ((comp RU 60).s ZX) (z5 kC)=some xv:=by kernel_rfl
noncomputable def z1C:List (Str×GM):=("parts_of",GM.fn vh)::U3
noncomputable def z0R:List (Str×GM):=("HOUSE",GM.cst (.int 0))::z1C
noncomputable def z0I:List (Str×GM):=("FIRST",GM.cst (.int 1))::z0R
noncomputable def UJ:List (Str×GM):=("UNTIL",GM.cst (.int 2))::z0I
noncomputable def xK:=st 27
noncomputable def Q8:Cn:=cn cls fld UJ ["shape","thing"] ["isinstance","tuple","len","is_below","HOUSE","is_whole","FIRST","UNTIL"] [] []
theorem Qa:zx ((comp RU 60).s Q8) (z5 xK)=some xA:=by kernel_rfl
noncomputable def Y9:List (Str×GM):=("is_lease",GM.fn vc)::UJ
noncomputable def vA:=st 28
noncomputable def xP:Cn:=cn cls fld Y9 ["shape","thing"] ["is_lease","NoLease"] [] []
theorem x_:zx ((comp RU 60).s xP) (z5 vA)=some vB:=by kernel_rfl
noncomputable def Uv:List (Str×GM):=("check_lease",GM.fn qV)::Y9
noncomputable def yi:=st 29
noncomputable def Ww:Cn:=cn cls fld Uv ["lease","moment"] ["FIRST","min","UNTIL"] [] []
theorem Wm:zx ((comp RU 60).s Ww) (z5 yi)=some yC:=by kernel_rfl
noncomputable def YH:List (Str×GM):=("used_of",GM.fn kf)::Uv
noncomputable def yd:=st 31
noncomputable def Wd:Cn:=cn cls fld YH ["shape","thing"] ["isinstance","tuple","len","is_lease","is_below"] [] []
theorem WU:zx ((comp RU 60).s Wd) (z5 yd)=some yw:=by kernel_rfl
noncomputable def Uu:List (Str×GM):=("is_note",GM.fn QP)::YH
noncomputable def jq:=inClass (st 32) 0
noncomputable def uh:Cn:=cn cls fld Uu ["self","house","begin","end"] [] [] []
theorem ui:zx ((comp RU 60).s uh) (z5 jq)=some vZ:=by kernel_rfl
noncomputable def Yb:List (Str×GM):=("Batch",GM.mk 44 true qw)::Uu
noncomputable def yx:=st 33
noncomputable def Wf:Cn:=cn cls fld Yb ["shape","house","place"] ["name_of"] [] []
theorem WN:zx ((comp RU 60).s Wf) (z5 yx)=some yH:=by kernel_rfl
noncomputable def Ue:List (Str×GM):=("name_at",GM.fn vY)::Yb
noncomputable def qR:=st 34
noncomputable def vQ:Cn:=cn cls fld Ue ["shape","batch"] ["range"] ["shape","batch"] ["return"]
theorem vU:zx ((comp RU 60).s vQ) (z5 qR)=some qQ:=by kernel_rfl
noncomputable def UC:List (Str×GM):=("names_of_batch",GM.fn zS)::Ue
noncomputable def jL:=st 35
noncomputable def Z7:Cn:=cn cls fld UC ["batches"] ["sum"] [] []
theorem Zb:zx ((comp RU 60).s Z7) (z5 jL)=some jU:=by kernel_rfl
noncomputable def U8:List (Str×GM):=("size_of",GM.fn wk)::UC
noncomputable def uI:=st 36
noncomputable def Vi:Cn:=cn cls fld U8 ["batches","many","firsts","others","rest","batch","middle"] ["min","Batch"] [] ["firsts","others","return"]
theorem Vm:zx ((comp RU 60).s Vi) (z5 uI)=some Zv:=by kernel_rfl
noncomputable def z0d:List (Str×GM):=("parted",GM.fn parted)::U8
noncomputable def vD:=st 37
noncomputable def xN:Cn:=cn cls fld z0d ["shape","house","name","parts"] ["parts_of"] [] []
theorem xT:zx ((comp RU 60).s xN) (z5 vD)=some vE:=by kernel_rfl
noncomputable def Y7:List (Str×GM):=("place_above",GM.fn q_)::z0d
noncomputable def z0U:Expr:=(z28 (z1_ (sIx (z5 (st 46)) 6)) 3)
noncomputable def z1d:LamD:=⟨0,((("law":Str)++".<locals>.")++"<lambda>"),"_law_note",z25 z0U,z1H z0U,["_law_calls","_law_told"],(wX (eV 1) (zE [(eV 0),(eB1 wM (eV 2))]))⟩
noncomputable def Kz:List LamD:=[z1d]
noncomputable def Jf:Cn:=cn cls fld Y7 [] ["len"] [] []
theorem z00:AllL (λl=>QZ (kr Jf l ["len"]) l=true/\(comp RU 60).e (kr Jf l ["len"]) l.body=some l.g) Kz:=⟨⟨by kernel_rfl,by kernel_rfl⟩,trivial⟩
noncomputable def UT:List (Str×GM):=(yX,GM.kap Kz)::Y7
noncomputable def zu:=inClass (st 38) 0
noncomputable def kO:Cn:=cn cls fld UT ["self","shape","ahead","stride","keeper","note"] ["is_from_nought","NoTime","is_note","NoNote"] [] ["batches"]
theorem kA:zx ((comp RU 60).s kO) (z5 zu)=some ve:=by kernel_rfl
noncomputable def z1u:List (Str×GM):=("House",GM.mk 45 false qa)::UT
noncomputable def z0q:List (Str×GM):=(til "House",GM.mkd 45 "House" 4 qa)::z1u
noncomputable def wq:=inClass (st 38) 8
noncomputable def jw:Cn:=cn cls fld z0q ["self"] ["Fallen"] [] []
theorem jE:zx ((comp RU 60).s jw) (z5 wq)=some wu:=by kernel_rfl
noncomputable def UR:List (Str×GM):=(dot "check_up",GM.met 45 "check_up" zK)::z0q
noncomputable def j0:=inClass (st 38) 7
noncomputable def yJ:Cn:=cn cls fld UR ["self"] [] [] []
theorem uv:zx ((comp RU 60).s yJ) (z5 j0)=some j9:=by kernel_rfl
noncomputable def U7:List (Str×GM):=(dot "note",GM.met 45 "note" qt)::UR
noncomputable def wZ:=inClass (st 38) 15
noncomputable def xf:Cn:=cn cls fld U7 ["self","lease","mark"] [] [] []
theorem kU:zx ((comp RU 60).s xf) (z5 wZ)=some vg:=by kernel_rfl
noncomputable def z0s:List (Str×GM):=(dot "keep",GM.met 45 "keep" zW)::U7
noncomputable def qA:=inClass (st 38) 1
noncomputable def vf:Cn:=cn cls fld z0s ["self","lease"] ["check_lease"] [] []
theorem vb:zx ((comp RU 60).s vf) (z5 qA)=some qy:=by kernel_rfl
noncomputable def z0e:List (Str×GM):=(dot "take_lease",GM.met 45 "take_lease" zw)::z0s
noncomputable def qi:=inClass (st 38) 9
noncomputable def wt:Cn:=cn cls fld z0e ["self"] ["NoLease"] [] []
theorem wd:zx ((comp RU 60).s wt) (z5 qi)=some qj:=by kernel_rfl
noncomputable def Y6:List (Str×GM):=(dot "check_has_lease",GM.met 45 "check_has_lease" zA)::z0e
noncomputable def qM:=inClass (st 38) 13
noncomputable def vR:Cn:=cn cls fld Y6 ["self"] ["place_above","HOUSE"] [] []
theorem vM:zx ((comp RU 60).s vR) (z5 qM)=some qS:=by kernel_rfl
noncomputable def YM:List (Str×GM):=(dot "free_place",GM.met 45 "free_place" z_)::Y6
noncomputable def qL:=inClass (st 38) 12
noncomputable def vF:Cn:=cn cls fld YM ["self","reading","many","least","begin","end","by"] ["is_size","TooMany","is_whole","NoTime","max","FIRST","UNTIL","NoLease","Wait","Batch","HOUSE"] [] []
theorem vO:zx ((comp RU 60).s vF) (z5 qL)=some qO:=by kernel_rfl
noncomputable def Y3:List (Str×GM):=(dot "next_batch",GM.met 45 "next_batch" qb)::YM
noncomputable def qD:=inClass (st 38) 14
noncomputable def vw:Cn:=cn cls fld Y3 ["self","moment"] ["min"] [] []
theorem vz:zx ((comp RU 60).s vw) (z5 qD)=some qf:=by kernel_rfl
noncomputable def Ug:List (Str×GM):=(dot "mark_behind",GM.met 45 "mark_behind" zY)::Y3
noncomputable def qN:=inClass (st 38) 11
noncomputable def vN:Cn:=cn cls fld Ug ["self","reading","many","batch"] ["name_at"] [] []
theorem vT:zx ((comp RU 60).s vN) (z5 qN)=some qP:=by kernel_rfl
noncomputable def Yi:List (Str×GM):=(dot "hand_out",GM.met 45 "hand_out" zP)::Ug
noncomputable def zy:=inClass (st 38) 2
noncomputable def xQ:Cn:=cn cls fld Yi ["self","reading","many","batch"] ["names_of_batch"] [] ["batches"]
theorem xX:zx ((comp RU 60).s xQ) (z5 zy)=some vC:=by kernel_rfl
noncomputable def z1s:List (Str×GM):=(dot "ask",GM.met 45 "ask" zD)::Yi
noncomputable def z06:List (Str×GM):=(til (dot "ask"),GM.metd 45 "ask" 1 (.int 1) zD)::z1s
noncomputable def zm:=inClass (st 38) 3
noncomputable def k7:Cn:=cn cls fld z06 ["self","reading","many","batch"] ["size_of"] [] []
theorem k6:zx ((comp RU 60).s k7) (z5 zm)=some wW:=by kernel_rfl
noncomputable def z0A:List (Str×GM):=(dot "store",GM.met 45 "store" zv)::z06
noncomputable def UU:List (Str×GM):=(til (dot "store"),GM.metd 45 "store" 1 (.int 1) zv)::z0A
noncomputable def zC:=inClass (st 38) 4
noncomputable def uF:Cn:=cn cls fld UU ["self","many","parts","names","batch"] ["is_size","TooMany","size_of","Empty","parted","names_of_batch"] [] ["names"]
theorem ub:zx ((comp RU 60).s uF) (z5 zC)=some wB:=by kernel_rfl
noncomputable def z0L:List (Str×GM):=(dot "take",GM.met 45 "take" zV)::UU
noncomputable def z0b:List (Str×GM):=(til (dot "take"),GM.metd 45 "take" 0 (.int 1) zV)::z0L
noncomputable def qB:=inClass (st 38) 10
noncomputable def vt:Cn:=cn cls fld z0b ["self"] ["parts_of"] [] []
theorem vq:zx ((comp RU 60).s vt) (z5 qB)=some qE:=by kernel_rfl
noncomputable def YZ:List (Str×GM):=(dot "last_moment",GM.met 45 "last_moment" zX)::z0b
noncomputable def qC:=inClass (st 38) 5
noncomputable def vv:Cn:=cn cls fld YZ ["self","told"] ["used_of"] [] ["batches"]
theorem vy:zx ((comp RU 60).s vv) (z5 qC)=some qF:=by kernel_rfl
noncomputable def Yk:List (Str×GM):=(dot "give_back",GM.met 45 "give_back" zM)::YZ
noncomputable def j1:=inClass (st 38) 6
noncomputable def ue:Cn:=cn cls fld Yk ["self"] [] [] []
theorem uq:zx ((comp RU 60).s ue) (z5 j1)=some ja:=by kernel_rfl
noncomputable def UG:List (Str×GM):=(dot "last",GM.met 45 "last" wy)::Yk
noncomputable def jS:=st 40
noncomputable def Zs:Cn:=cn cls fld UG ["_law_script","_law_k"] ["len"] [] []
theorem Zt:zx ((comp RU 60).s Zs) (z5 jS)=some jZ:=by kernel_rfl
noncomputable def YC:List (Str×GM):=("_law_cell_at",GM.fn wc)::UG
noncomputable def yb:=st 41
noncomputable def Wb:Cn:=cn cls fld YC ["_law_cell","_law_k","_law_number"] [] [] []
theorem Wh:zx ((comp RU 60).s Wb) (z5 yb)=some y4:=by kernel_rfl
noncomputable def Yn:List (Str×GM):=("_law_mixed",GM.fn kn)::YC
noncomputable def xC:=st 42
noncomputable def ZM:Cn:=cn cls fld Yn ["_law_cell"] [] [] ["return"]
theorem Q6:zx ((comp RU 60).s ZM) (z5 xC)=some kW:=by kernel_rfl
noncomputable def YF:List (Str×GM):=("_law_digits",GM.fn wb)::Yn
noncomputable def xh:=st 43
noncomputable def Q2:Cn:=cn cls fld YF ["_law_source","_law_many","_law_found"] ["_law_mixed"] [] []
theorem ZU:zx ((comp RU 60).s Q2) (z5 xh)=some xu:=by kernel_rfl
noncomputable def U5:List (Str×GM):=("_law_next",GM.fn zN)::YF
noncomputable def QD:=st 44
noncomputable def KO:Cn:=cn cls fld U5 ["_law_shape","_law_house","_law_k"] [] [] []
theorem KS:zx ((comp RU 60).s KO) (z5 QD)=some Qx:=by kernel_rfl
noncomputable def YG:List (Str×GM):=("_law_kth",GM.fn QA)::U5
noncomputable def jN:=st 45
noncomputable def uP:Cn:=cn cls fld YG ["_law_house","_law_shape","_law_stride","_law_number","_law_told","_law_calls","_law_cells","_law_due","_law_note","_law_at","_law_kept","_law_cell","_law_source","_law_way","_law_many","_law_moment"] ["_law_digits","_law_next","len","min","_law_kth"] [] ["_law_due"]
theorem uZ:zx ((comp RU 60).s uP) (z5 jN)=some jO:=by kernel_rfl
noncomputable def z0S:List (Str×GM):=("_law_deeds",GM.fn wo)::YG
noncomputable def qd:=st 46
noncomputable def yl:Cn:={(cn cls fld z0S ["_law_script","_law_source","_law_shape","_law_stride","_law_number","_law_house","_law_calls","_law_told"] ["_law_digits","_law_cell_at","_law_next","House","Shape","_law_deeds"] ["_law_calls","_law_told"] ["_law_told","_law_calls"] (some (0,[⟨295,93,295,157⟩]))) with fz:=["_law_calls","_law_told"]}
theorem Qo:zx ((comp RU 60).s {yl with fz:=[]}) ((z5 qd).take 6)=some (vn.take 6):=by kernel_rfl
theorem WB:zx ((comp RU 60).s yl) ((z5 qd).drop 6)=some (vn.drop 6):=by kernel_rfl
end NH.K42
namespace NH
open PySem PySem.Spec PyProof.Rows L2
theorem zJ{p:Prop}{i:Decidable p}{A B:Prop}(h1:p->A)(h2:¬p->B):brW (decide p) A B:=by
 cases i with
 |isTrue h=>exact h1 h
 |isFalse h=>exact h2 h
theorem wz{p:Prop}{i:Decidable p}{A B:Prop}(h:p)(a:A):brW (decide p) A B:=zJ (λ_=>a) λn=>absurd h n
theorem jr{p:Prop}{i:Decidable p}{A B:Prop}(h:¬p)(b:B):brW (decide p) A B:=zJ (λy=>absurd y h) λ_=>b
theorem Xw{p:Prop}{i:Decidable p}{A B:Prop}(h1:p->B)(h2:¬p->A):brW (!decide p) A B:=by
 cases i with
 |isTrue h=>exact h1 h
 |isFalse h=>exact h2 h
theorem vk{p:Prop}{i:Decidable p}{A B:Prop}(h:p)(b:B):brW (!decide p) A B:=Xw (λ_=>b) λn=>absurd h n
theorem Jz{b:Bool}{A B:Prop}(h1:b=true->A)(h2:b=false->B):brW b A B:=by
 cases b with
 |true=>exact h1 rfl
 |false=>exact h2 rfl
theorem xt{tg:Tg}{body:Ds}{lv:Mem->Prop}{xs:List T}{τ:Sl}{μ:Mem}{E:En}(I:Nat->Sl->Mem->Prop)(h0:I 0 τ μ)
  (h:∀i x τ μ,xs[i]?=some x->I i τ μ->∀N:Sl->Mem->Prop,(∀τ μ,I (i+1) τ μ->N τ μ)->∃τ',asg tg x τ=some τ'/\body τ' μ (E.turn N))
  (k:∀τ μ,I xs.length τ μ->E.nx τ μ) (hl:∀i τ μ,I i τ μ->lv μ:=by intros;trivial):forM tg body lv xs τ μ E:=by
 have go:∀(rest:List T) (i:Nat) (τ:Sl) (μ:Mem),xs.drop i=rest->i<=xs.length->I i τ μ->forM tg body lv rest τ μ E:=by
  intro rest
  induction rest with
  |nil=>
   intro i τ μ hd hi hI
   have:i=xs.length:=by
    have:=congrArg List.length hd
    simp at this;omega
   subst this
   exact k τ μ hI
  |cons x r ih=>
   intro i τ μ hd hi hI
   have hx:xs[i]?=some x:=by
    have:(xs.drop i)[0]?=some x:=by rw[hd];rfl
    simpa using this
   have hlt:i<xs.length:=(List.getElem?_eq_some_iff.mp hx).1
   have hd':xs.drop (i+1)=r:=by
    have:(xs.drop i).tail=r:=by rw[hd];rfl
    simpa using this
   exact h i x τ μ hx hI _ λτ2 μ2 z=>⟨hl _ _ _ z,ih (i+1) τ2 μ2 hd' hlt z⟩
 exact go xs 0 τ μ rfl (Nat.zero_le _) h0
end NH
namespace NH.P
open PySem L2 NH
section
local macro_rules | `(tactic| walk_at "grd") => `(tactic| first | decide | exact Or.inl (by decide) | exact Or.inr (by decide) | omega | (simp only [big, room]; omega) | fail)
local macro_rules | `(tactic| walk_at "go") => `(tactic| repeat' (first | (with_reducible refine ⟨_, rfl, ?_⟩) | (with_reducible refine ⟨?w, ?h, ?_⟩; case h => exact rfl) | (with_reducible refine And.intro ?_ ?_; walk_at "grd") | (with_reducible refine vk ?_ ?_; rfl) | (with_reducible refine wz ?_ ?_; rfl) | (with_reducible refine brn_neg ?_ ?_; decide) | (with_reducible refine jr ?_ ?_; decide) | fail))
variable {μ:Mem}{K:T->Mem->Prop}{Z:Xp}
theorem zT{i:Int}(k:K (.bl true) μ):qx [.int i] μ K Z:=⟨rfl,k⟩
theorem Ji{α:Type}{xs:List α}{k:Int}(h0:0<=k)(h1:k<xs.length):yO xs k=xs[k.toNat]?:=by
 unfold yO X5
 rw[if_pos h0,if_pos h1]
 rfl
theorem J6{α:Type}{xs:List α}{lo hi:Option Int}{x:α}(h:x∈uj xs lo hi):x∈xs:=List.mem_of_mem_drop (List.mem_of_mem_take h)
end
section
local macro_rules | `(tactic| walk_at "grd") => `(tactic| first | decide | exact Or.inl (by decide) | exact Or.inr (by decide) | omega | (simp only [big, room]; omega) | fail)
local macro_rules | `(tactic| walk_at "go") => `(tactic| repeat' (first | (with_reducible refine ⟨_, rfl, ?_⟩) | (with_reducible refine ⟨?w, ?h, ?_⟩; case h => exact rfl) | (with_reducible refine And.intro ?_ ?_; walk_at "grd") | (with_reducible refine vk ?_ ?_; rfl) | (with_reducible refine wz ?_ ?_; rfl) | (with_reducible refine brn_neg ?_ ?_; decide) | (with_reducible refine jr ?_ ?_; decide) | fail))
variable {μ μ1 μ2:Mem}{K:T->Mem->Prop}{Z:Xp}
noncomputable def St (μ:Mem)(i:Nat):Prop:=∃a b c:Int,μ[i]?=some (.lst [.int a,.int b,.int c])
structure Up(μ:Mem)(i:Nat)(μ':Mem):Prop where
 len:μ'.length=μ.length
 ot:∀j,j≠i->μ'[j]?=μ[j]?
 st:St μ' i
theorem Up.trans{i:Nat}(a:Up μ i μ1)(b:Up μ1 i μ2):Up μ i μ2:=⟨b.len.trans a.len,λj h=>(b.ot j h).trans (a.ot j h),b.st⟩
theorem get_set{i:Nat}{x y:MO}(h:μ[i]?=some x):(μ.set i y)[i]?=some y:=by
 have:=(List.getElem?_eq_some_iff.mp h).1
 simp[this]
theorem Up.set{i:Nat}{x:MO}{a b c:Int}(h:μ[i]?=some x):Up μ i (μ.set i (.lst [.int a,.int b,.int c])):=⟨by simp,λj hj=>by rw[List.getElem?_set_ne (Ne.symm hj)],a,b,c,get_set h⟩
theorem zH{x:MO}:(μ++[x])[μ.length]?=some x:=by rw[List.getElem?_append_right (Nat.le_refl _)];simp
theorem zi{i:Nat}{x o:MO}(h:μ[i]?=some o):(μ++[x])[i]?=some o:=by
 rw[List.getElem?_append_left (List.getElem?_eq_some_iff.mp h).1];exact h
noncomputable abbrev shp(x y z:Int):T:=.obj 40 [(0,.int x),(1,.int y),(2,.int z)]
theorem qz{n:Int}(k:K (.bl (decide (1<=n))) μ):qX [.int n] μ K Z:=by
 unfold qX
 refine⟨rfl,?_⟩
 refine zT ?_
 exact k
theorem xU{x y z:Int}(hx:1<=x)(hy:1<=y)(hz:1<=z)(q:K .non [.obj 40 [(0,.int x),(1,.int y),(2,.int z)]]):wU [.mut 0,.int x,.int y,.int z] [.obj 40 []] K Z:=by
 unfold wU
 refine⟨rfl,?_⟩
 refine qz ?_
 refine wz hx ?_
 refine qz ?_
 refine wz hy ?_
 refine qz ?_
 refine vk hz ?_
 refine⟨_,_,rfl,by decide,?_⟩
 refine⟨_,_,rfl,(by (show (1:Nat)<900);decide),?_⟩
 refine⟨_,_,rfl,(by (show (2:Nat)<900);decide),?_⟩
 exact q
end
section
local macro_rules | `(tactic| walk_at "grd") => `(tactic| first | decide | exact Or.inl (by decide) | exact Or.inr (by decide) | omega | (simp only [big, room]; omega) | fail)
local macro_rules | `(tactic| walk_at "go") => `(tactic| repeat' (first | (with_reducible refine ⟨_, rfl, ?_⟩) | (with_reducible refine ⟨?w, ?h, ?_⟩; case h => exact rfl) | (with_reducible refine And.intro ?_ ?_; walk_at "grd") | (with_reducible refine vk ?_ ?_; rfl) | (with_reducible refine wz ?_ ?_; rfl) | (with_reducible refine brn_neg ?_ ?_; decide) | (with_reducible refine jr ?_ ?_; decide) | fail))
variable {μ μ1 μ2:Mem}{K:T->Mem->Prop}{Z:Xp}
theorem jn{ns:List Int}{k:Int}(hk:0<=k)(q:∀c,K (.int c) μ):wc [.lst (ns.map T.int),.int k] μ K Z:=by
 unfold wc
 refine⟨rfl,?_⟩
 refine zJ (λh=>?_) (λh=>?_)
 ·have hl:k.toNat<ns.length:=by
   rw[List.length_map] at h;omega
  refine⟨.int ns[k.toNat],?_,q _⟩
  rw[Ji hk h,List.getElem?_map,List.getElem?_eq_getElem hl]
  rfl
 ·exact q _
end
section
local macro_rules | `(tactic| walk_at "grd") => `(tactic| first | decide | exact Or.inl (by decide) | exact Or.inr (by decide) | omega | (simp only [big, room]; omega) | fail)
local macro_rules | `(tactic| walk_at "go") => `(tactic| repeat' (first | (with_reducible refine ⟨_, rfl, ?_⟩) | (with_reducible refine ⟨?w, ?h, ?_⟩; case h => exact rfl) | (with_reducible refine And.intro ?_ ?_; walk_at "grd") | (with_reducible refine vk ?_ ?_; rfl) | (with_reducible refine wz ?_ ?_; rfl) | (with_reducible refine brn_neg ?_ ?_; decide) | (with_reducible refine jr ?_ ?_; decide) | fail))
variable {μ μ1 μ2:Mem}{K:T->Mem->Prop}{Z:Xp}
theorem Qk{tg:Tg}{g:Sl->Mem->RE (Option T)}{lv:Mem->Prop}{τ:Sl}{x:T}{r:List T}{K:List T->Mem->Prop}(h:∃τ',asg tg x τ=some τ'/\g τ' μ (λo μ1=>lv μ1/\(match o with
  |some y=>qe tg g lv τ r μ1 (λys μ2=>K (y::ys) μ2) Z
  |none=>qe tg g lv τ r μ1 K Z)) Z):qe tg g lv τ (x::r) μ K Z:=by
 obtain⟨τ',e,h⟩:=h
 unfold qe
 refine⟨τ',e,?_⟩
 have:(λ(o:Option T) μ1=>lv μ1/\(match o with
  |some y=>qe tg g lv τ r μ1 (λys μ2=>K (y::ys) μ2) Z
  |none=>qe tg g lv τ r μ1 K Z))=λo μ1=>lv μ1/\(match o with
   |some y=>(qe tg g lv τ r μ1).bind λys μ2=>RE.ok (y::ys) μ2
   |none=>qe tg g lv τ r μ1) K Z:=by
  funext o μ1
  cases o<;>rfl
 rw[this] at h
 exact h
theorem We{tg:Tg}{g:Sl->Mem->RE (Option T)}{lv:Mem->Prop}{τ:Sl}{K:List T->Mem->Prop}(h:K [] μ):qe tg g lv τ [] μ K Z:=by
 unfold qe
 exact h
structure Sy(y z:Int):Prop where
 y1:1<=y
 y2:y<=10000000000
 z1:1<=z
 z2:z<=10000000000
theorem Za{x y z:Int}(s:Sy y z)(q:K (.int (x * y * z)) μ):jo [shp x y z] μ K Z:=by
 obtain⟨y1,y2,z1,z2⟩:=s
 unfold jo
 refine⟨rfl,?_⟩
 exact⟨.inr ⟨by unfold big;omega,by unfold big;omega⟩,.inr ⟨by unfold big;omega,by unfold big;omega⟩,q⟩
theorem Zr{x y z n:Int}{b:Bool}(s:Sy y z)(hb:(decide (0<=n)&&decide (n<x * y * z))=b)(q:K (.bl b) μ):kq [shp x y z,.int n] μ K Z:=by
 subst hb
 unfold kq
 refine⟨rfl,?_⟩
 refine Za s ?_
 unfold qk
 refine⟨rfl,?_⟩
 refine zT ?_
 refine zJ (λh=>?_) (λh=>?_)
 ·have q:K (.bl (decide (n<x * y * z))) μ:=by simpa[h] using q
  exact q
 ·have q:K (.bl false) μ:=by simpa[h] using q
  exact q
theorem xZ{x y z n:Int}(s:Sy y z)(h:(decide (0<=n)&&decide (n<x * y * z))=true)(q:K .non μ):wC [shp x y z,.int n] μ K Z:=by
 unfold wC
 refine⟨rfl,?_⟩
 refine Zr s h ?_
 exact q
end
section
local macro_rules | `(tactic| walk_at "grd") => `(tactic| first | decide | exact Or.inl (by decide) | exact Or.inr (by decide) | omega | (simp only [big, room]; omega) | fail)
local macro_rules | `(tactic| walk_at "go") => `(tactic| repeat' (first | (with_reducible refine ⟨_, rfl, ?_⟩) | (with_reducible refine ⟨?w, ?h, ?_⟩; case h => exact rfl) | (with_reducible refine And.intro ?_ ?_; walk_at "grd") | (with_reducible refine vk ?_ ?_; rfl) | (with_reducible refine wz ?_ ?_; rfl) | (with_reducible refine brn_neg ?_ ?_; decide) | (with_reducible refine jr ?_ ?_; decide) | fail))
variable {μ μ1 μ2:Mem}{K:T->Mem->Prop}{Z:Xp}
structure Ch(S:List Nat)(μ μ':Mem):Prop where
 len:μ.length<=μ'.length
 ot:∀i,i<μ.length->i∉S->μ'[i]?=μ[i]?
theorem Ch.refl{S:List Nat}:Ch S μ μ:=⟨Nat.le_refl _,λ_ _ _=>rfl⟩
theorem Ch.trans{S:List Nat}(a:Ch S μ μ1)(b:Ch S μ1 μ2):Ch S μ μ2:=⟨Nat.le_trans a.len b.len,λi h n=>(b.ot i (Nat.lt_of_lt_of_le h a.len) n).trans (a.ot i h n)⟩
theorem Ch.mono{S S':List Nat}(a:Ch S μ μ1)(h:∀x∈S,x∈S'):Ch S' μ μ1:=⟨a.len,λi hi n=>a.ot i hi λz=>n (h i z)⟩
theorem Ch.app{x:MO}:Ch [] μ (μ++[x]):=⟨by simp,λi h _=>List.getElem?_append_left h⟩
theorem Ch.set{i:Nat}{x:MO}:Ch [i] μ (μ.set i x):=⟨by simp,λj h n=>by rw[List.getElem?_set_ne];rintro rfl;exact n (by simp)⟩
theorem Ch.get{S:List Nat}{i:Nat}{x:MO}(a:Ch S μ μ1)(h:μ[i]?=some x)(n:i∉S):μ1[i]?=some x:=(a.ot i (List.getElem?_eq_some_iff.mp h).1 n).trans h
theorem jH{β:Type}{tg:Tg}{g:Sl->Mem->RE (Option T)}{lv:Mem->Prop}{τ:Sl}(t:β->T)(f:β->Option T){ps:List β}{K:List T->Mem->Prop}
  (h:∀p∈ps,∀k:Option T->Mem->Prop,k (f p) μ->∃τ',asg tg (t p) τ=some τ'/\g τ' μ k Z) (k:K (ps.filterMap f) μ) (hl:lv μ:=by trivial):qe tg g lv τ (ps.map t) μ K Z:=by
 induction ps generalizing K with
 |nil=>exact We k
 |cons x r ih=>
  refine Qk ?_
  refine h x List.mem_cons_self _ ⟨hl,?_⟩
  cases q:f x with
  |none=>
   rw[List.filterMap_cons_none q] at k
   exact ih (λy hy=>h y (List.mem_cons_of_mem _ hy)) k
  |some y=>
   rw[List.filterMap_cons_some q] at k
   exact ih (K:=λys μ2=>K (y::ys) μ2) (λy hy=>h y (List.mem_cons_of_mem _ hy)) k
end
section
variable {μ μ1 μ2:Mem}{K:T->Mem->Prop}{Z:Xp}{c g i0:Nat}{x y z:Int}{ps:List Gp}
theorem uC{n b:Int}(q:K (.bl (decide (0<=n)&&decide (n<b))) μ):qk [.int n,.int b] μ K Z:=by
 unfold qk
 refine⟨rfl,?_⟩
 refine zT ?_
 refine zJ (λh=>?_) (λh=>?_)
 ·have q:K (.bl (decide (n<b))) μ:=by simpa[h] using q
  exact q
 ·have q:K (.bl false) μ:=by simpa[h] using q
  exact q
theorem jX{n b:Int}(h0:0<=n)(h1:n<b)(q:K (.bl true) μ):qk [.int n,.int b] μ K Z:=uC (by simpa[h0,h1] using q)
end
section
variable {μ μ1 μ2:Mem}{K:T->Mem->Prop}{Z:Xp}{c g i0:Nat}{x y z:Int}{ps:List Gp}
theorem z1e{a b c d e f:Int}:eqL [.int a,.int b,.int c] [.int d,.int e,.int f]=some (decide (a=d)&&(decide (b=e)&&decide (c=f))):=by
 have h:∀i j:Int,(i == j)=decide (i=j):=λi j=>by
  by_cases z:i=j<;>simp[z]
 simp[eqL,eqT,h]
theorem uS{h f u:Int}(h0:0<=h)(h1:h<y)(f0:0<=f)(fu:f<u)(ux:u<=x)(q:K (.bl true) μ):vc [shp x y z,.tup [.int h,.int f,.int u]] μ K Z:=by
 unfold vc
 refine⟨rfl,?_⟩
 refine⟨_,rfl,?_⟩
 refine jX h0 h1 ?_
 refine⟨_,rfl,?_⟩
 refine zT ?_
 refine⟨_,rfl,?_⟩
 refine zT ?_
 refine⟨_,rfl,?_⟩
 refine wz f0 ?_
 refine⟨_,rfl,?_⟩
 refine wz fu ?_
 have q:K (.bl (decide (u<=x))) μ:=by rw[decide_eq_true ux];exact q
 exact q
end
section
variable {μ μ1 μ2:Mem}{K:T->Mem->Prop}{Z:Xp}{c g r i0:Nat}{x y z:Int}{ps:List Gp}
theorem w8{n b:Int}(h0:0<=n)(h1:n<b)(q:K .non μ):qr [.int n,.int b] μ K Z:=by
 unfold qr
 refine⟨rfl,?_⟩
 refine jX h0 h1 ?_
 exact q
theorem ZN{m h k:Int}(m0:0<=m)(m1:m<x)(h0:0<=h)(h1:h<y)(k0:0<=k)(k1:k<z):0<=(m * y+h) * z+k/\(m * y+h) * z+k<x * y * z/\((m * y+h) * z+k) / z=m * y+h/\(m * y+h) / y=m/\(m * y+h) % y=h:=by
 have a:((m * y+h) * z+k) / z=m * y+h/\((m * y+h) * z+k) % z=k:=(Int.ediv_emod_unique (by omega)).mpr ⟨by rw[Int.mul_comm z,Int.add_comm],k0,k1⟩
 have b:(m * y+h) / y=m/\(m * y+h) % y=h:=(Int.ediv_emod_unique (by omega)).mpr ⟨by rw[Int.mul_comm y,Int.add_comm],h0,h1⟩
 have n0:0<=m * y:=Int.mul_nonneg m0 (by omega)
 have n1:0<=(m * y+h) * z:=Int.mul_nonneg (by omega) (by omega)
 have n2:m * y+y<=x * y:=by
  have:=Int.mul_le_mul_of_nonneg_right (show m+1<=x by omega) (show 0<=y by omega)
  rw[Int.add_mul,Int.one_mul] at this
  exact this
 have n3:(m * y+h) * z+z<=x * y * z:=by
  have:=Int.mul_le_mul_of_nonneg_right (show m * y+h+1<=x * y by omega) (show 0<=z by omega)
  rw[Int.add_mul,Int.one_mul] at this
  exact this
 exact⟨by omega,by omega,a.1,b.1,b.2⟩
end
section
variable {μ μ1 μ2:Mem}{K:T->Mem->Prop}{Z:Xp}{x y z:Int}{i:Nat}{sh kp bt:T}{ah sd:Int}
noncomputable abbrev Ls:=Int×Int×Int
noncomputable def lsT:Option Ls->T
 |none=>.non
 |some l=>.tup [.int l.1,.int l.2.1,.int l.2.2]
noncomputable def opT:Option Int->T
 |none=>.non
 |some m=>.int m
noncomputable abbrev hsF(sh:T)(ah sd:Int)(kp:T)(l:Option Ls)(m n:Option Int)(bt:T)(fl:Bool):List (Nat×T):=[(9,sh),(14,.int ah),(15,.int sd),(16,kp),(6,lsT l),(17,opT m),(18,opT n),(19,bt),(20,.bl fl)]
noncomputable abbrev hsO(sh:T)(ah sd:Int)(kp:T)(l:Option Ls)(m n:Option Int)(bt:T)(fl:Bool):MO:=.obj 45 (hsF sh ah sd kp l m n bt fl)
theorem Y0:∀(l l':Option Ls),eqT (lsT l) (lsT l')=some (decide (l=l'))
 |none,none=>by simp[lsT,eqT]
 |none,some b=>by simp[lsT,eqT]
 |some a,none=>by simp[lsT,eqT]
 |some (a,b,c),some (d,e,f)=>by
  show eqT (.tup _) (.tup _)=_
  simp only[eqT]
  rw[z1e]
  simp[Bool.decide_and]
theorem XS:∀(l l':Option Int),eqT (opT l) (opT l')=some (decide (l=l'))
 |none,none=>by simp[opT,eqT]
 |none,some b=>by simp[opT,eqT]
 |some a,none=>by simp[opT,eqT]
 |some a,some b=>by
  by_cases h:a=b
  ·simp[opT,eqT,h]
  ·simp[opT,eqT,h]
theorem QQ{l l':Option Ls}{m m':Option Int}:eqL [lsT l,opT m] [lsT l',opT m']=some (decide (l=l')&&decide (m=m')):=by
 simp[eqL,Y0,XS]
theorem Z9{l:Option Ls}{m:Option Int}:qo [lsT l,opT m]<=40:=by
 cases l<;>cases m<;>simp[lsT,opT,qo,wY]
variable {l l':Option Ls}{m m' n:Option Int}
theorem qZ(h:μ[i]?=some (hsO sh ah sd kp l m n bt false))(q:K .non μ):zK [.mut i] μ K Z:=by
 unfold zK
 refine⟨rfl,?_⟩
 refine⟨_,_,_,h,rfl,?_⟩
 exact q
theorem QH(h:μ[i]?=some (hsO sh ah sd kp l m n bt false))(q:K (.tup [lsT l,opT m]) μ):qt [.mut i] μ K Z:=by
 unfold qt
 refine⟨rfl,?_⟩
 refine⟨_,_,_,h,rfl,?_⟩
 refine⟨_,_,_,h,rfl,?_⟩
 exact q
theorem Kg(h:μ[i]?=some (hsO sh ah sd kp l m n bt false))(q:K (opT n) μ):wy [.mut i] μ K Z:=by
 unfold wy
 refine⟨rfl,?_⟩
 refine⟨_,_,_,h,rfl,?_⟩
 exact q
theorem kE{h f u:Int}(h0:0<=h)(h1:h<y)(f0:0<=f)(fu:f<u)(ux:u<=x)(q:K .non μ):qV [shp x y z,.tup [.int h,.int f,.int u]] μ K Z:=by
 unfold qV
 refine⟨rfl,?_⟩
 refine uS h0 h1 f0 fu ux ?_
 exact q
structure LsOk(x y:Int)(l:Ls):Prop where
 h0:0<=l.1
 h1:l.1<y
 f0:0<=l.2.1
 fu:l.2.1<l.2.2
 ux:l.2.2<=x
theorem xy{a:Int}(h:0<=a)(q:K (.bl true) μ):zZ [.int a] μ K Z:=by
 unfold zZ
 refine⟨rfl,?_⟩
 refine zT ?_
 have q:K (.bl (decide (0<=a))) μ:=by rw[decide_eq_true h];exact q
 exact q
structure Hz(x y z:Int):Prop where
 x1:1<=x
 y1:1<=y
 y2:y<=1000000
 z1:1<=z
 z2:z<=1000000
theorem Hz.sy(s:Hz x y z):Sy y z:=⟨s.y1,by have:=s.y2;omega,s.z1,by have:=s.z2;omega⟩
theorem jP{k:Int}(s:Hz x y z)(h0:0<=k)(h1:k<x * y * z)(q:K (.tup [.int (k / z / y),.int (k / z % y),.int (k % z)]) μ):vh [shp x y z,.int k] μ K Z:=by
 obtain⟨x1,y1,y2,z1,z2⟩:=id s
 unfold vh
 refine⟨rfl,?_⟩
 refine xZ s.sy (by rw[decide_eq_true h0,decide_eq_true h1];rfl) ?_
 refine⟨by omega,⟨by omega,by omega⟩,⟨by omega,by omega⟩,by omega,?_⟩
 exact q
noncomputable def plA(y z h k:Int):Int:=if k / z % y<h then k / z / y * z else if h<k / z % y then (k / z / y+1) * z else k / z / y * z+k % z+1
theorem kZ{h k:Int}(s:Hz x y z)(h0:0<=k)(h1:k<x * y * z)(q:K (.int (plA y z h k)) μ):q_ [shp x y z,.int h,.int k] μ K Z:=by
 obtain⟨x1,y1,y2,z1,z2⟩:=id s
 unfold q_
 refine⟨rfl,?_⟩
 refine jP s h0 h1 ?_
 refine⟨_,rfl,?_⟩
 unfold plA at q
 refine zJ (λe=>?_) (λe=>?_)
 ·rw[if_pos e] at q
  refine⟨_,rfl,.inr ⟨by unfold big;omega,by unfold big;omega⟩,?_⟩
  exact q
 ·rw[if_neg e] at q
  refine⟨_,rfl,?_⟩
  refine zJ (λe=>?_) (λe=>?_)
  ·rw[if_pos e] at q
   refine⟨_,rfl,.inr ⟨by unfold big;omega,by unfold big;omega⟩,?_⟩
   exact q
  ·rw[if_neg e] at q
   refine⟨_,rfl,.inr ⟨by unfold big;omega,by unfold big;omega⟩,?_⟩
   refine⟨_,rfl,?_⟩
   exact q
noncomputable def yG(y z h:Int):Option Int->Int
 |none=>0
 |some k=>plA y z h k
noncomputable def jl (y z:Int)(a:Ls)(n:Option Int)(r:Int):Int:=if yG y z a.1 n<(if a.2.1<r then r else a.2.1) * z then (if a.2.1<r then r else a.2.1) * z else yG y z a.1 n
theorem xR{a:Ls}(s:Hz x y z)(h:μ[i]?=some (hsO (shp x y z) ah sd kp (some a) m n bt false))(hm:n=none->m=none)(hn:∀k,n=some k->0<=k/\k<x * y * z)(q:K (.int (yG y z a.1 n)) μ):z_ [.mut i] μ K Z:=by
 unfold z_
 refine⟨rfl,?_⟩
 refine⟨_,_,_,h,rfl,?_⟩
 cases n with
 |some k=>
  refine⟨_,_,_,h,rfl,?_⟩
  refine⟨_,_,_,h,rfl,?_⟩
  refine⟨_,rfl,?_⟩
  refine⟨_,_,_,h,rfl,?_⟩
  exact kZ s (hn k rfl).1 (hn k rfl).2 q
 |none=>
  cases hm rfl
  refine⟨_,_,_,h,rfl,?_⟩
  exact q
noncomputable abbrev byP(z r ah e:Int):Int:=(e-1) / z-(r+ah)
noncomputable abbrev kS(h b e:Int):T:=.obj 44 [(11,.int h),(12,.int b),(13,.int e)]
theorem xW{a:Ls}{r k:Int}(s:Hz x y z)(h:μ[i]?=some (hsO (shp x y z) ah sd kp (some a) m n bt false))(hm:n=none->m=none)(hn:∀k,n=some k->0<=k/\k<x * y * z)(k1:1<=k)(k2:k<=z)
  (q1:a.2.2 * z<jl y z a n r+k->Z 18 [] μ)
  (q2:jl y z a n r+k<=a.2.2 * z->0<byP z r ah (jl y z a n r+k)->(byP z r ah (jl y z a n r+k)).natAbs.log2<1920/\Z 21 [(29,.int (byP z r ah (jl y z a n r+k)))] μ)
  (q3:jl y z a n r+k<=a.2.2 * z->byP z r ah (jl y z a n r+k)<=0->K (kS a.1 (jl y z a n r) (jl y z a n r+k)) μ) :
  qb [.mut i,.int r,.int k] μ K Z:=by
 obtain⟨x1,y1,y2,z1,z2⟩:=id s
 unfold qb
 refine⟨rfl,?_⟩
 refine qz ?_
 rw[decide_eq_true k1]
 refine⟨_,_,_,h,rfl,?_⟩
 refine jr (by omega) ?_
 refine zT ?_
 refine⟨_,h,?_⟩
 unfold zA
 refine⟨rfl,?_⟩
 refine⟨_,_,_,h,rfl,?_⟩
 refine⟨_,_,_,h,rfl,?_⟩
 refine⟨_,rfl,?_⟩
 refine⟨_,_,_,h,rfl,?_⟩
 refine⟨.inr ⟨by unfold big;omega,by unfold big;omega⟩,?_⟩
 refine⟨_,h,?_⟩
 refine xR s h hm hn ?_
 refine⟨_,_,_,h,rfl,?_⟩
 refine⟨_,rfl,?_⟩
 refine⟨_,_,_,h,rfl,?_⟩
 refine⟨.inr ⟨by unfold big;omega,by unfold big;omega⟩,?_⟩
 refine zJ (λe=>?_) (λe=>?_)
 ·exact⟨by show (1:Nat)<=room;decide,q1 e⟩
 ·have e:jl y z a n r+k<=a.2.2 * z:=by
   have:¬a.2.2 * z<jl y z a n r+k:=e
   omega
  refine⟨_,_,_,h,rfl,?_⟩
  refine⟨⟨by omega,by omega⟩,?_⟩
  refine⟨_,_,_,h,rfl,?_⟩
  refine zJ (λe2=>?_) (λe2=>?_)
  ·exact q2 e e2
  ·refine⟨_,_,_,h,rfl,?_⟩
   refine⟨_,rfl,?_⟩
   refine⟨rfl,?_⟩
   unfold qw
   refine⟨rfl,?_⟩
   refine⟨_,_,rfl,by show (0:Nat)<900;decide,?_⟩
   refine⟨_,_,rfl,by show (1:Nat)<900;decide,?_⟩
   refine⟨_,_,rfl,by show (2:Nat)<900;decide,?_⟩
   refine⟨rfl,_,rfl,rfl,?_⟩
   refine q3 e ?_
   have e2:¬0<byP z r ah (jl y z a n r+k):=e2
   omega
end
section
variable {μ μ1 μ2:Mem}{K:T->Mem->Prop}{Z:Xp}{x y z:Int}{i:Nat}{sh kp bt:T}{ah sd:Int}{l l':Option Ls}{m m' n:Option Int}
noncomputable def nmA(y z h p:Int):Int:=(p / z * y+h) * z+p % z
noncomputable def nmL (y z h b k:Int):List Int:=(List.range k.toNat).map λ(j:Nat)=>nmA y z h (b+j)
theorem ZK{mo h k:Int}(s:Hz x y z)(m0:0<=mo)(m1:mo<x)(h0:0<=h)(h1:h<y)(k0:0<=k)(k1:k<z)(q:K (.int ((mo * y+h) * z+k)) μ):km [shp x y z,.int mo,.int h,.int k] μ K Z:=by
 obtain⟨x1,y1,y2,z1,z2⟩:=id s
 unfold km
 refine⟨rfl,?_⟩
 refine w8 m0 m1 ?_
 refine w8 h0 h1 ?_
 refine w8 k0 k1 ?_
 refine⟨.inr ⟨by unfold big;omega,by unfold big;omega⟩,?_⟩
 refine⟨.inr ⟨by unfold big;omega,by unfold big;omega⟩,?_⟩
 exact q
theorem place_lt{p:Int}(s:Hz x y z)(h1:p<x * z):p / z<x:=by
 have:=s.z1
 exact Int.ediv_lt_of_lt_mul (by omega) h1
theorem kQ{h p:Int}(s:Hz x y z)(p0:0<=p)(p1:p<x * z)(h0:0<=h)(h1:h<y)(q:K (.int (nmA y z h p)) μ):vY [shp x y z,.int h,.int p] μ K Z:=by
 obtain⟨x1,y1,y2,z1,z2⟩:=id s
 unfold vY
 refine⟨rfl,?_⟩
 refine⟨⟨by omega,by omega⟩,?_⟩
 refine⟨by omega,?_⟩
 exact ZK s (Int.ediv_nonneg p0 (by omega)) (place_lt s p1) h0 h1 (Int.emod_nonneg _ (by omega)) (Int.emod_lt_of_pos _ (by omega)) q
theorem yB{c:Int}(q:∀a b,K (.mut μ.length) (μ++[.lst [.int a,.int b,.int 0]])):wb [.int c] μ K Z:=by
 unfold wb
 refine⟨rfl,?_⟩
 refine⟨by decide,?_⟩
 refine⟨by decide,?_⟩
 have m0:=Int.emod_nonneg c (show (2:Int)≠0 by decide)
 have m1:=Int.emod_lt_of_pos c (show (0:Int)<2 by decide)
 refine⟨.inr ⟨by unfold big;omega,by unfold big;omega⟩,?_⟩
 exact q _ _
theorem Jl{c k:Int}(q:∀v:Int,K (.int v) μ):kn [.int c,.int k] μ K Z:=by
 unfold kn
 refine⟨rfl,?_⟩
 refine⟨by decide,?_⟩
 refine⟨.inl (by unfold big;decide),?_⟩
 refine⟨.inr (by unfold big;decide),?_⟩
 refine⟨by decide,?_⟩
 refine⟨by decide,?_⟩
 have b1:∀a:Int,0<=a % 2147483629/\a % 2147483629<2147483629:=λa=>⟨Int.emod_nonneg _ (by decide),Int.emod_lt_of_pos _ (by decide)⟩
 have bb:=λa=>b1 a
 refine⟨.inl ⟨by have:=(b1 ((c % 2147483629+69621 * k+1) * 48271));unfold big;omega,by have:=(b1 ((c % 2147483629+69621 * k+1) * 48271));unfold big;omega⟩,?_⟩
 refine⟨by decide,?_⟩
 refine⟨by decide,?_⟩
 refine⟨.inl ⟨by have:=b1 ((c % 2147483629+69621 * k+1) * 48271 % 2147483629 * ((c % 2147483629+69621 * k+1) * 48271 % 2147483629 / 1009+69621));unfold big;omega,by have:=b1 ((c % 2147483629+69621 * k+1) * 48271 % 2147483629 * ((c % 2147483629+69621 * k+1) * 48271 % 2147483629 / 1009+69621));unfold big;omega⟩,?_⟩
 refine⟨by decide,?_⟩
 refine⟨by decide,?_⟩
 generalize hA:(c % 2147483629+69621 * k+1) * 48271 % 2147483629 * ((c % 2147483629+69621 * k+1) * 48271 % 2147483629 / 1009+69621) % 2147483629 * ((c % 2147483629+69621 * k+1) * 48271 % 2147483629 * ((c % 2147483629+69621 * k+1) * 48271 % 2147483629 / 1009+69621) % 2147483629 / 907+16807+k)=A
 refine⟨.inl ⟨by have:=b1 A;unfold big;omega,by have:=b1 A;unfold big;omega⟩,?_⟩
 refine⟨by decide,?_⟩
 exact q _
theorem qI{i:Nat}{base:Int}(hs:St μ i)(h0:0<base)(h1:base<1000000000000000000000000000000000000000000000000000000000000)(q:∀v μ',0<=v->v<base->Up μ i μ'->K (.int v) μ'):zN [.mut i,.int base] μ K Z:=by
 obtain⟨a,b,c,h⟩:=hs
 have mn:∀x:Int,0<=x % base/\x % base<base:=λx=>⟨Int.emod_nonneg _ (by omega),Int.emod_lt_of_pos _ h0⟩
 unfold zN
 refine⟨rfl,?_⟩
 refine⟨_,_,h,rfl,?_⟩
 refine zJ (λh2=>?_) (λh2=>?_)
 ·refine⟨_,_,h,rfl,h0,?_⟩
  refine⟨_,_,h,rfl,⟨h0,by omega⟩,?_⟩
  refine⟨_,h,by simp,?_⟩
  exact q _ _ (mn _).1 (mn _).2 (Up.set h)
 ·refine⟨_,_,h,rfl,?_⟩
  refine⟨_,h,by simp,?_⟩
  refine⟨_,_,get_set h,rfl,?_⟩
  refine⟨_,_,get_set h,rfl,?_⟩
  refine Jl λv=>?_
  refine⟨h0,?_⟩
  exact q _ _ (mn _).1 (mn _).2 (Up.set h)
end
section
variable {μ μ1 μ2:Mem}{K:T->Mem->Prop}{Z:Xp}{x y z:Int}{i:Nat}{sh kp bt:T}{ah sd:Int}{l l':Option Ls}{m m' n:Option Int}
theorem Zh{z a b c d:Int}(c0:0<=c)(c1:c<z)(d0:0<=d)(d1:d<z):a * z+c<b * z+d↔a<b\/(a=b/\c<d):=by
 have up:∀{p q:Int},p<q->p * z+z<=q * z:=λ{p q} h=>by
  have:=Int.mul_le_mul_of_nonneg_right (show p+1<=q by omega) (show 0<=z by omega)
  rw[Int.add_mul,Int.one_mul] at this
  exact this
 constructor
 ·intro h
  by_cases e:a<b
  ·exact .inl e
  ·by_cases e2:a=b
   ·subst e2;exact .inr ⟨rfl,by omega⟩
   ·have:=up (show b<a by omega);omega
 ·rintro (h|⟨rfl,h⟩)
  ·have:=up h;omega
  ·omega
theorem V8(k:Int)(y z:Int):k=(k / z / y * y+k / z % y) * z+k % z:=by
 have e1:=Int.mul_ediv_add_emod k z
 have e2:=Int.mul_ediv_add_emod (k / z) y
 rw[Int.mul_comm (k / z / y) y,e2,Int.mul_comm (k / z) z]
 exact e1.symm
theorem JA{h k p:Int}(s:Hz x y z)(h0:0<=h)(h1:h<y):k<nmA y z h p↔plA y z h k<=p:=by
 obtain⟨x1,y1,y2,z1,z2⟩:=id s
 have c0:=Int.emod_nonneg k (show z≠0 by omega)
 have c1:=Int.emod_lt_of_pos k (show 0<z by omega)
 have d0:=Int.emod_nonneg p (show z≠0 by omega)
 have d1:=Int.emod_lt_of_pos p (show 0<z by omega)
 have a0:=Int.emod_nonneg (k / z) (show y≠0 by omega)
 have a1:=Int.emod_lt_of_pos (k / z) (show 0<y by omega)
 have ep:=Int.mul_ediv_add_emod p z
 have ek:=V8 k y z
 unfold nmA plA
 conv=>lhs;lhs;rw[ek]
 rw[Zh c0 c1 d0 d1,Zh a0 a1 h0 h1]
 have le:∀A:Int,A * z<=p↔A<=p / z:=λA=>(Int.le_ediv_iff_mul_le (by omega)).symm
 have eqA:∀A B:Int,A * y+k / z % y=B * y+h↔A=B/\k / z % y=h:=λA B=>by
  have l1:=Zh (z:=y) (a:=A) (b:=B) (c:=k / z % y) (d:=h) a0 a1 h0 h1
  have l2:=Zh (z:=y) (a:=B) (b:=A) (c:=h) (d:=k / z % y) h0 h1 a0 a1
  constructor
  ·intro e
   have n1:¬(A<B\/(A=B/\k / z % y<h)):=λw=>by have:=l1.mpr w;omega
   have n2:¬(B<A\/(B=A/\h<k / z % y)):=λw=>by have:=l2.mpr w;omega
   omega
  ·rintro⟨rfl,e⟩;rw[e]
 rw[eqA]
 split
 ·rename_i e
  rw[le];omega
 ·split
  ·rename_i e1 e2
   rw[le];omega
  ·rename_i e1 e2
   have e3:k / z % y=h:=by omega
   have lx:=Zh (z:=z) (a:=k / z / y) (b:=p / z) (c:=k % z) (d:=p % z) c0 c1 d0 d1
   have:p=p / z * z+p % z:=by rw[Int.mul_comm];exact ep.symm
   constructor
   ·intro w
    have:=lx.mpr (by omega)
    omega
   ·intro w
    have:=lx.mp (by omega)
    omega
theorem KH{h p q:Int}(s:Hz x y z)(h0:0<=h)(h1:h<y)(pq:p<q):nmA y z h p<nmA y z h q:=by
 obtain⟨x1,y1,y2,z1,z2⟩:=id s
 have c0:=Int.emod_nonneg p (show z≠0 by omega)
 have c1:=Int.emod_lt_of_pos p (show 0<z by omega)
 have d0:=Int.emod_nonneg q (show z≠0 by omega)
 have d1:=Int.emod_lt_of_pos q (show 0<z by omega)
 have e1:p=p / z * z+p % z:=by rw[Int.mul_comm];exact (Int.mul_ediv_add_emod p z).symm
 have e2:q=q / z * z+q % z:=by rw[Int.mul_comm];exact (Int.mul_ediv_add_emod q z).symm
 have lx:=(Zh (z:=z) (a:=p / z) (b:=q / z) (c:=p % z) (d:=q % z) c0 c1 d0 d1).mp (by omega)
 unfold nmA
 rw[Zh c0 c1 d0 d1]
 rcases lx with w|⟨w,v⟩
 ·have:=(Zh (z:=y) (a:=p / z) (b:=q / z) (c:=h) (d:=h) h0 h1 h0 h1).mpr (.inl w)
  exact .inl this
 ·rw[w];exact .inr ⟨rfl,v⟩
theorem XC{h p:Int}(s:Hz x y z)(h0:0<=h)(h1:h<y)(p0:0<=p)(p1:p<x * z):0<=nmA y z h p/\nmA y z h p<x * y * z:=by
 obtain⟨x1,y1,y2,z1,z2⟩:=id s
 have:=ZN (x:=x) (y:=y) (z:=z) (Int.ediv_nonneg p0 (show 0<=z by omega)) (place_lt s p1) h0 h1 (Int.emod_nonneg p (show z≠0 by omega)) (Int.emod_lt_of_pos p (show 0<z by omega))
 exact⟨this.1,this.2.1⟩
variable {a:Ls}{r k:Int}{c:Nat}
end
section
variable {μ μ1 μ2:Mem}{K:T->Mem->Prop}{Z:Xp}{x y z:Int}{i:Nat}{sh kp bt:T}{ah sd:Int}{l l':Option Ls}{m m' n:Option Int}{a:Ls}{r k:Int}{c:Nat}
noncomputable abbrev shT(x y z:Int):T:=.tup [.int x,.int y,.int z]
end
section
variable {μ μ1 μ2:Mem}{K:T->Mem->Prop}{Z:Xp}{x y z h:Int}{i:Nat}{sh kp bt:T}{ah sd:Int}{l l':Option Ls}{m m' n:Option Int}{a:Ls}{r k:Int}{c:Nat}
noncomputable abbrev Bt:=Int×Int
noncomputable abbrev btT(h:Int)(p:Bt):T:=kS h p.1 p.2
noncomputable def nmB (y z h:Int)(bs:List Bt):List Int:=bs.flatMap λp=>nmL y z h p.1 (p.2-p.1)
structure BOk(x z:Int)(bs:List Bt):Prop where
 b0:∀p∈bs,0<=p.1
 be:∀p∈bs,p.1<=p.2
 ex:∀p∈bs,p.2<=x * z
 sz:∀p∈bs,p.2-p.1<=1000
theorem j8{b:Int}:(nmL y z h b k).length=k.toNat:=by unfold nmL;simp
theorem Xu{b k1 k2:Int}(h1:0<=k1)(h2:0<=k2):nmL y z h b (k1+k2)=nmL y z h b k1++nmL y z h (b+k1) k2:=by
 unfold nmL
 have e:(k1+k2).toNat=k1.toNat+k2.toNat:=by omega
 rw[e,List.range_add,List.map_append,List.map_map]
 congr 1
 refine List.map_congr_left λj _=>?_
 show nmA y z h (b+((k1.toNat+j:Nat):Int))=nmA y z h (b+k1+(j:Int))
 congr 1
 push_cast
 omega
theorem uX{b:Int}:nmL y z h b 0=[]:=rfl
theorem Ws{b e:Int}(hk:b<=e):jv b e 1=(List.range (e-b).toNat).map λ(j:Nat)=>T.int (b+j):=by
 unfold jv
 by_cases c:b<e
 ·rw[if_pos c]
  have:(e-b-1) / 1+1=e-b:=by rw[Int.ediv_one];omega
  rw[this]
  simp
 ·rw[if_neg c]
  have:(e-b).toNat=(0:Int).toNat:=by omega
  rw[this];rfl
theorem jV{b e:Int}(s:Hz x y z)(hb:x * z<1000000000000000000000000000000000000000000000000000000000000)(b0:0<=b)(be:b<=e)(k2:e-b<=1000)(ex:e<=x * z)(h0:0<=h)(h1:h<y)(q:K (.mut μ.length) (μ++[.lst ((nmL y z h b (e-b)).map T.int)])):zS [shp x y z,kS h b e] μ K Z:=by
 unfold zS
 refine⟨rfl,?_⟩
 refine⟨⟨⟨by omega,by omega⟩,⟨by omega,by omega⟩⟩,?_⟩
 rw[Ws be]
 refine⟨by rw[List.length_map,List.length_range];unfold room;omega,?_⟩
 refine jH (λ(j:Nat)=>T.int (b+j)) (λ(j:Nat)=>some (T.int (nmA y z h (b+j)))) (λj hj kk hkk=>?_) ?_ trivial
 ·have hj:j<(e-b).toNat:=List.mem_range.mp hj
  refine⟨_,rfl,?_⟩
  exact kQ s (by omega) (by omega) h0 h1 hkk
 ·rw[List.filterMap_eq_map']
  unfold nmL at q
  rw[List.map_map] at q
  exact q
theorem QO:∀{bs:List Bt},(∀p∈bs,p.1<=p.2)->((nmB y z h bs).length:Int)=(bs.map λp=>p.2-p.1).sum
 |[],_=>rfl
 |p::r,hb=>by
  have ih:=QO (bs:=r) λq hq=>hb q (List.mem_cons_of_mem _ hq)
  have:=hb p List.mem_cons_self
  unfold nmB at ih ⊢
  rw[List.flatMap_cons,List.length_append,List.map_cons,List.sum_cons,j8]
  push_cast
  rw[ih]
  omega
theorem jh:∀ns:List Int,intsOf (ns.map T.int)=some ns
 |[]=>rfl
 |n::r=>by show (intsOf (r.map T.int)).map (n::·)=_;rw[jh r];rfl
theorem kF{bs:List Bt}(hi:μ[i]?=some (.lst (bs.map (btT h))))(hl:bs.length<=1000)(hb:∀p∈bs,p.1<=p.2)(q:K (.int ((nmB y z h bs).length:Int)) μ):wk [.mut i] μ K Z:=by
 unfold wk
 refine⟨rfl,?_⟩
 refine⟨_,hi,?_⟩
 refine⟨by rw[List.length_map];unfold room;omega,?_⟩
 refine jH (btT h) (λp=>some (T.int (p.2-p.1))) (λp hp kk hkk=>⟨_,rfl,hkk⟩) ?_ hi
 rw[List.filterMap_eq_map']
 rw[QO hb] at q
 refine⟨bs.map λp=>p.2-p.1,?_,q⟩
 have:=jh (bs.map λp=>p.2-p.1)
 rw[List.map_map] at this
 exact this
structure Pt where
 r:Int
 fs:List Bt
 os:List Bt
noncomputable def Pt.step(s:Pt)(p:Bt):Pt:=
 let m:=if p.2<p.1+s.r then p.2 else p.1+s.r
 ⟨s.r-(m-p.1),s.fs++[(p.1,m)],s.os++[(m,p.2)]⟩
structure PtOk(x y z h:Int)(s0 s:Pt)(bs:List Bt):Prop where
 r0:0<=s.r
 fo:BOk x z s0.fs->BOk x z s.fs
 oo:BOk x z s0.os->BOk x z s.os
 fn:nmB y z h s.fs=nmB y z h s0.fs++(nmB y z h bs).take s0.r.toNat
 on:nmB y z h s.os=nmB y z h s0.os++(nmB y z h bs).drop s0.r.toNat
 fl:s.fs.length=s0.fs.length+bs.length
 ol:s.os.length=s0.os.length+bs.length
theorem BOk.snoc{bs:List Bt}{p:Bt}(B:BOk x z bs)(h1:0<=p.1)(h2:p.1<=p.2)(h3:p.2<=x * z)(h4:p.2-p.1<=1000):BOk x z (bs++[p]):=by
 refine⟨λq hq=>?_,λq hq=>?_,λq hq=>?_,λq hq=>?_⟩<;>(rcases List.mem_append.mp hq with hq|hq)<;>first|exact B.b0 q hq|exact B.be q hq|exact B.ex q hq|exact B.sz q hq|(rw[List.mem_singleton.mp hq];assumption)
theorem w_{bs:List Bt}{p:Bt}:nmB y z h (bs++[p])=nmB y z h bs++nmL y z h p.1 (p.2-p.1):=by
 unfold nmB
 rw[List.flatMap_append]
 simp
theorem ky{α:Type}(A B C:List α)(n a:Nat)(ha:A.length=a)(hc:(B=[]/\a<=n)\/n=a):(A++(B++C)).take n=A++C.take (n-a)/\(A++(B++C)).drop n=B++C.drop (n-a):=by
 subst ha
 rcases hc with⟨rfl,h⟩|rfl
 ·rw[List.nil_append,List.take_append,List.drop_append,List.take_of_length_le h,List.drop_of_length_le h]
  exact⟨rfl,rfl⟩
 ·rw[Nat.sub_self,List.take_left,List.drop_left]
  simp
theorem JH:∀{bs:List Bt} {s0:Pt},BOk x z bs->0<=s0.r->PtOk x y z h s0 (bs.foldl Pt.step s0) bs
 |[],s0,_,h0=>⟨h0,id,id,by simp[nmB],by simp[nmB],by simp,by simp⟩
 |p::bs,s0,B,h0=>by
  have b0:=B.b0 p List.mem_cons_self
  have be:=B.be p List.mem_cons_self
  have ex:=B.ex p List.mem_cons_self
  have sz:=B.sz p List.mem_cons_self
  have B':BOk x z bs:=⟨λq hq=>B.b0 q (List.mem_cons_of_mem _ hq),λq hq=>B.be q (List.mem_cons_of_mem _ hq),λq hq=>B.ex q (List.mem_cons_of_mem _ hq),λq hq=>B.sz q (List.mem_cons_of_mem _ hq)⟩
  obtain⟨mm,hm⟩:∃mm,mm=if p.2<p.1+s0.r then p.2 else p.1+s0.r:=⟨_,rfl⟩
  have e1:s0.step p=⟨s0.r-(mm-p.1),s0.fs++[(p.1,mm)],s0.os++[(mm,p.2)]⟩:=by rw[hm];rfl
  have hm':(p.2<p.1+s0.r/\mm=p.2)\/(¬p.2<p.1+s0.r/\mm=p.1+s0.r):=by
   rw[hm];split
   ·exact .inl ⟨by assumption,rfl⟩
   ·exact .inr ⟨by assumption,rfl⟩
  have ih:=JH (bs:=bs) (s0:=s0.step p) B' (by rw[e1];show 0<=s0.r-(mm-p.1);omega)
  rw[e1] at ih
  obtain⟨i1,i2,i3,i4,i5,i6,i7⟩:=ih
  have split1:nmL y z h p.1 (p.2-p.1)=nmL y z h p.1 (mm-p.1)++nmL y z h mm (p.2-mm):=by
   have:=Xu (y:=y) (z:=z) (h:=h) (b:=p.1) (k1:=mm-p.1) (k2:=p.2-mm) (by omega) (by omega)
   rw[show mm-p.1+(p.2-mm)=p.2-p.1 by omega,show p.1+(mm-p.1)=mm by omega] at this
   exact this
  have hcons:nmB y z h (p::bs)=nmL y z h p.1 (p.2-p.1)++nmB y z h bs:=by unfold nmB;rw[List.flatMap_cons]
  have cs:(nmL y z h mm (p.2-mm)=[]/\(mm-p.1).toNat<=s0.r.toNat)\/s0.r.toNat=(mm-p.1).toNat:=by
   rcases hm' with⟨w1,w2⟩|⟨w1,w2⟩
   ·refine .inl ⟨?_,by omega⟩
    rw[w2,show p.2-p.2=0 by omega];exact uX
   ·exact .inr (by omega)
  rw[List.foldl_cons,e1]
  refine⟨i1,λF=>i2 (F.snoc b0 (by show p.1<=mm;omega) (by show mm<=x * z;omega) (by show mm-p.1<=1000;omega)),λF=>i3 (F.snoc (by show 0<=mm;omega) (by show mm<=p.2;omega) ex (by show p.2-mm<=1000;omega)),?_,?_,by simp at i6 ⊢;omega,by simp at i7 ⊢;omega⟩
  ·have tk:=(ky (nmL y z h p.1 (mm-p.1)) (nmL y z h mm (p.2-mm)) (nmB y z h bs) s0.r.toNat (mm-p.1).toNat j8 cs).1
   rw[i4,w_,hcons,split1,List.append_assoc (nmL y z h p.1 (mm-p.1)),tk,←List.append_assoc]
   show nmB y z h s0.fs++nmL y z h p.1 (mm-p.1)++(nmB y z h bs).take (s0.r-(mm-p.1)).toNat=_
   rw[show s0.r.toNat-(mm-p.1).toNat=(s0.r-(mm-p.1)).toNat by omega]
  ·have tk:=(ky (nmL y z h p.1 (mm-p.1)) (nmL y z h mm (p.2-mm)) (nmB y z h bs) s0.r.toNat (mm-p.1).toNat j8 cs).2
   rw[i5,w_,hcons,split1,List.append_assoc (nmL y z h p.1 (mm-p.1)),tk,←List.append_assoc]
   show nmB y z h s0.os++nmL y z h mm (p.2-mm)++(nmB y z h bs).drop (s0.r-(mm-p.1)).toNat=_
   rw[show s0.r.toNat-(mm-p.1).toNat=(s0.r-(mm-p.1)).toNat by omega]
end
section
variable {μ μ1 μ2:Mem}{K:T->Mem->Prop}{Z:Xp}{x y z h:Int}{i:Nat}{sh kp bt:T}{ah sd:Int}{l l':Option Ls}{m m' n:Option Int}{a:Ls}{r k:Int}{c:Nat}
local macro_rules | `(tactic| walk_at "bat") => `(tactic| (refine ⟨rfl, ?_⟩; (try unfold qw); refine ⟨rfl, ?_⟩; refine ⟨_, _, rfl, by show (0 : Nat) < 900; decide, ?_⟩; refine ⟨_, _, rfl, by show (1 : Nat) < 900; decide, ?_⟩; refine ⟨_, _, rfl, by show (2 : Nat) < 900; decide, ?_⟩; refine ⟨rfl, _, rfl, rfl, ?_⟩))
theorem z1y{A A' B:MO}:(μ++[A]++[B]).set μ.length A'=μ++[A']++[B]:=by
 rw[List.append_assoc,List.set_append_right _ _ (Nat.le_refl _)];simp
theorem z1f{A B B':MO}:(μ++[A]++[B]).set (μ++[A]).length B'=μ++[A]++[B']:=by
 rw[List.set_append_right _ _ (Nat.le_refl _)];simp
theorem JP:∀{bs:List Bt},(bs.filterMap λp=>if p.1<p.2 then some (btT h p) else none)=(bs.filter λp=>decide (p.1<p.2)).map (btT h)
 |[]=>rfl
 |p::r=>by
  have ih:=JP (bs:=r)
  by_cases c:p.1<p.2
  ·rw[List.filterMap_cons_some (b:=btT h p) (by rw[if_pos c]),List.filter_cons_of_pos (by simpa using c),List.map_cons,ih]
  ·rw[List.filterMap_cons_none (by rw[if_neg c]),List.filter_cons_of_neg (by simpa using c),ih]
theorem VF:∀{bs:List Bt},(∀p∈bs,p.1<=p.2)->nmB y z h (bs.filter λp=>decide (p.1<p.2))=nmB y z h bs
 |[],_=>rfl
 |p::r,hb=>by
  have ih:=VF (bs:=r) λq hq=>hb q (List.mem_cons_of_mem _ hq)
  have be:=hb p List.mem_cons_self
  by_cases c:p.1<p.2
  ·rw[List.filter_cons_of_pos (by simpa using c)]
   unfold nmB at ih ⊢
   rw[List.flatMap_cons,List.flatMap_cons,ih]
  ·rw[List.filter_cons_of_neg (by simpa using c),ih]
   unfold nmB
   rw[List.flatMap_cons,show p.2-p.1=0 by omega,uX,List.nil_append]
theorem BOk.fil{bs:List Bt}(B:BOk x z bs):BOk x z (bs.filter λp=>decide (p.1<p.2)):=
 ⟨λp hp=>B.b0 p (List.mem_filter.mp hp).1,λp hp=>B.be p (List.mem_filter.mp hp).1,λp hp=>B.ex p (List.mem_filter.mp hp).1,λp hp=>B.sz p (List.mem_filter.mp hp).1⟩
theorem BOk.nil:BOk x z []:=⟨by simp,by simp,by simp,by simp⟩
theorem Wv{bs:List Bt}(hi:μ[i]?=some (.lst (bs.map (btT h))))(hl:bs.length<=1000)(k0:0<=k)(B:BOk x z bs)
  (q:∀fs os μ' f1 f2,BOk x z fs->BOk x z os->nmB y z h fs=(nmB y z h bs).take k.toNat->nmB y z h os=(nmB y z h bs).drop k.toNat->fs.length<=bs.length->os.length<=bs.length->Ch [] μ μ'->μ.length<=f1->μ.length<=f2->f1≠f2->
   μ'[f1]?=some (.lst (fs.map (btT h)))->μ'[f2]?=some (.lst (os.map (btT h)))->K (.tup [.mut f1,.mut f2]) μ'):parted [.mut i,.int k] μ K Z:=by
 have hil:=(List.getElem?_eq_some_iff.mp hi).1
 unfold parted
 refine⟨rfl,?_⟩
 refine⟨_,zi (zi hi),?_⟩
 refine xt (λj τ μ'=>∃o5 o6,τ=[some (.mut i),some (.int k),some (.mut μ.length),some (.mut (μ++[MO.lst []]).length),some (.int ((bs.take j).foldl Pt.step ⟨k,[],[]⟩).r),o5,o6]/\μ'=μ++[.lst (((bs.take j).foldl Pt.step ⟨k,[],[]⟩).fs.map (btT h))]++[.lst (((bs.take j).foldl Pt.step ⟨k,[],[]⟩).os.map (btT h))]) ⟨none,none,rfl,rfl⟩ ?_ ?_ ?_
 ·rintro j t τ μ' hx ⟨o5,o6,rfl,rfl⟩ N hN
  rw[List.getElem?_map] at hx
  cases hqi:bs[j]? with
  |none=>rw[hqi] at hx;cases hx
  |some p=>
   rw[hqi] at hx
   cases hx
   have et:bs.take (j+1)=bs.take j++[p]:=by rw[List.take_add_one,hqi];rfl
   have hjl:j<bs.length:=(List.getElem?_eq_some_iff.mp hqi).1
   have B1:BOk x z (bs.take j):=⟨λp hp=>B.b0 p (List.mem_of_mem_take hp),λp hp=>B.be p (List.mem_of_mem_take hp),λp hp=>B.ex p (List.mem_of_mem_take hp),λp hp=>B.sz p (List.mem_of_mem_take hp)⟩
   have P:=JH (x:=x) (y:=y) (z:=z) (h:=h) (s0:=⟨k,[],[]⟩) B1 k0
   generalize hS:(bs.take j).foldl Pt.step ⟨k,[],[]⟩=S at P ⊢
   have P1:=P.fl
   have P2:=P.ol
   simp only[List.length_nil,Nat.zero_add,List.length_take] at P1 P2
   have hS2:(bs.take (j+1)).foldl Pt.step ⟨k,[],[]⟩=S.step p:=by rw[et,List.foldl_append,hS];rfl
   refine⟨_,rfl,?_⟩
   have l1:(μ++[MO.lst []]).length=(μ++[MO.lst (S.fs.map (btT h))]).length:=by simp
   refine⟨⟨_,zi zH⟩,?_⟩
   walk_at "bat"
   refine⟨_,zi zH,by rw[List.length_map];unfold room;omega,?_⟩
   rw[z1y]
   have g2:(μ++[MO.lst (S.fs.map (btT h)++[kS h p.1 (if p.2<p.1+S.r then p.2 else p.1+S.r)])]++[MO.lst (S.os.map (btT h))])[(μ++[MO.lst []]).length]?=some (MO.lst (S.os.map (btT h))):=by
    have:(μ++[MO.lst []]).length=(μ++[MO.lst (S.fs.map (btT h)++[kS h p.1 (if p.2<p.1+S.r then p.2 else p.1+S.r)])]).length:=by simp
    rw[this];exact zH
   refine⟨⟨_,g2⟩,?_⟩
   walk_at "bat"
   refine⟨_,g2,by rw[List.length_map];unfold room;omega,?_⟩
   refine hN _ _ ⟨some (btT h p),some (.int (if p.2<p.1+S.r then p.2 else p.1+S.r)),?_,?_⟩
   ·rw[hS2];rfl
   ·show (μ++[MO.lst (S.fs.map (btT h)++[kS h p.1 (if p.2<p.1+S.r then p.2 else p.1+S.r)])]++[MO.lst (S.os.map (btT h))]).set (μ++[MO.lst []]).length (MO.lst (S.os.map (btT h)++[kS h (if p.2<p.1+S.r then p.2 else p.1+S.r) p.2]))=_
    have:(μ++[MO.lst []]).length=(μ++[MO.lst (S.fs.map (btT h)++[kS h p.1 (if p.2<p.1+S.r then p.2 else p.1+S.r)])]).length:=by simp
    rw[this,z1f,hS2]
    show _=μ++[MO.lst ((S.fs++[(p.1,if p.2<p.1+S.r then p.2 else p.1+S.r)]).map (btT h))]++[MO.lst ((S.os++[(if p.2<p.1+S.r then p.2 else p.1+S.r,p.2)]).map (btT h))]
    rw[List.map_append,List.map_append]
    rfl
 ·rintro τ μ' ⟨o5,o6,rfl,rfl⟩
  rw[List.length_map,List.take_of_length_le (Nat.le_refl _)]
  have P:=JH (x:=x) (y:=y) (z:=z) (h:=h) (s0:=⟨k,[],[]⟩) B k0
  generalize bs.foldl Pt.step ⟨k,[],[]⟩=S at P ⊢
  have P1:=P.fl
  have P2:=P.ol
  simp only[List.length_nil,Nat.zero_add] at P1 P2
  have le:(μ++[MO.lst []]).length=(μ++[MO.lst (S.fs.map (btT h))]).length:=by simp
  have fo:=P.fo BOk.nil
  have oo:=P.oo BOk.nil
  have fn:nmB y z h S.fs=(nmB y z h bs).take k.toNat:=by have:=P.fn;simpa[nmB] using this
  have on:nmB y z h S.os=(nmB y z h bs).drop k.toNat:=by have:=P.on;simpa[nmB] using this
  have g2:(μ++[MO.lst (S.fs.map (btT h))]++[MO.lst (S.os.map (btT h))])[(μ++[MO.lst []]).length]?=some (MO.lst (S.os.map (btT h))):=by rw[le];exact zH
  refine⟨_,g2,?_⟩
  refine⟨by rw[List.length_map];unfold room;omega,?_⟩
  refine jH (btT h) (λp=>if p.1<p.2 then some (btT h p) else none) (λp hp kk hkk=>⟨_,rfl,?_⟩) ?_ g2
  ·refine zJ (λc=>?_) (λc=>?_)
   ·rw[if_pos c] at hkk;exact hkk
   ·rw[if_neg c] at hkk;exact hkk
  ·rw[JP]
   have ll:(μ++[MO.lst (S.fs.map (btT h))]++[MO.lst (S.os.map (btT h))]).length=μ.length+2:=by simp
   refine q S.fs (S.os.filter λp=>decide (p.1<p.2)) _ _ _ fo oo.fil fn ?_ (by omega) ?_ ⟨by simp,λj hj _=>?_⟩ (Nat.le_refl _) (by omega) (by omega) (zi (zi zH)) ?_
   ·rw[VF oo.be];exact on
   ·have:=List.length_filter_le (λp:Bt=>decide (p.1<p.2)) S.os;omega
   ·rw[List.getElem?_append_left (by simp;omega),List.getElem?_append_left (by simp;omega),List.getElem?_append_left (by omega)]
   ·rw[ll]
    have:=zH (μ:=μ++[MO.lst (S.fs.map (btT h))]++[MO.lst (S.os.map (btT h))]) (x:=MO.lst ((S.os.filter λp=>decide (p.1<p.2)).map (btT h)))
    rw[ll] at this
    exact this
 ·rintro j τ μ' ⟨o5,o6,rfl,rfl⟩
  exact zi (zi hi)
end
section
variable {μ μ1 μ2:Mem}{K:T->Mem->Prop}{Z:Xp}{x y z h:Int}{i bi:Nat}{sh kp bt:T}{ah sd:Int}{l l':Option Ls}{m m' n:Option Int}{a:Ls}{r k:Int}{c:Nat}
theorem Ch.ge{S:List Nat}(a:Ch [] μ μ1)(b:Ch S μ1 μ2)(h:∀j∈S,μ.length<=j):Ch [] μ μ2:=
 ⟨Nat.le_trans a.len b.len,λj hj _=>(b.ot j (Nat.lt_of_lt_of_le hj a.len) λw=>absurd (h j w) (by omega)).trans (a.ot j hj (by simp))⟩
theorem Xc{bs:List Bt}(s:Hz x y z)(hb:x * z<1000000000000000000000000000000000000000000000000000000000000)(h0:0<=h)(h1:h<y)(ho:μ[i]?=some (hsO (shp x y z) ah sd kp l m n (.mut bi) false))(hbi:μ[bi]?=some (.lst (bs.map (btT h))))(hl:bs.length<=1000)(B:BOk x z bs)(hn:(nmB y z h bs).length<=100000)(k1:1<=k)
  (q1:((nmB y z h bs).length:Int)<k->Z 22 [] μ)
  (q2:k<=((nmB y z h bs).length:Int)->∀os μ' j f2,BOk x z os->nmB y z h os=(nmB y z h bs).drop k.toNat->os.length<=bs.length->Ch [i] μ μ'->μ.length<=j->μ.length<=f2->j≠f2->μ'[i]?=some (hsO (shp x y z) ah sd kp l m n (.mut f2) false)->μ'[f2]?=some (.lst (os.map (btT h)))->μ'[j]?=some (.lst (((nmB y z h bs).take k.toNat).map T.int))->K (.mut j) μ') :
  zV [.mut i,.int k] μ K Z:=by
 have hil:=(List.getElem?_eq_some_iff.mp ho).1
 unfold zV
 refine⟨rfl,?_⟩
 refine⟨_,ho,?_⟩
 refine qZ ho ?_
 refine qz ?_
 rw[decide_eq_true k1]
 refine⟨_,_,_,ho,rfl,?_⟩
 refine kF (y:=y) (z:=z) hbi hl B.be ?_
 refine zJ (λe=>?_) (λe=>?_)
 ·exact⟨by show (1:Nat)<=room;decide,q1 e⟩
 ·refine⟨_,_,_,ho,rfl,?_⟩
  refine Wv (y:=y) hbi hl (by omega) B λfs os μ1 f1 f2 Bf Bo fn on fl ol ch1 l1 l2 ne g1 g2=>?_
  have ho1:=ch1.get ho (by simp)
  refine⟨_,rfl,?_⟩
  refine⟨_,_,ho1,by show (9:Nat)<900;decide,?_⟩
  have ho2:=get_set (y:=hsO (shp x y z) ah sd kp l m n (.mut f2) false) ho1
  have ch2:Ch [i] μ (μ1.set i (hsO (shp x y z) ah sd kp l m n (.mut f2) false)):=(ch1.mono (by simp)).trans Ch.set
  have ne1:f1≠i:=by omega
  have ne2:f2≠i:=by omega
  have g1':(μ1.set i (hsO (shp x y z) ah sd kp l m n (.mut f2) false))[f1]?=some (.lst (fs.map (btT h))):=by rw[List.getElem?_set_ne (Ne.symm ne1)];exact g1
  have g2':(μ1.set i (hsO (shp x y z) ah sd kp l m n (.mut f2) false))[f2]?=some (.lst (os.map (btT h))):=by rw[List.getElem?_set_ne (Ne.symm ne2)];exact g2
  generalize hμ:μ1.set i (hsO (shp x y z) ah sd kp l m n (.mut f2) false)=μ3 at ho2 ch2 g1' g2'
  have hμ':μ1.set i (.obj 45 (WE 19 (.mut f2) (hsF (shp x y z) ah sd kp l m n (.mut bi) false)))=μ3:=hμ
  have step:zU (wB.drop 5) [some (.mut i),some (.int k),some (.tup [.mut f1,.mut f2]),none,none] μ3 (En.fn K Z):=by
   refine⟨_,rfl,?_⟩
   refine⟨_,zi g1',?_⟩
   have hf1:=(List.getElem?_eq_some_iff.mp g1').1
   have hf2:=(List.getElem?_eq_some_iff.mp g2').1
   have hi3:=(List.getElem?_eq_some_iff.mp ho2).1
   refine xt (λj τ μ'=>∃o4,τ=[some (.mut i),some (.int k),some (.tup [.mut f1,.mut f2]),some (.mut μ3.length),o4]/\Ch [] μ3 μ'/\μ'[μ3.length]?=some (.lst ((nmB y z h (fs.take j)).map T.int))) ⟨none,rfl,Ch.app,zH⟩ ?_ ?_ ?_
   ·rintro j t τ μ' hx ⟨o4,rfl,ch,gn⟩ N hN
    rw[List.getElem?_map] at hx
    cases hqi:fs[j]? with
    |none=>rw[hqi] at hx;cases hx
    |some p=>
     rw[hqi] at hx
     cases hx
     have hp:p∈fs:=List.mem_of_getElem? hqi
     have et:fs.take (j+1)=fs.take j++[p]:=by rw[List.take_add_one,hqi];rfl
     refine⟨_,rfl,?_⟩
     refine⟨⟨_,gn⟩,?_⟩
     refine⟨_,_,_,ch.get ho2 (by simp),rfl,?_⟩
     refine jV s hb (Bf.b0 p hp) (Bf.be p hp) (Bf.sz p hp) (Bf.ex p hp) h0 h1 ?_
     have ln:μ3.length<μ'.length:=(List.getElem?_eq_some_iff.mp gn).1
     have small:((nmB y z h (fs.take j)).map T.int).length+((nmL y z h p.1 (p.2-p.1)).map T.int).length<=room:=by
      rw[List.length_map,List.length_map]
      have e1:nmB y z h fs=nmB y z h (fs.take (j+1))++nmB y z h (fs.drop (j+1)):=by
       unfold nmB
       rw[←List.flatMap_append,List.take_append_drop]
      have e2:(nmB y z h fs).length<=(nmB y z h bs).length:=by rw[fn];exact List.length_take_le' _ _
      rw[e1,et,w_,List.length_append,List.length_append] at e2
      unfold room
      omega
     refine⟨_,_,zi gn,.inr ⟨_,rfl,by omega,zH⟩,small,?_⟩
     refine hN _ _ ⟨_,rfl,?_,?_⟩
     ·exact (Ch.ge (Ch.ge ch Ch.app (by simp)) Ch.set (by simp))
     ·rw[et,w_,List.map_append]
      exact get_set (zi gn)
   ·rintro τ μ' ⟨o4,rfl,ch,gn⟩
    rw[List.length_map,List.take_of_length_le (Nat.le_refl _),fn] at gn
    refine q2 (by omega) os μ' _ f2 Bo on ol (ch2.trans (ch.mono (by simp))) ?_ l2 (by omega) (ch.get ho2 (by simp)) (ch.get g2' (by simp)) gn
    exact ch2.len
   ·rintro j τ μ' ⟨o4,rfl,ch,gn⟩
    exact ch.get g1' (by simp)
  rw[←hμ'] at step
  exact step
theorem VH(ho:μ[i]?=some (.obj 45 []))(ha:0<=ah)(hs:0<=sd)(q:∀μ' bi,Ch [i] μ μ'->μ.length<=bi->μ'[i]?=some (hsO sh ah sd kp none none none (.mut bi) false)->μ'[bi]?=some (.lst [])->K .non μ') :
  qa [.mut i,sh,.int ah,.int sd,kp,.non] μ K Z:=by
 have hil:=(List.getElem?_eq_some_iff.mp ho).1
 unfold qa
 refine⟨rfl,?_⟩
 refine xy ha ?_
 refine xy hs ?_
 refine⟨_,_,ho,by show (0:Nat)<900;decide,?_⟩
 refine⟨_,_,get_set ho,by show (1:Nat)<900;decide,?_⟩
 refine⟨_,_,get_set (get_set ho),by show (2:Nat)<900;decide,?_⟩
 refine⟨_,_,get_set (get_set (get_set ho)),by show (3:Nat)<900;decide,?_⟩
 refine⟨_,_,get_set (get_set (get_set (get_set ho))),by show (4:Nat)<900;decide,?_⟩
 refine⟨_,_,get_set (get_set (get_set (get_set (get_set ho)))),by show (5:Nat)<900;decide,?_⟩
 refine⟨_,_,get_set (get_set (get_set (get_set (get_set (get_set ho))))),by show (6:Nat)<900;decide,?_⟩
 have h7:=get_set (y:=.obj 45 [(9,sh),(14,.int ah),(15,.int sd),(16,kp),(6,.non),(17,.non),(18,.non)]) (get_set (y:=.obj 45 [(9,sh),(14,.int ah),(15,.int sd),(16,kp),(6,.non),(17,.non)]) (get_set (y:=.obj 45 [(9,sh),(14,.int ah),(15,.int sd),(16,kp),(6,.non)]) (get_set (y:=.obj 45 [(9,sh),(14,.int ah),(15,.int sd),(16,kp)]) (get_set (y:=.obj 45 [(9,sh),(14,.int ah),(15,.int sd)]) (get_set (y:=.obj 45 [(9,sh),(14,.int ah)]) (get_set (y:=.obj 45 [(9,sh)]) ho))))))
 refine⟨_,_,zi h7,by show (7:Nat)<900;decide,?_⟩
 refine⟨_,_,get_set (zi h7),by show (8:Nat)<900;decide,?_⟩
 refine q _ _ ((((((((((Ch.set.trans Ch.set).trans Ch.set).trans Ch.set).trans Ch.set).trans Ch.set).trans Ch.set).trans (Ch.app.mono (by simp))).trans Ch.set).trans Ch.set)) ?_ (get_set (get_set (zi h7))) ?_
 ·simp
 ·rw[List.getElem?_set_ne (by simp;omega),List.getElem?_set_ne (by simp;omega)]
  exact zH
end
section
variable {μ μ1 μ2:Mem}{K:T->Mem->Prop}{Z:Xp}{x y z h u:Int}{i bi:Nat}{sh kp bt:T}{ah sd:Int}{l l':Option Ls}{m m' n:Option Int}{a:Ls}{r k:Int}{c:Nat}
theorem Ys{p:Int}(s:Hz x y z)(q:K (.int (nmA y z h p)) μ):QA [shT x y z,.int h,.int p] μ K Z:=by
 obtain⟨x1,y1,y2,z1,z2⟩:=id s
 unfold QA
 refine⟨rfl,?_⟩
 refine⟨_,rfl,?_⟩
 refine⟨⟨by omega,by omega⟩,?_⟩
 refine⟨_,rfl,?_⟩
 refine⟨.inr ⟨by unfold big;omega,by unfold big;omega⟩,?_⟩
 refine⟨_,rfl,?_⟩
 refine⟨.inr ⟨by unfold big;omega,by unfold big;omega⟩,?_⟩
 refine⟨_,rfl,?_⟩
 refine⟨by omega,?_⟩
 exact q
theorem UM{p:Int}(s:Hz x y z)(h0:0<=h)(h1:h<y):plA y z h (nmA y z h p)=p+1:=by
 have e1:=(JA (k:=nmA y z h p) (p:=p+1) s h0 h1).mp (KH s h0 h1 (by omega))
 have e2:¬plA y z h (nmA y z h p)<=p:=λw=>by
  have:=(JA (k:=nmA y z h p) (p:=p) s h0 h1).mpr w
  omega
 omega
noncomputable def nOf (y z h t:Int):Option Int:=if t=0 then none else some (nmA y z h (t-1))
theorem YE{t:Int}(s:Hz x y z)(h0:0<=h)(h1:h<y)(t0:0<=t):jl y z (h,0,u) (nOf y z h t) 0=t:=by
 have e:yG y z h (nOf y z h t)=t:=by
  unfold nOf
  split
  ·rename_i w;rw[w];rfl
  ·show plA y z h (nmA y z h (t-1))=t
   rw[UM s h0 h1];omega
 show (if yG y z h (nOf y z h t)<(if (0:Int)<0 then 0 else 0) * z then (if (0:Int)<0 then 0 else 0) * z else yG y z h (nOf y z h t))=t
 rw[e]
 simp
 omega
variable {t:Int}{ks:List Int}{j:Nat}{bs:List Bt}
theorem UK(t0:t≠0):nOf y z h t=some (nmA y z h (t-1)):=if_neg t0
end
section
variable {μ μ1 μ2:Mem}{K:T->Mem->Prop}{Z:Xp}{x y z:Int}{i bi:Nat}{sh kp bt:T}{ah sd:Int}{l l':Option Ls}{m m' n:Option Int}{a:Ls}{r k h c:Int}
noncomputable def z2e(y z h:Int)(n m:Option Int):Int:=match n with
 |some k=>plA y z h k
 |none=>(match m with|none=>0|some mm=>(mm+1) * z)
noncomputable def z1k(f u:Int):Option Int->Option Int
 |none=>none
 |some v=>if v<f then none else some (if u-1<v then u-1 else v)
theorem Q5{o:Option Int}(q:K (opT (z1k a.2.1 a.2.2 o)) μ):kf [lsT (some a),opT o] μ K Z:=by
 unfold kf
 refine⟨rfl,?_⟩
 cases o with
 |none=>exact q
 |some v=>
  refine⟨_,rfl,?_⟩
  have q:K (opT (if v<a.2.1 then none else some (if a.2.2-1<v then a.2.2-1 else v))) μ:=q
  refine zJ (λe=>?_) (λe=>?_)
  ·rw[if_pos e] at q;exact q
  ·rw[if_neg e] at q
   refine⟨_,rfl,?_⟩
   exact q
noncomputable def YT(y z:Int)(n m:Option Int):Option Int:=match n with
 |none=>m
 |some k=>some (k / z / y)
theorem xM(s:Hz x y z)(ho:μ[i]?=some (hsO (shp x y z) ah sd kp l m n bt false))(hn:∀k,n=some k->0<=k/\k<x * y * z)(q:K (opT (YT y z n m)) μ):zX [.mut i] μ K Z:=by
 unfold zX
 refine⟨rfl,?_⟩
 refine⟨_,_,_,ho,rfl,?_⟩
 cases n with
 |none=>
  refine⟨_,_,_,ho,rfl,?_⟩
  exact q
 |some k=>
  refine⟨_,_,_,ho,rfl,?_⟩
  refine⟨_,_,_,ho,rfl,?_⟩
  refine jP s (hn k rfl).1 (hn k rfl).2 ?_
  refine⟨_,rfl,?_⟩
  exact q
end
section
variable {μ μ1 μ2:Mem}{K:T->Mem->Prop}{Z:Xp}{x y z:Int}{i bi ci ti:Nat}{sh kp bt:T}{ah sd:Int}{l l':Option Ls}{m m' n:Option Int}{a:Ls}{r k h t:Int}{cs ts:List T}{bs:List Bt}
noncomputable abbrev qK(ci ti:Nat):T:=Jh 0 0 [.mut ci,.mut ti]
noncomputable abbrev k_(l:Option Ls)(m:Option Int)(n:Nat):T:=.tup [.tup [lsT l,opT m],.int n]
theorem Vu(ho:μ[i]?=some (hsO sh ah sd (qK ci ti) l m n bt false))(hc:μ[ci]?=some (.lst cs))(ht:μ[ti]?=some (.lst ts))(hcl:cs.length<=1000)
  (q1:l'=l->m'=m->K .non μ)
  (q2:¬(l'=l/\m'=m)->∀μ',Ch [i,ci] μ μ'->μ'.length=μ.length->μ'[i]?=some (hsO sh ah sd (qK ci ti) l' m' n bt false)->μ'[ci]?=some (.lst (cs++[k_ l' m' ts.length]))->K .non μ'):zW [.mut i,lsT l',opT m'] μ K Z:=by
 have n1:ci≠i:=λw=>by rw[w,ho] at hc;cases hc
 have n2:ti≠i:=λw=>by rw[w,ho] at ht;cases ht
 unfold zW
 refine⟨rfl,?_⟩
 refine⟨_,ho,?_⟩
 refine QH ho ?_
 refine⟨Z9,_,QQ,?_⟩
 refine Jz (λe=>?_) (λe=>?_)
 ·simp only[Bool.and_eq_true,decide_eq_true_eq] at e
  exact q1 e.1 e.2
 ·have e:¬(l'=l/\m'=m):=λw=>by simp[w.1,w.2] at e
  refine⟨_,_,ho,by show (9:Nat)<900;decide,?_⟩
  have h1:=get_set (y:=hsO sh ah sd (qK ci ti) l m n bt true) ho
  have c1:(μ.set i (hsO sh ah sd (qK ci ti) l m n bt true))[ci]?=some (.lst cs):=by rw[List.getElem?_set_ne (Ne.symm n1)];exact hc
  have t1:(μ.set i (hsO sh ah sd (qK ci ti) l m n bt true))[ti]?=some (.lst ts):=by rw[List.getElem?_set_ne (Ne.symm n2)];exact ht
  refine⟨_,_,_,h1,rfl,⟨0,(0,_),[.mut ci,.mut ti]⟩,⟨rfl,rfl⟩,?_⟩
  refine⟨⟨_,c1⟩,_,t1,_,c1,by unfold room;omega,?_⟩
  have h2:((μ.set i (hsO sh ah sd (qK ci ti) l m n bt true)).set ci (.lst (cs++[k_ l' m' ts.length])))[i]?=some (hsO sh ah sd (qK ci ti) l m n bt true):=by rw[List.getElem?_set_ne n1];exact h1
  refine⟨_,_,h2,by show (9:Nat)<900;decide,?_⟩
  refine⟨_,_,get_set h2,by show (9:Nat)<900;decide,?_⟩
  refine⟨_,_,get_set (get_set h2),by show (9:Nat)<900;decide,?_⟩
  refine q2 e _ (((((Ch.set.mono (by simp)).trans (Ch.set.mono (by simp))).trans (Ch.set.mono (by simp))).trans (Ch.set.mono (by simp))).trans (Ch.set.mono (by simp))) (by simp) (get_set (get_set (get_set h2))) ?_
  rw[List.getElem?_set_ne (Ne.symm n1),List.getElem?_set_ne (Ne.symm n1),List.getElem?_set_ne (Ne.symm n1)]
  exact get_set c1
structure Kp(μ μ':Mem)(i ci ti:Nat)(sh:T)(ah sd:Int)(l l':Option Ls)(m m' n:Option Int)(bt:T)(cs ts:List T):Prop where
 ch:Ch [i,ci] μ μ'
 ln:μ'.length=μ.length
 ho:μ'[i]?=some (hsO sh ah sd (qK ci ti) l' m' n bt false)
 hc:μ'[ci]?=some (.lst (cs++if l'=l/\m'=m then [] else [k_ l' m' ts.length]))
theorem kP(ho:μ[i]?=some (hsO sh ah sd (qK ci ti) l m n bt false))(hc:μ[ci]?=some (.lst cs))(ht:μ[ti]?=some (.lst ts))(hcl:cs.length<=1000)
  (q:∀μ',Kp μ μ' i ci ti sh ah sd l l' m m' n bt cs ts->K .non μ'):zW [.mut i,lsT l',opT m'] μ K Z:=by
 refine Vu ho hc ht hcl (λe1 e2=>q μ ⟨Ch.refl,rfl,by rw[e1,e2];exact ho,by rw[if_pos ⟨e1,e2⟩,List.append_nil];exact hc⟩) λe μ' ch hl g1 g2=>q μ' ⟨ch,hl,g1,by rw[if_neg e];exact g2⟩
theorem yt(ho:μ[i]?=some (hsO (shp x y z) ah sd (qK ci ti) l m n bt false))(hc:μ[ci]?=some (.lst cs))(ht:μ[ti]?=some (.lst ts))(hcl:cs.length<=1000)(ok:LsOk x y a)
  (q:∀μ',Kp μ μ' i ci ti (shp x y z) ah sd l (some a) m m n bt cs ts->K .non μ'):zw [.mut i,lsT (some a)] μ K Z:=by
 unfold zw
 refine⟨rfl,?_⟩
 refine⟨_,ho,?_⟩
 refine qZ ho ?_
 refine⟨_,_,_,ho,rfl,?_⟩
 refine kE ok.h0 ok.h1 ok.f0 ok.fu ok.ux ?_
 refine⟨_,ho,?_⟩
 refine⟨_,_,_,ho,rfl,?_⟩
 exact kP ho hc ht hcl q
noncomputable def mnI(a b:Int):Int:=if b<a then b else a
noncomputable def mbI (x sd:Int)(m:Option Int)(mo:Int):Int:=match m with
 |none=>mnI (mo+sd) (x-1)
 |some v=>if mo<=v then v else mnI (mo+sd) (x-1)
theorem KJ{mo:Int}(ho:μ[i]?=some (hsO (shp x y z) ah sd kp l m n bt false))(q:K (.int (mbI x sd m mo)) μ):zY [.mut i,.int mo] μ K Z:=by
 unfold zY
 refine⟨rfl,?_⟩
 refine⟨_,_,_,ho,rfl,?_⟩
 have fin:∀τ:Sl,τ=[some (.mut i),some (.int mo)]->K (.int (mnI (mo+sd) (x-1))) μ->zU (qf.drop 1) τ μ (En.fn K Z):=λτ e q=>by
  subst e
  refine⟨_,_,_,ho,rfl,?_⟩
  refine⟨_,_,_,ho,rfl,?_⟩
  exact q
 cases m with
 |none=>exact fin _ rfl q
 |some mm=>
  refine⟨_,_,_,ho,rfl,?_⟩
  have q:K (.int (if mo<=mm then mm else mnI (mo+sd) (x-1))) μ:=q
  refine zJ (λe=>?_) (λe=>?_)
  ·rw[if_pos e] at q
   refine⟨_,_,_,ho,rfl,?_⟩
   exact q
  ·rw[if_neg e] at q
   exact fin _ rfl q
structure Ho(μ μ':Mem)(i ci ti:Nat)(x y z sd:Int)(h:Int)(m:Option Int)(t k:Int)(bt:T)(cs ts:List T):Prop where
 ch:Ch [i,ci] μ μ'
 ln:μ'.length=μ.length
 ho:μ'[i]?=some (hsO (shp x y z) 400 sd (qK ci ti) (some (h,0,x)) (some (mbI x sd m ((t+k-1) / z))) (nOf y z h (t+k)) bt false)
 hc:μ'[ci]?=some (.lst (cs++if some (mbI x sd m ((t+k-1) / z))=m then [] else [k_ (some (h,0,x)) (some (mbI x sd m ((t+k-1) / z))) ts.length]))
theorem uL(s:Hz x y z)(x4:x<=400)(h0:0<=h)(h1:h<y)(ho:μ[i]?=some (hsO (shp x y z) 400 sd (qK ci ti) (some (h,0,x)) m (nOf y z h t) bt false))(hc:μ[ci]?=some (.lst cs))(ht:μ[ti]?=some (.lst ts))(hcl:cs.length<=1000)(hm:t=0->m=none)(t0:0<=t)(k1:1<=k)(k2:k<=z)(tk:t+k<=x * z)
  (q:∀μ',Ho μ μ' i ci ti x y z sd h m t k bt cs ts->K (kS h t (t+k)) μ'):zP [.mut i,.int 0,.int k] μ K Z:=by
 obtain⟨x1,y1,y2,z1,z2⟩:=id s
 have ok:LsOk x y (h,0,x):=⟨h0,h1,Int.le_refl _,by show 0<x;omega,Int.le_refl _⟩
 have bg:jl y z (h,0,x) (nOf y z h t) 0=t:=YE s h0 h1 t0
 have ed:(t+k-1) / z<x:=Int.ediv_lt_of_lt_mul (by omega) (by omega)
 have hn:∀k,nOf y z h t=some k->0<=k/\k<x * y * z:=λk e=>by
  unfold nOf at e
  split at e
  ·cases e
  ·cases e
   exact XC s h0 h1 (by omega) (by omega)
 have nl:nOf y z h t=none->m=none:=λe=>by
  unfold nOf at e
  split at e
  ·exact hm (by assumption)
  ·cases e
 unfold zP
 refine⟨rfl,?_⟩
 refine⟨_,ho,?_⟩
 refine qZ ho ?_
 refine⟨_,ho,?_⟩
 refine xW s ho nl hn k1 k2 (λe=>by rw[bg] at e;exact absurd e (by show ¬x * z<t+k;omega)) (λ_ e=>by rw[bg] at e;exact absurd e (by unfold byP;omega)) λe1 e2=>?_
 rw[bg]
 refine⟨_,ho,?_⟩
 refine⟨_,_,_,ho,rfl,?_⟩
 refine⟨_,ho,?_⟩
 refine⟨_,_,_,ho,rfl,?_⟩
 refine⟨⟨by omega,by omega⟩,?_⟩
 refine KJ ho ?_
 refine kP (l':=some (h,0,x)) (m':=some (mbI x sd m ((t+k-1) / z))) ho hc ht hcl λμ' P=>?_
 refine⟨_,_,_,P.ho,rfl,?_⟩
 refine kQ s (by omega) (by omega) h0 h1 ?_
 refine⟨_,_,P.ho,by show (9:Nat)<900;decide,?_⟩
 have nci:ci≠i:=λw=>by rw[w,ho] at hc;cases hc
 refine q _ ⟨P.ch.trans (Ch.set.mono (by simp)),by simp[P.ln],?_,?_⟩
 ·rw[show nOf y z h (t+k)=some (nmA y z h (t+k-1)) from if_neg (by omega)]
  exact get_set P.ho
 ·rw[List.getElem?_set_ne (Ne.symm nci)]
  have:=P.hc
  simpa using this
theorem K8(s:Hz x y z)(x4:x<=400)(hb:z<=9)(h0:0<=h)(h1:h<y)(ho:μ[i]?=some (hsO (shp x y z) 400 sd (qK ci ti) (some (h,0,x)) m (nOf y z h t) bt false))(hc:μ[ci]?=some (.lst cs))(ht:μ[ti]?=some (.lst ts))(hcl:cs.length<=1000)(hm:t=0->m=none)(t0:0<=t)(k1:1<=k)(k2:k<=z)(tk:t+k<=x * z)
  (q:∀μ' μ'' j b',Ho μ μ' i ci ti x y z sd h m t k bt cs ts->Ch [i] μ' μ''->μ.length<=j->μ.length<=b'->j≠b'->μ''[i]?=some (hsO (shp x y z) 400 sd (qK ci ti) (some (h,0,x)) (some (mbI x sd m ((t+k-1) / z))) (nOf y z h (t+k)) (.mut b') false)->μ''[b']?=some (.lst [])->μ''[j]?=some (.lst ((nmL y z h t k).map T.int))->K (.mut j) μ''):zD [.mut i,.int 0,.int k] μ K Z:=by
 obtain⟨x1,y1,y2,z1,z2⟩:=id s
 have hil:=(List.getElem?_eq_some_iff.mp ho).1
 have xz:x * z<=400 * 9:=Int.mul_le_mul x4 hb (by omega) (by omega)
 unfold zD
 refine⟨rfl,?_⟩
 refine⟨_,ho,?_⟩
 refine uL s x4 h0 h1 ho hc ht hcl hm t0 k1 k2 tk λμ' P=>?_
 refine⟨_,_,zi P.ho,by show (9:Nat)<900;decide,?_⟩
 refine⟨_,_,_,get_set (zi P.ho),rfl,?_⟩
 have ln:=P.ln
 refine jV s (by omega) t0 (by omega) (by omega) tk h0 h1 ?_
 rw[show t+k-t=k by omega]
 refine q μ' _ _ _ P (((Ch.app.mono (by simp)).trans Ch.set).trans (Ch.app.mono (by simp))) (by simp;omega) (by omega) (by simp) (zi (get_set (zi P.ho))) ?_ zH
 refine zi ?_
 rw[List.getElem?_set_ne (by omega)]
 exact zH
theorem WZ(s:Hz x y z)(x4:x<=400)(h0:0<=h)(h1:h<y)(ho:μ[i]?=some (hsO (shp x y z) 400 sd (qK ci ti) (some (h,0,x)) m (nOf y z h t) (.mut bi) false))(hc:μ[ci]?=some (.lst cs))(ht:μ[ti]?=some (.lst ts))(hbi:μ[bi]?=some (.lst (bs.map (btT h))))(nb:bi≠ci)(hl:bs.length<=900)(hbe:∀p∈bs,p.1<=p.2)(hcl:cs.length<=1000)(hm:t=0->m=none)(t0:0<=t)(k1:1<=k)(k2:k<=z)(tk:t+k<=x * z)
  (q:∀μ' μ'',Ho μ μ' i ci ti x y z sd h m t k (.mut bi) cs ts->Ch [bi] μ' μ''->μ''[i]?=some (hsO (shp x y z) 400 sd (qK ci ti) (some (h,0,x)) (some (mbI x sd m ((t+k-1) / z))) (nOf y z h (t+k)) (.mut bi) false)->μ''[bi]?=some (.lst ((bs++[(t,t+k)]).map (btT h)))->K (.int ((nmB y z h (bs++[(t,t+k)])).length:Int)) μ''):zv [.mut i,.int 0,.int k] μ K Z:=by
 have ne:bi≠i:=λw=>by rw[w,ho] at hbi;cases hbi
 unfold zv
 refine⟨rfl,?_⟩
 refine⟨_,ho,?_⟩
 refine uL s x4 h0 h1 ho hc ht hcl hm t0 k1 k2 tk λμ' P=>?_
 have gb:=P.ch.get hbi (by simp[ne,nb])
 refine⟨_,_,_,P.ho,rfl,?_⟩
 refine⟨⟨_,gb⟩,_,gb,by rw[List.length_map];unfold room;omega,?_⟩
 have h2:(μ'.set bi (.lst (bs.map (btT h)++[kS h t (t+k)])))[i]?=some (hsO (shp x y z) 400 sd (qK ci ti) (some (h,0,x)) (some (mbI x sd m ((t+k-1) / z))) (nOf y z h (t+k)) (.mut bi) false):=by rw[List.getElem?_set_ne ne];exact P.ho
 have gb2:(μ'.set bi (.lst (bs.map (btT h)++[kS h t (t+k)])))[bi]?=some (.lst ((bs++[(t,t+k)]).map (btT h))):=by
  rw[get_set gb,List.map_append];rfl
 refine⟨_,_,_,h2,rfl,?_⟩
 refine kF (y:=y) (z:=z) gb2 (by simp;omega) (λp hp=>?_) ?_
 ·rcases List.mem_append.mp hp with hp|hp
  ·exact hbe p hp
  ·rw[List.mem_singleton.mp hp];show _<=_+k;omega
 ·exact q _ _ P Ch.set h2 gb2
theorem Vf(s:Hz x y z)(ho:μ[i]?=some (hsO (shp x y z) ah sd (qK ci ti) (some a) m n bt false))(hc:μ[ci]?=some (.lst cs))(ht:μ[ti]?=some (.lst ts))(hcl:cs.length<=1000)(hn:∀k,n=some k->0<=k/\k<x * y * z)
  (q:∀μ' μ'' b' u,Kp μ μ' i ci ti (shp x y z) ah sd (some a) none m m n bt cs ts->Ch [i] μ' μ''->μ.length<=b'->μ''[i]?=some (hsO (shp x y z) ah sd (qK ci ti) none m n (.mut b') false)->μ''[b']?=some (.lst [])->K (.tup [lsT (some a),opT u]) μ''):zM [.mut i] μ K Z:=by
 have hil:=(List.getElem?_eq_some_iff.mp ho).1
 unfold zM
 refine⟨rfl,?_⟩
 refine⟨_,ho,?_⟩
 refine qZ ho ?_
 refine⟨_,ho,?_⟩
 unfold zA
 refine⟨rfl,?_⟩
 refine⟨_,_,_,ho,rfl,?_⟩
 refine⟨_,_,_,ho,rfl,?_⟩
 refine⟨_,_,_,ho,rfl,?_⟩
 refine⟨_,ho,?_⟩
 refine xM s ho hn ?_
 refine Q5 ?_
 refine⟨_,ho,?_⟩
 refine⟨_,_,_,ho,rfl,?_⟩
 refine kP (l':=none) ho hc ht hcl λμ' P=>?_
 have ln:=P.ln
 refine⟨_,_,zi P.ho,by show (9:Nat)<900;decide,?_⟩
 refine q μ' _ μ'.length _ P ((Ch.app.mono (by simp)).trans Ch.set) (by omega) (get_set (zi P.ho)) ?_
 rw[List.getElem?_set_ne (by omega)]
 exact zH
end
section
variable {μ μ1 μ2:Mem}{K:T->Mem->Prop}{Z:Xp}{x y z:Int}{i bi ci ti di:Nat}{sh kp bt:T}{ah sd:Int}{l l':Option Ls}{m m' n:Option Int}{a:Ls}{r k h t kk cell w:Int}{ts:List T}{bs:List Bt}{j:Nat}{o12 o13 o14 o15:Option T}
@[reducible] noncomputable def qg:List Ds:=[(zf 12 (zd wb [(eV 11)])),(zf 13 (zd zN [(eV 12),(eC (.int 8))])),(zf 14 (zb .Add (eC (.int 1)) (zd zN [(eV 12),(eIx (eV 1) (eC (.int 2)))]))),(sIf (vx (tE (zj .Eq (eV 13) (eC (.int 7)))) (tE (zj .IsNot (eIx (eV 8) (eC (.int 0))) (eC .non)))) [(zf 8 (zE [(eC .non),(eIx (eV 8) (eC (.int 1)))])),(zo (wX (eV 7) (zE [(eV 8),(eB1 wM (eV 4))]))),(sIf (tE (zj .NotEq (eIx (zt 45 zM (eV 0) []) (eC (.int 0))) (zE [(eV 3),(eC (.int 0)),(eIx (eV 1) (eC (.int 0)))]))) [(zG (eC (.bl false)))] []),(zf 10 (eC (.int 0)))] [(sIf (tOr (tE (zj .Eq (eV 13) (eC (.int 6)))) (tE (zj .Is (eIx (eV 8) (eC (.int 0))) (eC .non)))) [(sIf (tE (zj .Is (eIx (eV 8) (eC (.int 0))) (eC .non))) [(zo (wX (eV 7) (zE [(zE [(zE [(eV 3),(eC (.int 0)),(eIx (eV 1) (eC (.int 0)))]),(eIx (eV 8) (eC (.int 1)))]),(eB1 wM (eV 4))])))] []),(zf 8 (zE [(zE [(eV 3),(eC (.int 0)),(eIx (eV 1) (eC (.int 0)))]),(eIx (eV 8) (eC (.int 1)))])),(zo (zt 45 zw (eV 0) [(zE [(eV 3),(eC (.int 0)),(eIx (eV 1) (eC (.int 0)))])]))] [(sIf (vx (tE (zj .Eq (eV 13) (eC (.int 5)))) (tE (zj .Gt (eV 10) (eC (.int 0))))) [(zo (ju (eV 4) (zt 45 zV (eV 0) [(eC (.int 1))]))),(zf 10 (zb .Sub (eV 10) (eC (.int 1))))] [(sIf (tE (zj .Lt (zb .FloorDiv (zb .Sub (zb .Add (eV 9) (eV 14)) (eC (.int 1))) (eIx (eV 1) (eC (.int 2)))) (eIx (eV 1) (eC (.int 0))))) [(zf 15 (zb .FloorDiv (zb .Sub (zb .Add (eV 9) (eV 14)) (eC (.int 1))) (eIx (eV 1) (eC (.int 2))))),(sIf (tOr (tE (zj .Is (eIx (eV 8) (eC (.int 1))) (eC .non))) (tE (zj .Gt (eV 15) (eIx (eV 8) (eC (.int 1)))))) [(zf 8 (zE [(eIx (eV 8) (eC (.int 0))),(eB2 v5 (zb .Add (eV 15) (eV 2)) (zb .Sub (eIx (eV 1) (eC (.int 0))) (eC (.int 1))))])),(zo (wX (eV 7) (zE [(eV 8),(eB1 wM (eV 4))])))] []),(zf 9 (zb .Add (eV 9) (eV 14))),(sIf (tE (zj .Lt (eV 13) (eC (.int 2)))) [(zf 10 (zt 45 zv (eV 0) [(eC (.int 0)),(eV 14)]))] [(zo (ju (eV 4) (zt 45 zD (eV 0) [(eC (.int 0)),(eV 14)]))),(zf 10 (eC (.int 0)))])] [])])])]),(sIf (tOr (tE (zj .NotEq (eV 5) (eV 7))) (tE (zj .NotEq (zt 45 qt (eV 0) []) (eV 8)))) [(zG (eC (.bl false)))] [])]
noncomputable abbrev Jt:=Option Ls×Option Int×Nat
noncomputable abbrev jt(e:Jt):T:=k_ e.1 e.2.1 e.2.2
theorem z1E:∀e:Jt,eqT (jt e) (jt e)=some true:=λe=>by
 show eqL [.tup [lsT e.1,opT e.2.1],.int e.2.2] [.tup [lsT e.1,opT e.2.1],.int e.2.2]=some true
 simp only[eqL,eqT]
 rw[show eqT (lsT e.1) (lsT e.1)=some true by rw[Y0];simp,show eqT (opT e.2.1) (opT e.2.1)=some true by rw[XS];simp]
 simp
theorem V2:∀es:List Jt,eqL (es.map jt) (es.map jt)=some true
 |[]=>rfl
 |e::r=>by
  show (match eqT (jt e) (jt e),eqL (r.map jt) (r.map jt) with|some a,some b=>some (a&&b)|_,_=>none)=some true
  rw[z1E,V2 r];rfl
theorem z0t(e:Jt):wY (jt e)<=3:=by
 obtain⟨l,m,n⟩:=e
 cases l<;>cases m<;>simp[lsT,opT,qo,wY]
theorem QN:∀es:List Jt,qo (es.map jt)<=40
 |[]=>by simp[qo]
 |e::r=>by
  have:=QN r
  have:=z0t e
  show max (wY (jt e)) (qo (r.map jt))<=40
  omega
variable {es:List Jt}
structure S42(x y z sd h:Int):Prop where
 s:Hz x y z
 x4:x<=400
 z9:z<=9
 h0:0<=h
 h1:h<y
 sd0:0<=sd
structure D42(μ:Mem)(i bi ci ti di:Nat)(x y z sd h:Int)(l:Option Ls)(m:Option Int)(t kk:Int)(bs:List Bt)(es:List Jt)(ts:List T)(j:Nat):Prop where
 ho:μ[i]?=some (hsO (shp x y z) 400 sd (qK ci ti) l m (nOf y z h t) (.mut bi) false)
 hb:μ[bi]?=some (.lst (bs.map (btT h)))
 hc:μ[ci]?=some (.lst (es.map jt))
 ht:μ[ti]?=some (.lst ts)
 hd:μ[di]?=some (.lst (es.map jt))
 nk:((nmB y z h bs).length:Int)=kk
 ok:BOk x z bs
 m0:t=0->m=none
 m1:∀v,m=some v->v<x
 t0:0<=t
 t1:t<=x * z
 bl:bs.length<=j
 kl:kk<=9 * j
 el:es.length<=j
 tl:ts.length<=9 * j
 n1:ci≠ti
 n2:ci≠di
 n3:ti≠di
 n4:bi≠ci
 n5:bi≠ti
 n6:bi≠di
theorem D42.cp(D:D42 μ i bi ci ti di x y z sd h l m t kk bs es ts j)(e1:μ1[i]?=μ[i]?)(e2:μ1[bi]?=μ[bi]?)(e3:μ1[ci]?=μ[ci]?)(e4:μ1[ti]?=μ[ti]?)(e5:μ1[di]?=μ[di]?):D42 μ1 i bi ci ti di x y z sd h l m t kk bs es ts j:=
 ⟨e1.trans D.ho,e2.trans D.hb,e3.trans D.hc,e4.trans D.ht,e5.trans D.hd,D.nk,D.ok,D.m0,D.m1,D.t0,D.t1,D.bl,D.kl,D.el,D.tl,D.n1,D.n2,D.n3,D.n4,D.n5,D.n6⟩
theorem D42.next(D:D42 μ i bi ci ti di x y z sd h l m t kk bs es ts j):D42 μ i bi ci ti di x y z sd h l m t kk bs es ts (j+1):=
 ⟨D.ho,D.hb,D.hc,D.ht,D.hd,D.nk,D.ok,D.m0,D.m1,D.t0,D.t1,by have:=D.bl;omega,by have:=D.kl;push_cast;omega,by have:=D.el;omega,by have:=D.tl;omega,D.n1,D.n2,D.n3,D.n4,D.n5,D.n6⟩
noncomputable abbrev ntT(l:Option Ls)(m:Option Int):T:=.tup [lsT l,opT m]
noncomputable abbrev t42(i:Nat)(x y z sd h:Int)(ti ci di:Nat)(c6:T)(l:Option Ls)(m:Option Int)(t kk cell:Int)(o12 o13 o14 o15:Option T):Sl:=[some (.mut i),some (shT x y z),some (.int sd),some (.int h),some (.mut ti),some (.mut ci),some c6,some (.mut di),some (ntT l m),some (.int t),some (.int kk),some (.int cell),o12,o13,o14,o15]
theorem VB{E:En}{c6:T}(D:D42 μ i bi ci ti di x y z sd h l m t kk bs es ts j)(q:E.nx (t42 i x y z sd h ti ci di c6 l m t kk cell o12 o13 o14 o15) μ):zU (qg.drop 4) (t42 i x y z sd h ti ci di c6 l m t kk cell o12 o13 o14 o15) μ E:=by
 refine⟨(es.map jt,es.map jt),⟨D.hc,D.hd⟩,QN _,_,V2 _,?_⟩
 refine⟨_,D.ho,?_⟩
 refine QH D.ho ?_
 refine⟨Z9,_,QQ,?_⟩
 rw[decide_eq_true rfl,decide_eq_true rfl]
 exact q
theorem wK{n:Nat}(h:es.length<=n):(es.map jt).length<=n:=by rw[List.length_map];exact h
theorem z20(S:S42 x y z sd h)(D:D42 μ i bi ci ti di x y z sd h l m t kk bs es ts j):∀k,nOf y z h t=some k->0<=k/\k<x * y * z:=λk e=>by
 have t0:=D.t0
 have t1:=D.t1
 unfold nOf at e
 split at e
 ·cases e
 ·cases e
  exact XC S.s S.h0 S.h1 (by omega) (by omega)
theorem UX{E:En}{c6:T}(S:S42 x y z sd h)(D:D42 μ i bi ci ti di x y z sd h none m t kk bs es ts j)(hj:j<=40)
  (q:∀μ' es',D42 μ' i bi ci ti di x y z sd h (some (h,0,x)) m t kk bs es' ts (j+1)->E.nx (t42 i x y z sd h ti ci di c6 (some (h,0,x)) m t kk cell o12 (some (.int w)) o14 o15) μ') :
  zU (qg.drop 3) (t42 i x y z sd h ti ci di c6 none m t kk cell o12 (some (.int w)) o14 o15) μ E:=by
 obtain⟨x1,y1,y2,z1,z2⟩:=id S.s
 have el:=D.el
 have ni:di≠i:=λe=>by have:=D.hd;rw[e,D.ho] at this;cases this
 have ti':ti≠i:=λe=>by have:=D.ht;rw[e,D.ho] at this;cases this
 have nbi:bi≠i:=λe=>by have:=D.hb;rw[e,D.ho] at this;cases this
 have go:zU [(sIf (tE (zj .Is (eIx (eV 8) (eC (.int 0))) (eC .non))) [(zo (wX (eV 7) (zE [(zE [(zE [(eV 3),(eC (.int 0)),(eIx (eV 1) (eC (.int 0)))]),(eIx (eV 8) (eC (.int 1)))]),(eB1 wM (eV 4))])))] []),(zf 8 (zE [(zE [(eV 3),(eC (.int 0)),(eIx (eV 1) (eC (.int 0)))]),(eIx (eV 8) (eC (.int 1)))])),(zo (zt 45 zw (eV 0) [(zE [(eV 3),(eC (.int 0)),(eIx (eV 1) (eC (.int 0)))])]))] (t42 i x y z sd h ti ci di c6 none m t kk cell o12 (some (.int w)) o14 o15) μ (E.nxt λτ μ=>zU (qg.drop 4) τ μ E):=by
  refine⟨_,rfl,?_⟩
  refine⟨⟨_,D.hd⟩,_,rfl,_,rfl,_,D.ht,_,D.hd,by have:=wK (n:=41) (es:=es) (by omega);unfold room;omega,?_⟩
  refine⟨_,rfl,_,rfl,?_⟩
  have h1:(μ.set di (.lst (es.map jt++[k_ (some (h,0,x)) m ts.length])))[i]?=some (hsO (shp x y z) 400 sd (qK ci ti) none m (nOf y z h t) (.mut bi) false):=by rw[List.getElem?_set_ne ni];exact D.ho
  have h2:(μ.set di (.lst (es.map jt++[k_ (some (h,0,x)) m ts.length])))[ci]?=some (.lst (es.map jt)):=by rw[List.getElem?_set_ne (Ne.symm D.n2)];exact D.hc
  have h3:(μ.set di (.lst (es.map jt++[k_ (some (h,0,x)) m ts.length])))[ti]?=some (.lst ts):=by rw[List.getElem?_set_ne (Ne.symm D.n3)];exact D.ht
  have h4:(μ.set di (.lst (es.map jt++[k_ (some (h,0,x)) m ts.length])))[di]?=some (.lst ((es++[(some (h,0,x),m,ts.length)]).map jt)):=by rw[get_set D.hd,List.map_append];rfl
  have h5:(μ.set di (.lst (es.map jt++[k_ (some (h,0,x)) m ts.length])))[bi]?=some (.lst (bs.map (btT h))):=by rw[List.getElem?_set_ne (Ne.symm D.n6)];exact D.hb
  refine⟨_,h1,?_⟩
  refine⟨_,rfl,?_⟩
  refine yt (a:=(h,0,x)) h1 h2 h3 (wK (by omega)) ⟨S.h0,S.h1,Int.le_refl _,by show 0<x;omega,Int.le_refl _⟩ λμ' P=>?_
  have hc':=P.hc
  rw[if_neg (by simp)] at hc'
  have D':D42 μ' i bi ci ti di x y z sd h (some (h,0,x)) m t kk bs (es++[(some (h,0,x),m,ts.length)]) ts (j+1):=
   ⟨P.ho,P.ch.get h5 (by simp[nbi,D.n4]),by rw[List.map_append];exact hc',P.ch.get h3 (by simp[ti',Ne.symm D.n1]),P.ch.get h4 (by simp[ni,Ne.symm D.n2]),D.nk,D.ok,D.m0,D.m1,D.t0,D.t1,by have:=D.bl;omega,by have:=D.kl;push_cast;omega,by simp;omega,by have:=D.tl;omega,D.n1,D.n2,D.n3,D.n4,D.n5,D.n6⟩
  have fin:∀τ:Sl,τ=t42 i x y z sd h ti ci di c6 (some (h,0,x)) m t kk cell o12 (some (.int w)) o14 o15->zU (qg.drop 4) τ μ' E:=λτ e=>by subst e;exact VB D' (q μ' _ D')
  exact fin _ rfl
 refine zJ (λe=>?_) (λe=>?_)
 ·refine⟨_,rfl,?_⟩
  refine zJ (λe2=>?_) (λe2=>?_)
  ·exact go
  ·refine⟨_,rfl,?_⟩
   exact go
 ·refine zJ (λe2=>?_) (λe2=>?_)
  ·exact go
  ·refine⟨_,rfl,?_⟩
   exact go
end
section
variable {μ μ1 μ2:Mem}{K:T->Mem->Prop}{Z:Xp}{x y z:Int}{i bi ci ti di:Nat}{sh kp bt:T}{ah sd:Int}{l l':Option Ls}{m m' n:Option Int}{a:Ls}{r k h t kk cell w:Int}{ts:List T}{bs:List Bt}{j:Nat}{o12 o13 o14 o15:Option T}{es:List Jt}
abbrev z0o(E:En)(i:Nat)(x y z sd h:Int)(ti ci di:Nat)(c6:T)(cell:Int)(j:Nat):Prop:=∀μ' bi l m t kk bs es ts o12 o13 o14 o15,(l=none\/l=some (h,0,x))->D42 μ' i bi ci ti di x y z sd h l m t kk bs es ts (j+1)->E.nx (t42 i x y z sd h ti ci di c6 l m t kk cell o12 o13 o14 o15) μ'
theorem ya{E:En}{c6:T}(q:z0o E i x y z sd h ti ci di c6 cell j)(hl:l=none\/l=some (h,0,x))(D:D42 μ i bi ci ti di x y z sd h l m t kk bs es ts (j+1))(τ:Sl)(e:τ=t42 i x y z sd h ti ci di c6 l m t kk cell o12 o13 o14 o15):zU (qg.drop 4) τ μ E:=by
 subst e
 exact VB D (q μ _ _ _ _ _ _ _ _ _ _ _ _ hl D)
structure Nn(μ:Mem)(i bi ti di:Nat):Prop where
 d:di≠i
 t:ti≠i
 b:bi≠i
theorem D42.nn(D:D42 μ i bi ci ti di x y z sd h l m t kk bs es ts j):Nn μ i bi ti di:=
 ⟨λe=>(by have:=D.hd;rw[e,D.ho] at this;cases this),λe=>(by have:=D.ht;rw[e,D.ho] at this;cases this),λe=>(by have:=D.hb;rw[e,D.ho] at this;cases this)⟩
structure Dd(μ:Mem)(i bi ci ti di:Nat)(x y z sd h:Int)(l:Option Ls)(m:Option Int)(t:Int)(bs:List Bt)(es:List Jt)(ts:List T)(e:Jt):Prop where
 ho:(μ.set di (.lst (es.map jt++[jt e])))[i]?=some (hsO (shp x y z) 400 sd (qK ci ti) l m (nOf y z h t) (.mut bi) false)
 hc:(μ.set di (.lst (es.map jt++[jt e])))[ci]?=some (.lst (es.map jt))
 ht:(μ.set di (.lst (es.map jt++[jt e])))[ti]?=some (.lst ts)
 hd:(μ.set di (.lst (es.map jt++[jt e])))[di]?=some (.lst ((es++[e]).map jt))
 hb:(μ.set di (.lst (es.map jt++[jt e])))[bi]?=some (.lst (bs.map (btT h)))
theorem D42.dd(D:D42 μ i bi ci ti di x y z sd h l m t kk bs es ts j)(e:Jt):Dd μ i bi ci ti di x y z sd h l m t bs es ts e:=
 ⟨by rw[List.getElem?_set_ne D.nn.d];exact D.ho,by rw[List.getElem?_set_ne (Ne.symm D.n2)];exact D.hc,by rw[List.getElem?_set_ne (Ne.symm D.n3)];exact D.ht,by rw[get_set D.hd,List.map_append];rfl,by rw[List.getElem?_set_ne (Ne.symm D.n6)];exact D.hb⟩
theorem z1X(S:S42 x y z sd h):LsOk x y (h,0,x):=⟨S.h0,S.h1,Int.le_refl _,by show 0<x;have:=S.s.x1;omega,Int.le_refl _⟩
theorem z1c{E:En}{c6:T}(S:S42 x y z sd h)(D:D42 μ i bi ci ti di x y z sd h (some (h,0,x)) m t kk bs es ts j)(hj:j<=40)(k1:1<=k)(k2:k<=z)(q:z0o E i x y z sd h ti ci di c6 cell j) :
  zU (qg.drop 3) (t42 i x y z sd h ti ci di c6 (some (h,0,x)) m t kk cell o12 (some (.int w)) (some (.int k)) o15) μ E:=by
 obtain⟨x1,y1,y2,z1,z2⟩:=id S.s
 have z9:=S.z9
 have el:=D.el
 have N:=D.nn
 have rm:(es.map jt).length<room:=by have:=wK (n:=41) (es:=es) (by omega);unfold room;omega
 have lea:zU [(sIf (tE (zj .Is (eIx (eV 8) (eC (.int 0))) (eC .non))) [(zo (wX (eV 7) (zE [(zE [(zE [(eV 3),(eC (.int 0)),(eIx (eV 1) (eC (.int 0)))]),(eIx (eV 8) (eC (.int 1)))]),(eB1 wM (eV 4))])))] []),(zf 8 (zE [(zE [(eV 3),(eC (.int 0)),(eIx (eV 1) (eC (.int 0)))]),(eIx (eV 8) (eC (.int 1)))])),(zo (zt 45 zw (eV 0) [(zE [(eV 3),(eC (.int 0)),(eIx (eV 1) (eC (.int 0)))])]))] (t42 i x y z sd h ti ci di c6 (some (h,0,x)) m t kk cell o12 (some (.int w)) (some (.int k)) o15) μ (E.nxt λτ μ=>zU (qg.drop 4) τ μ E):=by
  refine⟨_,rfl,?_⟩
  refine⟨_,rfl,_,rfl,?_⟩
  refine⟨_,D.ho,?_⟩
  refine⟨_,rfl,?_⟩
  refine yt (a:=(h,0,x)) D.ho D.hc D.ht (wK (by omega)) (z1X S) λμ' P=>?_
  have hc':=P.hc
  rw[if_pos ⟨rfl,rfl⟩,List.append_nil] at hc'
  have D':D42 μ' i bi ci ti di x y z sd h (some (h,0,x)) m t kk bs es ts j:=
   ⟨P.ho,P.ch.get D.hb (by simp[N.b,D.n4]),hc',P.ch.get D.ht (by simp[N.t,Ne.symm D.n1]),P.ch.get D.hd (by simp[N.d,Ne.symm D.n2]),D.nk,D.ok,D.m0,D.m1,D.t0,D.t1,D.bl,D.kl,D.el,D.tl,D.n1,D.n2,D.n3,D.n4,D.n5,D.n6⟩
  exact ya q (.inr rfl) D'.next _ rfl
 have oth:w≠7->w≠6->zU [(sIf (vx (tE (zj .Eq (eV 13) (eC (.int 5)))) (tE (zj .Gt (eV 10) (eC (.int 0))))) [(zo (ju (eV 4) (zt 45 zV (eV 0) [(eC (.int 1))]))),(zf 10 (zb .Sub (eV 10) (eC (.int 1))))] [(sIf (tE (zj .Lt (zb .FloorDiv (zb .Sub (zb .Add (eV 9) (eV 14)) (eC (.int 1))) (eIx (eV 1) (eC (.int 2)))) (eIx (eV 1) (eC (.int 0))))) [(zf 15 (zb .FloorDiv (zb .Sub (zb .Add (eV 9) (eV 14)) (eC (.int 1))) (eIx (eV 1) (eC (.int 2))))),(sIf (tOr (tE (zj .Is (eIx (eV 8) (eC (.int 1))) (eC .non))) (tE (zj .Gt (eV 15) (eIx (eV 8) (eC (.int 1)))))) [(zf 8 (zE [(eIx (eV 8) (eC (.int 0))),(eB2 v5 (zb .Add (eV 15) (eV 2)) (zb .Sub (eIx (eV 1) (eC (.int 0))) (eC (.int 1))))])),(zo (wX (eV 7) (zE [(eV 8),(eB1 wM (eV 4))])))] []),(zf 9 (zb .Add (eV 9) (eV 14))),(sIf (tE (zj .Lt (eV 13) (eC (.int 2)))) [(zf 10 (zt 45 zv (eV 0) [(eC (.int 0)),(eV 14)]))] [(zo (ju (eV 4) (zt 45 zD (eV 0) [(eC (.int 0)),(eV 14)]))),(zf 10 (eC (.int 0)))])] [])])] (t42 i x y z sd h ti ci di c6 (some (h,0,x)) m t kk cell o12 (some (.int w)) (some (.int k)) o15) μ (E.nxt λτ μ=>zU (qg.drop 4) τ μ E):=by
  intro _ _
  have ta:0<kk->zU [(zo (ju (eV 4) (zt 45 zV (eV 0) [(eC (.int 1))]))),(zf 10 (zb .Sub (eV 10) (eC (.int 1))))] (t42 i x y z sd h ti ci di c6 (some (h,0,x)) m t kk cell o12 (some (.int w)) (some (.int k)) o15) μ (E.nxt λτ μ=>zU (qg.drop 4) τ μ E):=by
   intro kp
   have nk:=D.nk
   have kl:=D.kl
   have bl:=D.bl
   have tl:=D.tl
   have xz:x * z<=400 * 9:=Int.mul_le_mul S.x4 z9 (by omega) (by omega)
   refine⟨⟨_,D.ht⟩,?_⟩
   refine⟨_,D.ho,?_⟩
   refine Xc S.s (by omega) S.h0 S.h1 D.ho D.hb (by omega) D.ok (by omega) (Int.le_refl _) (λe=>by omega) λe os μ' q1 f2 b1 b2 b3 ch l1 l2 ne g1 g2 g3=>?_
   have tiL:=(List.getElem?_eq_some_iff.mp D.ht).1
   have ciL:=(List.getElem?_eq_some_iff.mp D.hc).1
   have diL:=(List.getElem?_eq_some_iff.mp D.hd).1
   have nci:ci≠i:=λe=>by have:=D.hc;rw[e,D.ho] at this;cases this
   have ht':=ch.get D.ht (by simp[N.t])
   have l1':((nmB y z h bs).take (1:Int).toNat).length<=1:=by rw[List.length_take];exact Nat.min_le_left _ _
   refine⟨_,_,ht',.inr ⟨_,rfl,by omega,g3⟩,by rw[List.length_map];unfold room;omega,?_⟩
   have D':D42 (μ'.set ti (.lst (ts++((nmB y z h bs).take (1:Int).toNat).map T.int))) i f2 ci ti di x y z sd h (some (h,0,x)) m t (kk-1) os es (ts++((nmB y z h bs).take (1:Int).toNat).map T.int) (j+1):=
    ⟨by rw[List.getElem?_set_ne N.t];exact g1,by rw[List.getElem?_set_ne (by omega)];exact g2,by rw[List.getElem?_set_ne (Ne.symm D.n1)];exact ch.get D.hc (by simp[nci]),get_set ht',by rw[List.getElem?_set_ne D.n3];exact ch.get D.hd (by simp[N.d]),by rw[b2,List.length_drop];show (((nmB y z h bs).length-1:Nat):Int)=_;omega,b1,D.m0,D.m1,D.t0,D.t1,by omega,by push_cast;omega,by omega,by rw[List.length_append,List.length_map];omega,D.n1,D.n2,D.n3,by omega,by omega,by omega⟩
   exact ya q (.inr rfl) D' _ rfl
  have gi:zU [(sIf (tE (zj .Lt (zb .FloorDiv (zb .Sub (zb .Add (eV 9) (eV 14)) (eC (.int 1))) (eIx (eV 1) (eC (.int 2)))) (eIx (eV 1) (eC (.int 0))))) [(zf 15 (zb .FloorDiv (zb .Sub (zb .Add (eV 9) (eV 14)) (eC (.int 1))) (eIx (eV 1) (eC (.int 2))))),(sIf (tOr (tE (zj .Is (eIx (eV 8) (eC (.int 1))) (eC .non))) (tE (zj .Gt (eV 15) (eIx (eV 8) (eC (.int 1)))))) [(zf 8 (zE [(eIx (eV 8) (eC (.int 0))),(eB2 v5 (zb .Add (eV 15) (eV 2)) (zb .Sub (eIx (eV 1) (eC (.int 0))) (eC (.int 1))))])),(zo (wX (eV 7) (zE [(eV 8),(eB1 wM (eV 4))])))] []),(zf 9 (zb .Add (eV 9) (eV 14))),(sIf (tE (zj .Lt (eV 13) (eC (.int 2)))) [(zf 10 (zt 45 zv (eV 0) [(eC (.int 0)),(eV 14)]))] [(zo (ju (eV 4) (zt 45 zD (eV 0) [(eC (.int 0)),(eV 14)]))),(zf 10 (eC (.int 0)))])] [])] (t42 i x y z sd h ti ci di c6 (some (h,0,x)) m t kk cell o12 (some (.int w)) (some (.int k)) o15) μ (E.nxt λτ μ=>zU (qg.drop 4) τ μ E):=by
   have nk:=D.nk
   have kl:=D.kl
   have bl:=D.bl
   have tl:=D.tl
   have t0:=D.t0
   have xz:x * z<=400 * 9:=Int.mul_le_mul S.x4 z9 (by omega) (by omega)
   have tiL:=(List.getElem?_eq_some_iff.mp D.ht).1
   have ciL:=(List.getElem?_eq_some_iff.mp D.hc).1
   have diL:=(List.getElem?_eq_some_iff.mp D.hd).1
   have nci:ci≠i:=λe=>by have:=D.hc;rw[e,D.ho] at this;cases this
   refine⟨_,rfl,⟨by omega,by omega⟩,_,rfl,?_⟩
   obtain⟨mo,hmo⟩:∃mo,mo=(t+k-1) / z:=⟨_,rfl⟩
   refine zJ (λe7=>?_) (λe7=>?_)
   ·have tk:t+k<=x * z:=by
     have:=(Int.ediv_lt_iff_lt_mul (show 0<z by omega)).mp e7
     omega
    have mo1:mo<x:=by rw[hmo];exact e7
    obtain⟨m2,hm2⟩:∃m2,m2=mbI x sd m mo:=⟨_,rfl⟩
    have m2x:m2<x:=by
     rw[hm2]
     unfold mbI mnI
     split
     ·split<;>omega
     ·rename_i v
      have:=D.m1 v rfl
      split
      ·omega
      ·split<;>omega
    have rest:∀(μd:Mem) (es':List Jt),es'=es++(if some m2=m then [] else [(some (h,0,x),some m2,ts.length)])->μd[i]?=some (hsO (shp x y z) 400 sd (qK ci ti) (some (h,0,x)) m (nOf y z h t) (.mut bi) false)->μd[ci]?=some (.lst (es.map jt))->μd[ti]?=some (.lst ts)->μd[di]?=some (.lst (es'.map jt))->μd[bi]?=some (.lst (bs.map (btT h)))->μd.length=μ.length->
      ∀τ:Sl,τ=t42 i x y z sd h ti ci di c6 (some (h,0,x)) (some m2) t kk cell o12 (some (.int w)) (some (.int k)) (some (.int mo))->zU [(zf 9 (zb .Add (eV 9) (eV 14))),(sIf (tE (zj .Lt (eV 13) (eC (.int 2)))) [(zf 10 (zt 45 zv (eV 0) [(eC (.int 0)),(eV 14)]))] [(zo (ju (eV 4) (zt 45 zD (eV 0) [(eC (.int 0)),(eV 14)]))),(zf 10 (eC (.int 0)))])] τ μd (E.nxt λτ μ=>zU (qg.drop 4) τ μ E):=by
     intro μd es' hes g1 g2 g3 g4 g5 ln τ e
     subst e
     have eqs:es'.map jt=es.map jt++(if some m2=m then [] else [k_ (some (h,0,x)) (some m2) ts.length]):=by
      rw[hes,List.map_append]
      split<;>rfl
     have el':es'.length<=j+1:=by
      rw[hes,List.length_append]
      split<;>simp<;>omega
     refine zJ (λe8=>?_) (λe8=>?_)
     ·refine⟨_,g1,?_⟩
      refine WZ S.s S.x4 S.h0 S.h1 g1 g2 g3 g5 D.n4 (by omega) D.ok.be (wK (by omega)) D.m0 t0 k1 k2 tk λμ' μ'' P ch c1 c2=>?_
      have hc':=P.hc
      rw[←hmo,←hm2,←eqs] at hc'
      rw[←hmo,←hm2] at c1
      have D':D42 μ'' i bi ci ti di x y z sd h (some (h,0,x)) (some m2) (t+k) ((nmB y z h (bs++[(t,t+k)])).length:Int) (bs++[(t,t+k)]) es' ts (j+1):=
       ⟨c1,c2,ch.get hc' (by simp[Ne.symm D.n4]),ch.get (P.ch.get g3 (by simp[N.t,Ne.symm D.n1])) (by simp[Ne.symm D.n5]),ch.get (P.ch.get g4 (by simp[N.d,Ne.symm D.n2])) (by simp[Ne.symm D.n6]),rfl,D.ok.snoc t0 (by show t<=t+k;omega) tk (by show t+k-t<=1000;omega),λe=>by omega,λv e=>by cases e;exact m2x,by omega,tk,by simp;omega,by rw[w_,List.length_append,j8];push_cast;omega,el',by omega,D.n1,D.n2,D.n3,D.n4,D.n5,D.n6⟩
      exact ya q (.inr rfl) D' _ rfl
     ·refine⟨⟨_,g3⟩,?_⟩
      refine⟨_,g1,?_⟩
      refine K8 S.s S.x4 z9 S.h0 S.h1 g1 g2 g3 (wK (by omega)) D.m0 t0 k1 k2 tk λμ' μ'' jj b' P ch l1 l2 ne c1 c2 c3=>?_
      have hc':=P.hc
      rw[←hmo,←hm2,←eqs] at hc'
      rw[←hmo,←hm2] at c1
      have ht':=ch.get (P.ch.get g3 (by simp[N.t,Ne.symm D.n1])) (by simp[N.t])
      have ll:(nmL y z h t k).length<=9:=by rw[j8];omega
      refine⟨_,_,ht',.inr ⟨_,rfl,by omega,c3⟩,by rw[List.length_map];unfold room;omega,?_⟩
      have D':D42 (μ''.set ti (.lst (ts++(nmL y z h t k).map T.int))) i b' ci ti di x y z sd h (some (h,0,x)) (some m2) (t+k) 0 [] es' (ts++(nmL y z h t k).map T.int) (j+1):=
       ⟨by rw[List.getElem?_set_ne N.t];exact c1,by rw[List.getElem?_set_ne (by omega)];exact c2,by rw[List.getElem?_set_ne (Ne.symm D.n1)];exact ch.get hc' (by simp[nci]),get_set ht',by rw[List.getElem?_set_ne D.n3];exact ch.get (P.ch.get g4 (by simp[N.d,Ne.symm D.n2])) (by simp[N.d]),rfl,BOk.nil,λe=>by omega,λv e=>by cases e;exact m2x,by omega,tk,by simp,by push_cast;omega,el',by rw[List.length_append,List.length_map];omega,D.n1,D.n2,D.n3,by omega,by omega,by omega⟩
      exact ya q (.inr rfl) D' _ rfl
    refine⟨_,rfl,⟨by omega,by omega⟩,?_⟩
    rw[←hmo]
    refine⟨_,rfl,?_⟩
    have jot:some m2≠m->m2=mnI (mo+sd) (x-1)->zU [(zf 8 (zE [(eIx (eV 8) (eC (.int 0))),(eB2 v5 (zb .Add (eV 15) (eV 2)) (zb .Sub (eIx (eV 1) (eC (.int 0))) (eC (.int 1))))])),(zo (wX (eV 7) (zE [(eV 8),(eB1 wM (eV 4))])))] (t42 i x y z sd h ti ci di c6 (some (h,0,x)) m t kk cell o12 (some (.int w)) (some (.int k)) (some (.int mo))) μ ((E.nxt λτ μ=>zU (qg.drop 4) τ μ E).nxt λτ μ=>zU [(zf 9 (zb .Add (eV 9) (eV 14))),(sIf (tE (zj .Lt (eV 13) (eC (.int 2)))) [(zf 10 (zt 45 zv (eV 0) [(eC (.int 0)),(eV 14)]))] [(zo (ju (eV 4) (zt 45 zD (eV 0) [(eC (.int 0)),(eV 14)]))),(zf 10 (eC (.int 0)))])] τ μ (E.nxt λτ μ=>zU (qg.drop 4) τ μ E)):=by
     intro ne em
     refine⟨_,rfl,_,rfl,?_⟩
     refine⟨⟨_,D.hd⟩,_,D.ht,_,D.hd,rm,?_⟩
     have G:=D.dd (some (h,0,x),some m2,ts.length)
     have em2:(if x-1<mo+sd then x-1 else mo+sd)=m2:=em.symm
     rw[em2]
     exact rest _ (es++[(some (h,0,x),some m2,ts.length)]) (by rw[if_neg ne]) G.ho G.hc G.ht G.hd G.hb (by simp) _ rfl
    have sd0:=S.sd0
    cases m with
    |none=>exact jot (by simp) hm2
    |some v=>
     refine⟨_,rfl,?_⟩
     have hq:m2=if mo<=v then v else mnI (mo+sd) (x-1):=hm2
     refine zJ (λe9=>?_) (λe9=>?_)
     ·rw[if_neg (by omega)] at hq
      refine jot (λe=>?_) hq
      have ev:m2=v:=Option.some.inj e
      unfold mnI at hq
      split at hq<;>omega
     ·rw[if_pos (by omega)] at hq
      exact rest μ es (by rw[hq,if_pos rfl,List.append_nil]) D.ho D.hc D.ht D.hd D.hb rfl _ (by rw[hq])
   ·exact ya q (.inr rfl) D.next _ rfl
  refine zJ (λe5=>?_) (λe5=>?_)
  ·refine zJ (λe6=>?_) (λe6=>?_)
   ·exact ta (by simpa using e6)
   ·exact gi
  ·exact gi
 refine zJ (λe=>?_) (λe=>?_)
 ·refine⟨_,rfl,?_⟩
  refine⟨_,rfl,?_⟩
  have G:=D.dd (none,m,ts.length)
  refine⟨⟨_,D.hd⟩,_,D.ht,_,D.hd,rm,?_⟩
  refine⟨_,G.ho,?_⟩
  refine Vf S.s G.ho G.hc G.ht (wK (by omega)) (z20 S D) λμ' μ'' b' u P ch lb g1 g2=>?_
  have hc':=P.hc
  rw[if_neg (by simp)] at hc'
  refine⟨_,rfl,_,rfl,?_⟩
  refine⟨by show qo [T.int h,.int 0,.int x]<=40;simp[qo,wY],_,z1e,?_⟩
  rw[decide_eq_true rfl,decide_eq_true rfl,decide_eq_true rfl]
  have lb:μ.length<=b':=by simpa using lb
  have il:=(List.getElem?_eq_some_iff.mp D.ho).1
  have c1:=(List.getElem?_eq_some_iff.mp D.hc).1
  have t1':=(List.getElem?_eq_some_iff.mp D.ht).1
  have d1':=(List.getElem?_eq_some_iff.mp D.hd).1
  have nci:ci≠i:=λe=>by have:=D.hc;rw[e,D.ho] at this;cases this
  have D':D42 μ'' i b' ci ti di x y z sd h none m t 0 [] (es++[(none,m,ts.length)]) ts (j+1):=
   ⟨g1,g2,ch.get (by rw[List.map_append];exact hc') (by simp[nci]),ch.get (P.ch.get G.ht (by simp[N.t,Ne.symm D.n1])) (by simp[N.t]),ch.get (P.ch.get G.hd (by simp[N.d,Ne.symm D.n2])) (by simp[N.d]),rfl,BOk.nil,D.m0,D.m1,D.t0,D.t1,by simp,by push_cast;omega,by simp;omega,by have:=D.tl;omega,D.n1,D.n2,D.n3,by omega,by omega,by omega⟩
  exact ya q (.inl rfl) D' _ rfl
 ·refine zJ (λe2=>?_) (λe2=>?_)
  ·exact lea
  ·refine⟨_,rfl,?_⟩
   exact oth e e2
theorem UZ{E:En}{c6:T}(S:S42 x y z sd h)(hl:l=none\/l=some (h,0,x))(D:D42 μ i bi ci ti di x y z sd h l m t kk bs es ts j)(hj:j<=40)(q:z0o E i x y z sd h ti ci di c6 cell j) :
  zU qg (t42 i x y z sd h ti ci di c6 l m t kk cell o12 o13 o14 o15) μ E:=by
 obtain⟨x1,y1,y2,z1,z2⟩:=id S.s
 have z9:=S.z9
 have iL:=(List.getElem?_eq_some_iff.mp D.ho).1
 have bL:=(List.getElem?_eq_some_iff.mp D.hb).1
 have tiL:=(List.getElem?_eq_some_iff.mp D.ht).1
 have ciL:=(List.getElem?_eq_some_iff.mp D.hc).1
 have diL:=(List.getElem?_eq_some_iff.mp D.hd).1
 refine yB λd1 d2=>?_
 have st0:St (μ++[.lst [.int d1,.int d2,.int 0]]) μ.length:=⟨d1,d2,0,zH⟩
 refine qI st0 (by decide) (by decide) λw μ1 w0 w1 u1=>?_
 refine⟨_,rfl,?_⟩
 refine qI u1.st (by omega) (by omega) λv2 μ2 v20 v21 u2=>?_
 have U:=u1.trans u2
 have g:∀p,p<μ.length->μ2[p]?=μ[p]?:=λp hp=>(U.ot p (by omega)).trans (List.getElem?_append_left hp)
 have D2:=D.cp (g i iL) (g bi bL) (g ci ciL) (g ti tiL) (g di diL)
 obtain⟨k,hk⟩:∃k,k=1+v2:=⟨_,rfl⟩
 have fin:∀τ:Sl,τ=t42 i x y z sd h ti ci di c6 l m t kk cell (some (.mut μ.length)) (some (.int w)) (some (.int k)) o15->zU (qg.drop 3) τ μ2 E:=λτ e=>by
  subst e
  rcases hl with rfl|rfl
  ·exact UX S D2 hj λμ' es' D'=>q _ _ _ _ _ _ _ _ _ _ _ _ _ (.inr rfl) D'
  ·exact z1c S D2 hj (by omega) (by omega) q
 exact fin _ (by rw[hk])
theorem Zz{cs:List T}(S:S42 x y z sd h)(D:D42 (μ++[MO.lst []]) i bi ci ti μ.length x y z sd h none none 0 0 [] [] [] 0)(hc:∀t∈cs,∃c,t=T.int c)(hcl:cs.length<=35)(q:∀μ',K (.bl true) μ'):wo [.mut i,shT x y z,.int sd,.int h,.mut ti,.mut ci,.lst cs] μ K Z:=by
 unfold wo
 refine⟨rfl,?_⟩
 refine xt (λnn τ μ'=>nn<=cs.length/\∃bi l m t kk bs es ts o11 o12 o13 o14 o15,(l=none\/l=some (h,0,x))/\τ=[some (.mut i),some (shT x y z),some (.int sd),some (.int h),some (.mut ti),some (.mut ci),some (.lst cs),some (.mut μ.length),some (ntT l m),some (.int t),some (.int kk),o11,o12,o13,o14,o15]/\D42 μ' i bi ci ti μ.length x y z sd h l m t kk bs es ts nn) ⟨Nat.zero_le _,bi,none,none,0,0,[],[],[],_,_,_,_,_,.inl rfl,rfl,D⟩ ?_ ?_
 ·rintro nn t0 τ μ' hx ⟨hnn,bi,l,m,t,kk,bs,es,ts,o11,o12,o13,o14,o15,hl,rfl,D⟩ N hN
  obtain⟨cell,rfl⟩:=hc t0 (List.mem_of_getElem? hx)
  have hlt:=(List.getElem?_eq_some_iff.mp hx).1
  refine⟨_,rfl,?_⟩
  exact UZ S hl D (by omega) λμ' bi l m t kk bs es ts p12 p13 p14 p15 hl D'=>hN _ _ ⟨by omega,bi,l,m,t,kk,bs,es,ts,_,_,_,_,_,hl,rfl,D'⟩
 ·rintro τ μ' ⟨hnn,bi,l,m,t,kk,bs,es,ts,o11,o12,o13,o14,o15,hl,rfl,D⟩
  refine zJ (λe=>?_) (λe=>?_)
  ·exact q _
  ·refine⟨_,D.ho,?_⟩
   refine Kg D.ho ?_
   refine Ys S.s ?_
   rw[UK e]
   have q2:K (.bl (decide (nmA y z h (t-1)=nmA y z h (t-1)))) μ':=by rw[decide_eq_true rfl];exact q μ'
   exact q2
end
end NH.P
section
namespace NH.P
open PySem L2 NH
theorem JZ:Qq ji:=by
 intro ns hns
 unfold ji
 refine⟨rfl,?_⟩
 refine jn (by decide) λc0=>?_
 refine yB λd1 d2=>?_
 have st0:St ([MO.tab 0]++[.lst [.int d1,.int d2,.int 0]]) 1:=⟨d1,d2,0,rfl⟩
 refine qI st0 (by decide) (by decide) λv1 μ1 v10 v11 u1=>?_
 refine qI u1.st (by decide) (by decide) λv2 μ2 v20 v21 u2=>?_
 refine qI u2.st (by decide) (by decide) λv3 μ3 v30 v31 u3=>?_
 refine qI u3.st (by decide) (by decide) λs1 μ4 s10 s11 u4=>?_
 refine qI u4.st (by decide) (by decide) λs2 μ5 s20 s21 u5=>?_
 refine qI u5.st (by decide) (by decide) λs3 μ6 s30 s31 u6=>?_
 have sdh:∃sd,yO [T.int 0,T.int s1,T.int s2] s3=some (.int sd)/\0<=sd:=by
  have:s3=0\/s3=1\/s3=2:=by omega
  rcases this with rfl|rfl|rfl
  ·exact⟨0,rfl,by decide⟩
  ·exact⟨s1,rfl,s10⟩
  ·exact⟨s2,rfl,s20⟩
 obtain⟨sd,esd,sd0⟩:=sdh
 refine⟨_,esd,?_⟩
 refine⟨_,rfl,?_⟩
 refine qI u6.st (by omega) (by omega) λh μ7 h0 h1 u7=>?_
 have U:=(((((u1.trans u2).trans u3).trans u4).trans u5).trans u6).trans u7
 have l7:μ7.length=2:=U.len
 have t7:μ7[0]?=some (.tab 0):=(U.ot 0 (by decide)).trans rfl
 refine⟨_,rfl,_,rfl,_,rfl,?_⟩
 refine⟨rfl,?_⟩
 refine xU (by omega) (by omega) (by omega) ?_
 refine⟨rfl,_,rfl,rfl,?_⟩
 generalize hx:(60:Int)+v1=x
 generalize hy:(1:Int)+v2=y at h1 ⊢
 generalize hz:(1:Int)+v3=z
 have S:S42 x y z sd h:=⟨⟨by omega,by omega,by omega,by omega,by omega⟩,by omega,by omega,h0,h1,sd0⟩
 have l8:(μ7++[MO.lst []]).length=3:=by simp[l7]
 have l9:(μ7++[MO.lst []]++[MO.lst []]).length=4:=by simp[l7]
 refine⟨⟨0,zi (zi t7)⟩,[.mut (μ7++[MO.lst []]).length,.mut μ7.length],rfl,?_⟩
 refine VH zH (by decide) sd0 λμ8 bi ch8 hbi h8 g8=>?_
 refine⟨rfl,?_⟩
 refine jn (by decide) λc1=>?_
 have hcl:(uj (ns.map T.int) (some 2) (some 30)).length<=28:=by
  unfold uj Vp
  simp only[List.length_take,List.length_drop]
  simp
  omega
 refine⟨by simp only[List.length_cons,List.length_nil];unfold room;omega,?_⟩
 have le9:(μ7++[MO.lst []]++[MO.lst []]++[MO.obj 45 []]).length=5:=by simp[l7]
 have le8:5<=μ8.length:=by have:=ch8.len;omega
 have bL:=(List.getElem?_eq_some_iff.mp g8).1
 have c8:μ8[3]?=some (.lst []):=(ch8.ot 3 (by omega) (by rw[l9];decide)).trans (by rw[←l8];exact zi zH)
 have t8:μ8[2]?=some (.lst []):=(ch8.ot 2 (by omega) (by rw[l9];decide)).trans (by rw[←l7];exact zi (zi zH))
 rw[l8,l7] at h8
 rw[l9] at h8
 have D:D42 (μ8++[MO.lst []]) 4 bi 3 2 μ8.length x y z sd h none none 0 0 [] [] [] 0:=
  ⟨zi h8,zi g8,zi c8,zi t8,zH,rfl,BOk.nil,λ_=>rfl,λv e=>(by cases e),Int.le_refl _,Int.mul_nonneg (by omega) (by omega),by simp,by simp,by simp,by simp,by decide,by omega,by omega,by omega,by omega,by omega⟩
 have fin:∀(a b c:Nat),a=4->b=2->c=3->wo [.mut a,shT x y z,.int sd,.int h,.mut b,.mut c,.lst ([T.int c1]++uj (ns.map T.int) (some 2) (some 30))] μ8 (λt _=>t=.bl true) (λ_ _ _=>False):=by
  rintro a b c rfl rfl rfl
  refine Zz S D (λt ht=>?_) ?_ λμ'=>rfl
  ·rcases List.mem_append.mp ht with w|w
   ·exact⟨_,List.mem_singleton.mp w⟩
   ·obtain⟨n,_,e⟩:=List.mem_map.mp (J6 w)
    exact⟨n,e.symm⟩
  ·rw[List.length_append]
   simp only[List.length_cons,List.length_nil]
   omega
 exact fin _ _ _ l9 l7 l8
end NH.P
namespace NH.K42
open PySem L2 NH NH.P
theorem tells:Qq ji:=JZ
end NH.K42
end
namespace NH.K42
open PySem PySem.Spec PyProof.Rows L2 NH NH.P PySem.W
theorem z1o{P:List Value->Prop}(h:∀a0,P [a0]):∀us:List Value,us.length=1->P us:=PL.all (n:=1) h
theorem Uo{P:List Value->Prop}(h:∀a0 a1,P [a0,a1]):∀us:List Value,us.length=2->P us:=PL.all (n:=2) h
theorem z0Q{P:List Value->Prop}(h:∀a0 a1 a2,P [a0,a1,a2]):∀us:List Value,us.length=3->P us:=PL.all (n:=3) h
theorem z1N{P:List Value->Prop}(h:∀a0 a1 a2 a3 a4,P [a0,a1,a2,a3,a4]):∀us:List Value,us.length=5->P us:=PL.all (n:=5) h
theorem z23{P:List Value->Prop}(h:∀a0 a1 a2 a3 a4 a5,P [a0,a1,a2,a3,a4,a5]):∀us:List Value,us.length=6->P us:=PL.all (n:=6) h
theorem z13{P:List Value->Prop}(h:∀a0,P [a0]):∀us:List Value,us.length+1=2->P us:=λus e=>z1o h us (Nat.succ.inj e)
theorem X_{P:List Value->Prop}(h:∀a0 a1,P [a0,a1]):∀us:List Value,us.length+1=3->P us:=λus e=>Uo h us (Nat.succ.inj e)
theorem z1n{P:List Value->Prop}(h:∀a0 a1 a2 a3 a4,P [a0,a1,a2,a3,a4]):∀us:List Value,us.length+1=6->P us:=λus e=>z1N h us (Nat.succ.inj e)
theorem all_mk {l:OpenLaw} {w:World} {K:Frag} {h:Heap} {mg:Str->Option Value} {fa C0 C1 C2 C3 C4 C5 C6 C7 C8 C9 P0 cA0 f0 N0 CC5 CC19 f26 CC26 dt26 f36 dt36 f37 dt37 f38 dt38 f48:Addr} {od0 an0 dd0 od26 an26 te26 od36 an36 te36 od37 an37 te37 od38 an38 te38 od48 an48:Option Addr} {sl0 sl26 ts26 sl36 ts36 sl37 ts37 sl38 ts38 sl48:Array (Option Value)} {oc0 kV0 dc0 pm0 cd0 ct0 oc26 kV26 dc26 pm26 cd26 ct26 td26 oc36 kV36 dc36 pm36 cd36 ct36 td36 oc37 kV37 dc37 pm37 cd37 ct37 td37 oc38 kV38 dc38 pm38 cd38 ct38 td38 oc48 kV48 dc48 pm48 ct48:Value} {nm0 qn0:Str} {bs0 sb0:List Value} {hd0 ab0:Bool} {sn0:List Str} {co0:Option Bool} {ka0 kb0 kc0 kd0 ke0:Option Value} {tk12 tk13 tk14 tz36 tz37 tz38:Tok} {tn26 tn36 tn37 tn38:Nat} (X:K.In h) (G:h.Ns mainGlobals mg) (hfa:mg "law"=some (.ref fa))
  (e0:nsIn K mainGlobals "HouseError"=some (some (.ref C0)))
  (e1:nsIn K mainGlobals "NoShape"=some (some (.ref C1)))
  (e2:nsIn K mainGlobals "NoName"=some (some (.ref C2)))
  (e3:nsIn K mainGlobals "NoTime"=some (some (.ref C3)))
  (e4:nsIn K mainGlobals "NoLease"=some (some (.ref C4)))
  (e5:nsIn K mainGlobals "TooMany"=some (some (.ref C5)))
  (e6:nsIn K mainGlobals "Wait"=some (some (.ref C6)))
  (e7:nsIn K mainGlobals "Empty"=some (some (.ref C7)))
  (e8:nsIn K mainGlobals "NoNote"=some (some (.ref C8)))
  (e9:nsIn K mainGlobals "Fallen"=some (some (.ref C9)))
  (xa0:K.lookup C6=some (excClassObj nm0 qn0 C6 N0 bs0 (.ref C0::zQ) hd0 sn0 sb0 ab0 co0 dd0 ka0 kb0 kc0 kd0 ke0 "ValueError.__new__"))
  (xb0:nsOkIn K N0=true)
  (xc0:nsIn K N0 "__init__"=some (some (.ref f0)))
  (xd0:typeIn K (.ref f0)=some (.type "function"))
  (xe0:findIn K (.ref C6) "__setattr__"=some (some (.builtin "object.__setattr__")))
  (xf0:findIn K (.ref C6) "by"=some none)
  (xg0:hasDictIn K C6=true)
  (xh0:keepIn K (.ref C6)=true)
  (ha0:specialIn K (.ref C0) "__getattribute__"=some (some (.builtin "type.__getattribute__")))
  (ha1:readsIn K C0 (.type "type")=true)
  (ha2:findCls K (.ref C0) (.type "type") "__init__"=some (.val (.builtin "ValueError.__init__")))
  (l0:K.lookup f0=some ⟨oc0,od0,.func (fnOf "__init__" "Wait.__init__" (zz qU) (z5 qU) (zh qU) .none kV0 dc0 pm0 an0 cd0 ct0),sl0⟩)
  (c0:codeIn K cd0 "Wait.__init__"=true)
  (k0:keepIn K (.ref f0)=true)
  (p1:qv K "is_whole" kB)
  (p2:qv K "is_size" yj)
  (p3:qv K "is_from_nought" we)
  (p4:qv K "is_below" xx)
  (p5:KU K CC5 "Shape" "Shape.__init__" j5)
  (p6:qv K "names_in" xG)
  (p7:qv K "is_name" yp)
  (p8:qv K "check_name" jb)
  (p9:qv K "check_part" jf)
  (p10:qv K "name_of" yv)
  (p11:qv K "parts_of" kC)
  (v12:nsIn K mainGlobals "HOUSE"=some (some (.int 0 tk12)))
  (v13:nsIn K mainGlobals "FIRST"=some (some (.int 1 tk13)))
  (v14:nsIn K mainGlobals "UNTIL"=some (some (.int 2 tk14)))
  (p15:qv K "is_lease" xK)
  (p16:qv K "check_lease" vA)
  (p17:qv K "used_of" yi)
  (p18:qv K "is_note" yd)
  (p19:KU K CC19 "Batch" "Batch.__init__" jq)
  (p20:qv K "name_at" yx)
  (p21:qv K "names_of_batch" qR)
  (p22:qv K "size_of" jL)
  (p23:qv K "parted" uI)
  (p24:qv K "place_above" vD)
  (q26:nsIn K mainGlobals "House"=some (some (.ref CC26)))
  (i26:findIn K (.ref CC26) "__init__"=some (some (.ref f26)))
  (j26:isFn K (.ref f26)=true)
  (l26:K.lookup f26=some ⟨oc26,od26,.func (fnOf "__init__" "House.__init__" (zz zu) (z5 zu) (zh zu) (.ref dt26) kV26 dc26 pm26 an26 cd26 ct26),sl26⟩)
  (d26:K.lookup dt26=some ⟨td26,te26,.seq #[.none] tn26,ts26⟩)
  (c26:codeIn K cd26 "House.__init__"=true)
  (k26:keepIn K (.ref f26)=true)
  (mk26:makesIn K CC26=true)
  (kk26:keepIn K (.ref CC26)=true)
  (p27:j4 K CC26 "check_up" "House.check_up" wq)
  (p28:j4 K CC26 "note" "House.note" j0)
  (p29:j4 K CC26 "keep" "House.keep" wZ)
  (p30:j4 K CC26 "take_lease" "House.take_lease" qA)
  (p31:j4 K CC26 "check_has_lease" "House.check_has_lease" qi)
  (p32:j4 K CC26 "free_place" "House.free_place" qM)
  (p33:j4 K CC26 "next_batch" "House.next_batch" qL)
  (p34:j4 K CC26 "mark_behind" "House.mark_behind" qD)
  (p35:j4 K CC26 "hand_out" "House.hand_out" qN)
  (i36:findIn K (.ref CC26) "ask"=some (some (.ref f36)))
  (j36:isFn K (.ref f36)=true)
  (l36:K.lookup f36=some ⟨oc36,od36,.func (fnOf "ask" "House.ask" (zz zy) (z5 zy) (zh zy) (.ref dt36) kV36 dc36 pm36 an36 cd36 ct36),sl36⟩)
  (d36:K.lookup dt36=some ⟨td36,te36,.seq #[.int 1 tz36] tn36,ts36⟩)
  (c36:codeIn K cd36 "House.ask"=true)
  (k36:keepIn K (.ref f36)=true)
  (i37:findIn K (.ref CC26) "store"=some (some (.ref f37)))
  (j37:isFn K (.ref f37)=true)
  (l37:K.lookup f37=some ⟨oc37,od37,.func (fnOf "store" "House.store" (zz zm) (z5 zm) (zh zm) (.ref dt37) kV37 dc37 pm37 an37 cd37 ct37),sl37⟩)
  (d37:K.lookup dt37=some ⟨td37,te37,.seq #[.int 1 tz37] tn37,ts37⟩)
  (c37:codeIn K cd37 "House.store"=true)
  (k37:keepIn K (.ref f37)=true)
  (i38:findIn K (.ref CC26) "take"=some (some (.ref f38)))
  (j38:isFn K (.ref f38)=true)
  (l38:K.lookup f38=some ⟨oc38,od38,.func (fnOf "take" "House.take" (zz zC) (z5 zC) (zh zC) (.ref dt38) kV38 dc38 pm38 an38 cd38 ct38),sl38⟩)
  (d38:K.lookup dt38=some ⟨td38,te38,.seq #[.int 1 tz38] tn38,ts38⟩)
  (c38:codeIn K cd38 "House.take"=true)
  (k38:keepIn K (.ref f38)=true)
  (p39:j4 K CC26 "last_moment" "House.last_moment" qB)
  (p40:j4 K CC26 "give_back" "House.give_back" qC)
  (p41:j4 K CC26 "last" "House.last" j1)
  (p42:qv K "_law_cell_at" jS)
  (p43:qv K "_law_mixed" yb)
  (p44:qv K "_law_digits" xC)
  (p45:qv K "_law_next" xh)
  (p46:qv K "_law_kth" QD)
  (p47:qv K "_law_deeds" jN)
  (a48:nsIn K mainGlobals "law"=some (some (.ref f48)))
  (l48:K.lookup f48=some ⟨oc48,od48,.func (fnOf "law" "law" (zz qd) (z5 qd) (zh qd) .none kV48 dc48 pm48 an48 (.ref cA0) ct48),sl48⟩)
  (c48:codeIn K (.ref cA0) "law"=true)
  (zt0:codeHdIn K cA0 P0=true)
  (zk0:K.lookup P0=none)
  (zs0:P0≠cStatics)
  (k48:keepIn K (.ref f48)=true)
  (x0:excIn K C0 zQ "ValueError.__new__"=true)
  (x1:excIn K C1 zQ "ValueError.__new__"=true)
  (x2:excIn K C2 zQ "ValueError.__new__"=true)
  (x3:excIn K C3 zQ "ValueError.__new__"=true)
  (x4:excIn K C4 zQ "ValueError.__new__"=true)
  (x5:excIn K C5 zQ "ValueError.__new__"=true)
  (x7:excIn K C7 zQ "ValueError.__new__"=true)
  (x8:excIn K C8 zQ "ValueError.__new__"=true)
  (x9:excIn K C9 zQ "ValueError.__new__"=true)
  (zl:ZE K=true)
  (zc:chk K ⟨[(10,C0),(12,C1),(13,C2),(16,C3),(18,C4),(20,C5),(21,C6),(22,C7),(23,C8),(24,C9)],[(40,CC5),(44,CC19),(45,CC26)]⟩ cls fld=true)
  (zg:VY K ⟨[(10,C0),(12,C1),(13,C2),(16,C3),(18,C4),(20,C5),(21,C6),(22,C7),(23,C8),(24,C9)],[(40,CC5),(44,CC19),(45,CC26)]⟩ ["ValueError","bool","int","isinstance","len","max","min","range","sum","tuple"] [("HouseError",10),("NoShape",12),("NoName",13),("NoTime",16),("NoLease",18),("TooMany",20),("Empty",22),("NoNote",23),("Fallen",24)] [("Wait",21,29)]=true) :
  (ZE K=true/\K.lookup P0=none/\P0≠cStatics/\∃c,codeHdIn K c P0=true)/\∃fd:FuncData,(∀(s:Shared) (v:Value),BindsTo s fd ⟨[v],[]⟩ [("_law_script",v)])/\∀base:Heap,K.In base->base.Ns mainGlobals mg->base.BuiltinsAt mg P0->FnOk l.prog w K mg base (CX1 l.prog w) 50 fa fd ["_law_script"] (ZO K P0):=by
 have e:=hfa.symm.trans (mg_of X G a48)
 cases e
 have F0:=xJ (st:=qU) l0 c0 k0
 have b0:=F0.binds (ps:=["self","by"]) λ_ _ _ _ _ _=>Uo λ_ _=>rfl
 have b26:=vj (K:=K) (fd:=fnOf "__init__" "House.__init__" (zz zu) (z5 zu) (zh zu) (.ref dt26) kV26 dc26 pm26 an26 cd26 ct26) (ps:=["self","shape","ahead","stride","keeper","note"]) rfl d26 rfl <| z23 λ_ _ _ _ _ _=>⟨_,rfl,rfl⟩
 have bd26:=vm (K:=K) (d:=.none) (fd:=fnOf "__init__" "House.__init__" (zz zu) (z5 zu) (zh zu) (.ref dt26) kV26 dc26 pm26 an26 cd26 ct26) (ps:=["self","shape","ahead","stride","keeper","note"]) rfl d26 rfl <| z1n λ_ _ _ _ _=>⟨_,rfl,rfl⟩
 have b36:=vj (K:=K) (fd:=fnOf "ask" "House.ask" (zz zy) (z5 zy) (zh zy) (.ref dt36) kV36 dc36 pm36 an36 cd36 ct36) (ps:=["self","reading","many"]) rfl d36 rfl <| z0Q λ_ _ _=>⟨_,rfl,rfl⟩
 have bd36:=vm (K:=K) (d:=.int 1 tz36) (fd:=fnOf "ask" "House.ask" (zz zy) (z5 zy) (zh zy) (.ref dt36) kV36 dc36 pm36 an36 cd36 ct36) (ps:=["self","reading","many"]) rfl d36 rfl <| X_ λ_ _=>⟨_,rfl,rfl⟩
 have b37:=vj (K:=K) (fd:=fnOf "store" "House.store" (zz zm) (z5 zm) (zh zm) (.ref dt37) kV37 dc37 pm37 an37 cd37 ct37) (ps:=["self","reading","many"]) rfl d37 rfl <| z0Q λ_ _ _=>⟨_,rfl,rfl⟩
 have bd37:=vm (K:=K) (d:=.int 1 tz37) (fd:=fnOf "store" "House.store" (zz zm) (z5 zm) (zh zm) (.ref dt37) kV37 dc37 pm37 an37 cd37 ct37) (ps:=["self","reading","many"]) rfl d37 rfl <| X_ λ_ _=>⟨_,rfl,rfl⟩
 have b38:=vj (K:=K) (fd:=fnOf "take" "House.take" (zz zC) (z5 zC) (zh zC) (.ref dt38) kV38 dc38 pm38 an38 cd38 ct38) (ps:=["self","many"]) rfl d38 rfl <| Uo λ_ _=>⟨_,rfl,rfl⟩
 have bd38:=vm (K:=K) (d:=.int 1 tz38) (fd:=fnOf "take" "House.take" (zz zC) (z5 zC) (zh zC) (.ref dt38) kV38 dc38 pm38 an38 cd38 ct38) (ps:=["self","many"]) rfl d38 rfl <| z13 λ_=>⟨_,rfl,rfl⟩
 have F48:=xJ (st:=qd) l48 c48 k48
 have b48:=F48.binds (ps:=["_law_script"]) λ_ _ _ _ _ _=>z1o λ_=>rfl
 refine⟨⟨zl,zk0,zs0,cA0,zt0⟩,⟨fnOf "law" "law" (zz qd) (z5 qd) (zh qd) .none kV48 dc48 pm48 an48 (.ref cA0) ct48,λs v=>.of_eq rfl,λbase kb nb nbt=>?_⟩⟩
 let B:=@GsB l w K mg base
 have Z:Pk RU K mg base _ _ _:=⟨xg,kb,nb,zc⟩
 have g0:GsOk l.prog w K mg base ⟨[(10,C0),(12,C1),(13,C2),(16,C3),(18,C4),(20,C5),(21,C6),(22,C7),(23,C8),(24,C9)],[(40,CC5),(44,CC19),(45,CC26)]⟩ (Uh Kz ([(P0,[⟨295,93,295,157⟩],((("law":Str)++".<locals>.")++"<lambda>"))]:List (Addr×List Pos×Str))) 0 gs0 (λj=>([(P0,[⟨295,93,295,157⟩],((("law":Str)++".<locals>.")++"<lambda>"))]:List (Addr×List Pos×Str))[j]?):=Qc kb nb zg ⟨⟨C0,rfl,x0⟩,⟨C1,rfl,x1⟩,⟨C2,rfl,x2⟩,⟨C3,rfl,x3⟩,⟨C4,rfl,x4⟩,⟨C5,rfl,x5⟩,⟨C7,rfl,x7⟩,⟨C8,rfl,x8⟩,⟨C9,rfl,x9⟩,trivial⟩
 have XI0:XIn K C6 C0 f0 "by":=⟨⟨N0,nm0,qn0,bs0,hd0,sn0,sb0,ab0,co0,dd0,ka0,kb0,kc0,kd0,ke0,xa0,xb0,xc0⟩,x0,xd0,xe0,xf0,xg0,xh0⟩
 have W0:FnOk l.prog w K mg base (CX1 l.prog w) 1 f0 _ ["self","by"] (spI C6 "by"):=z10 XI0 ⟨mg_of kb nb e0,ha0,ha1,ha2⟩ l0 c0 (by first|exact⟨_,_,_,_,_,_,_,_,_,_,_,rfl,rfl,.inl ⟨_,_,_,_,_,_,_,_,rfl,by decide,by decide⟩⟩|exact⟨_,_,_,_,_,_,_,_,_,_,_,rfl,rfl,.inr ⟨_,_,_,_,_,rfl,by decide⟩⟩) rfl
 have g1:B 2 gs1:=GsOk.add (g0.mono (by decide)) ⟨C6,C0,f0,_,_,1,rfl,mg_of kb nb e6,rfl,XI0,b0,by decide,W0⟩ rfl
 have g2:B 2 gs2:=GsOk.add g1 ⟨C6,C0,f0,_,_,1,rfl,mg_of kb nb e6,rfl,XI0,b0,by decide,W0⟩ rfl
 have g3:B 3 gs3:=Z.fn (ps:=["thing"]) p1 g2 Zw rfl rfl (λ_ _ _ _ _ _ _=>rfl) rfl
 have g4:B 4 gs4:=Z.fn (ps:=["thing"]) p2 g3 WD rfl rfl (λ_ _ _ _ _ _ _=>rfl) rfl
 have g5:B 5 gs5:=Z.fn (ps:=["thing"]) p3 g4 jJ rfl rfl (λ_ _ _ _ _ _ _=>rfl) rfl
 have g6:B 6 gs6:=Z.fn (ps:=["thing","bound"]) p4 g5 Qg rfl rfl (λ_ _ _ _ _ _ _ _=>rfl) rfl
 have g7:B 8 gs7:=Z.cl (ps:=["self","moments","houses","counts"]) p5 g6 um rfl rfl rfl (λ_ _ _ _ _ _ _ _ _ _=>rfl) rfl
 have g8:B 9 gs8:=Z.fn (ps:=["shape"]) p6 g7 ZI rfl rfl (λ_ _ _ _ _ _ _=>rfl) rfl
 have g9:B 10 gs9:=Z.fn (ps:=["shape","thing"]) p7 g8 Wg rfl rfl (λ_ _ _ _ _ _ _ _=>rfl) rfl
 have g10:B 11 Yx:=Z.fn (ps:=["shape","thing"]) p8 g9 ua rfl rfl (λ_ _ _ _ _ _ _ _=>rfl) rfl
 have g11:B 12 YW:=Z.fn (ps:=["thing","bound"]) p9 g10 uA rfl rfl (λ_ _ _ _ _ _ _ _=>rfl) rfl
 have g12:B 13 U3:=Z.fn (ps:=["shape","moment","house","count"]) p10 g11 Wq rfl rfl (λ_ _ _ _ _ _ _ _ _ _=>rfl) rfl
 have g13:B 14 z1C:=Z.fn (ps:=["shape","name"]) p11 g12 Qi rfl rfl (λ_ _ _ _ _ _ _ _=>rfl) rfl
 have g14:B 14 z0R:=GsOk.add g13 ⟨_,(.int 0),mg_of kb nb v12,⟨_,rfl⟩,λ_ _ _=>rfl⟩ rfl
 have g15:B 14 z0I:=GsOk.add g14 ⟨_,(.int 1),mg_of kb nb v13,⟨_,rfl⟩,λ_ _ _=>rfl⟩ rfl
 have g16:B 14 UJ:=GsOk.add g15 ⟨_,(.int 2),mg_of kb nb v14,⟨_,rfl⟩,λ_ _ _=>rfl⟩ rfl
 have g17:B 15 Y9:=Z.fn (ps:=["shape","thing"]) p15 g16 Qa rfl rfl (λ_ _ _ _ _ _ _ _=>rfl) rfl
 have g18:B 16 Uv:=Z.fn (ps:=["shape","thing"]) p16 g17 x_ rfl rfl (λ_ _ _ _ _ _ _ _=>rfl) rfl
 have g19:B 17 YH:=Z.fn (ps:=["lease","moment"]) p17 g18 Wm rfl rfl (λ_ _ _ _ _ _ _ _=>rfl) rfl
 have g20:B 18 Uu:=Z.fn (ps:=["shape","thing"]) p18 g19 WU rfl rfl (λ_ _ _ _ _ _ _ _=>rfl) rfl
 have g21:B 20 Yb:=Z.cl (ps:=["self","house","begin","end"]) p19 g20 ui rfl rfl rfl (λ_ _ _ _ _ _ _ _ _ _=>rfl) rfl
 have g22:B 21 Ue:=Z.fn (ps:=["shape","house","place"]) p20 g21 WN rfl rfl (λ_ _ _ _ _ _ _ _ _=>rfl) rfl
 have g23:B 22 UC:=Z.fn (ps:=["shape","batch"]) p21 g22 vU rfl rfl (λ_ _ _ _ _ _ _ _=>rfl) rfl
 have g24:B 23 U8:=Z.fn (ps:=["batches"]) p22 g23 Zb rfl rfl (λ_ _ _ _ _ _ _=>rfl) rfl
 have g25:B 24 z0d:=Z.fn (ps:=["batches","many"]) p23 g24 Vm rfl rfl (λ_ _ _ _ _ _ _ _=>rfl) rfl
 have g26:B 25 Y7:=Z.fn (ps:=["shape","house","name"]) p24 g25 xT rfl rfl (λ_ _ _ _ _ _ _ _ _=>rfl) rfl
 have g27:B 26 UT:=GsOk.add (g26.mono (by decide)) (K_ (n:=60) (tbs:=([(P0,[⟨295,93,295,157⟩],((("law":Str)++".<locals>.")++"<lambda>"))]:List (Addr×List Pos×Str))) (G:=["len"]) xg (by show 1<=100;decide) (AllL.mem (ls:=Kz) ⟨rfl,trivial⟩) (xk (N:=[]) (G:=["len"]) (cel:=[]) (own:=[]) (lam:=none) kb nb zc g26) z00.mem) rfl
 have W26:FnOk l.prog w K mg base (CX1 l.prog w) 27 f26 _ ["self","shape","ahead","stride","keeper","note"] (spN _ 6 qa):=jd (m:=0) xg (xk (N:=["self","shape","ahead","stride","keeper","note"]) (G:=["is_from_nought","NoTime","is_note","NoNote"]) (cel:=[]) (own:=["batches"]) (lam:=none) kb nb zc g27) l26 c26 rfl rfl kA
 have g28:B 28 z1u:=GsOk.add (g27.mono (by decide)) ⟨CC26,f26,_,_,27,rfl,mg_of kb nb q26,⟨mk26,i26,j26,kk26⟩,b26,by decide,W26,ql⟩ rfl
 have g29:B 28 z0q:=GsOk.add (x:=til "House") g28 ⟨CC26,f26,_,_,27,rfl,mg_of kb nb q26,⟨mk26,i26,j26,kk26⟩,bd26,by decide,W26,ql,rfl⟩ rfl
 have g30:B 29 UR:=Z.met (ps:=["self"]) p27 g29 jE rfl rfl rfl rfl (λ_ _ _ _ _ _ _=>rfl) rfl
 have g31:B 30 U7:=Z.met (ps:=["self"]) p28 g30 uv rfl rfl rfl rfl (λ_ _ _ _ _ _ _=>rfl) rfl
 have g32:B 31 z0s:=Z.met (ps:=["self","lease","mark"]) p29 g31 kU rfl rfl rfl rfl (λ_ _ _ _ _ _ _ _ _=>rfl) rfl
 have g33:B 32 z0e:=Z.met (ps:=["self","lease"]) p30 g32 vb rfl rfl rfl rfl (λ_ _ _ _ _ _ _ _=>rfl) rfl
 have g34:B 33 Y6:=Z.met (ps:=["self"]) p31 g33 wd rfl rfl rfl rfl (λ_ _ _ _ _ _ _=>rfl) rfl
 have g35:B 34 YM:=Z.met (ps:=["self"]) p32 g34 vM rfl rfl rfl rfl (λ_ _ _ _ _ _ _=>rfl) rfl
 have g36:B 35 Y3:=Z.met (ps:=["self","reading","many"]) p33 g35 vO rfl rfl rfl rfl (λ_ _ _ _ _ _ _ _ _=>rfl) rfl
 have g37:B 36 Ug:=Z.met (ps:=["self","moment"]) p34 g36 vz rfl rfl rfl rfl (λ_ _ _ _ _ _ _ _=>rfl) rfl
 have g38:B 37 Yi:=Z.met (ps:=["self","reading","many"]) p35 g37 vT rfl rfl rfl rfl (λ_ _ _ _ _ _ _ _ _=>rfl) rfl
 have W36:FnOk l.prog w K mg base (CX1 l.prog w) 38 f36 _ ["self","reading","many"] (spN _ 3 zD):=jd (m:=1) xg (xk (N:=["self","reading","many","batch"]) (G:=["names_of_batch"]) (cel:=[]) (own:=["batches"]) (lam:=none) kb nb zc g38) l36 c36 rfl rfl xX
 have g39:B 38 z1s:=GsOk.add (g38.mono (by decide)) ⟨CC26,f36,_,_,38,rfl,vI (c:=45) zc rfl,⟨i36,j36,k36⟩,λi h=>absurd (List.mem_of_getElem? (show FLD[i]?=some "ask" from h)) (by decide +kernel),b36,by decide,W36,ql⟩ rfl
 have g40:B 38 z06:=GsOk.add (x:=til (dot "ask")) g39 ⟨CC26,f36,_,_,38,_,(.int 1),rfl,vI (c:=45) zc rfl,⟨i36,j36,k36⟩,λi h=>absurd (List.mem_of_getElem? (show FLD[i]?=some "ask" from h)) (by decide +kernel),bd36,⟨_,rfl⟩,λ_ _ _=>rfl,by decide,W36,ql,rfl⟩ rfl
 have W37:FnOk l.prog w K mg base (CX1 l.prog w) 39 f37 _ ["self","reading","many"] (spN _ 3 zv):=jd (m:=1) xg (xk (N:=["self","reading","many","batch"]) (G:=["size_of"]) (cel:=[]) (own:=[]) (lam:=none) kb nb zc g40) l37 c37 rfl rfl k6
 have g41:B 39 z0A:=GsOk.add (g40.mono (by decide)) ⟨CC26,f37,_,_,39,rfl,vI (c:=45) zc rfl,⟨i37,j37,k37⟩,λi h=>absurd (List.mem_of_getElem? (show FLD[i]?=some "store" from h)) (by decide +kernel),b37,by decide,W37,ql⟩ rfl
 have g42:B 39 UU:=GsOk.add (x:=til (dot "store")) g41 ⟨CC26,f37,_,_,39,_,(.int 1),rfl,vI (c:=45) zc rfl,⟨i37,j37,k37⟩,λi h=>absurd (List.mem_of_getElem? (show FLD[i]?=some "store" from h)) (by decide +kernel),bd37,⟨_,rfl⟩,λ_ _ _=>rfl,by decide,W37,ql,rfl⟩ rfl
 have W38:FnOk l.prog w K mg base (CX1 l.prog w) 40 f38 _ ["self","many"] (spN _ 2 zV):=jd (m:=3) xg (xk (N:=["self","many","parts","names","batch"]) (G:=["is_size","TooMany","size_of","Empty","parted","names_of_batch"]) (cel:=[]) (own:=["names"]) (lam:=none) kb nb zc g42) l38 c38 rfl rfl ub
 have g43:B 40 z0L:=GsOk.add (g42.mono (by decide)) ⟨CC26,f38,_,_,40,rfl,vI (c:=45) zc rfl,⟨i38,j38,k38⟩,λi h=>absurd (List.mem_of_getElem? (show FLD[i]?=some "take" from h)) (by decide +kernel),b38,by decide,W38,ql⟩ rfl
 have g44:B 40 z0b:=GsOk.add (x:=til (dot "take")) g43 ⟨CC26,f38,_,_,40,_,(.int 1),rfl,vI (c:=45) zc rfl,⟨i38,j38,k38⟩,λi h=>absurd (List.mem_of_getElem? (show FLD[i]?=some "take" from h)) (by decide +kernel),bd38,⟨_,rfl⟩,λ_ _ _=>rfl,by decide,W38,ql,rfl⟩ rfl
 have g45:B 41 YZ:=Z.met (ps:=["self"]) p39 g44 vq rfl rfl rfl rfl (λ_ _ _ _ _ _ _=>rfl) rfl
 have g46:B 42 Yk:=Z.met (ps:=["self"]) p40 g45 vy rfl rfl rfl rfl (λ_ _ _ _ _ _ _=>rfl) rfl
 have g47:B 43 UG:=Z.met (ps:=["self"]) p41 g46 uq rfl rfl rfl rfl (λ_ _ _ _ _ _ _=>rfl) rfl
 have g48:B 44 YC:=Z.fn (ps:=["_law_script","_law_k"]) p42 g47 Zt rfl rfl (λ_ _ _ _ _ _ _ _=>rfl) rfl
 have g49:B 45 Yn:=Z.fn (ps:=["_law_cell","_law_k"]) p43 g48 Wh rfl rfl (λ_ _ _ _ _ _ _ _=>rfl) rfl
 have g50:B 46 YF:=Z.fn (ps:=["_law_cell"]) p44 g49 Q6 rfl rfl (λ_ _ _ _ _ _ _=>rfl) rfl
 have g51:B 47 U5:=Z.fn (ps:=["_law_source","_law_many"]) p45 g50 ZU rfl rfl (λ_ _ _ _ _ _ _ _=>rfl) rfl
 have g52:B 48 YG:=Z.fn (ps:=["_law_shape","_law_house","_law_k"]) p46 g51 KS rfl rfl (λ_ _ _ _ _ _ _ _ _=>rfl) rfl
 have g53:B 49 z0S:=Z.fn (ps:=["_law_house","_law_shape","_law_stride","_law_number","_law_told","_law_calls","_law_cells"]) p47 g52 uZ rfl rfl (λ_ _ _ _ _ _ _ _ _ _ _ _ _=>rfl) rfl
 have W48:FnOk l.prog w K mg base (CX1 l.prog w) 50 fa _ ["_law_script"] (spN _ 1 ji):=US (m:=7) (cut:=6) (ds:=vn) xg (z0u (F:=["_law_calls","_law_told"]) (xk (N:=["_law_script","_law_source","_law_shape","_law_stride","_law_number","_law_house","_law_calls","_law_told"]) (G:=["_law_digits","_law_cell_at","_law_next","House","Shape","_law_deeds"]) (cel:=["_law_calls","_law_told"]) (own:=["_law_told","_law_calls"]) (lam:=some (0,[⟨295,93,295,157⟩])) kb nb zc g53)) l48 c48 rfl rfl Qo WB (λj pos e=>by cases e;exact⟨by decide,cA0,P0,rfl,codeHd_of_K kb zt0,nbt,rfl⟩)
 exact X0 (f:=ji) tells rfl W48
end NH.K42
section
open PySem PySem.W PyProof.Rows
set_option maxRecDepth 100000 in
set_option maxHeartbeats 0 in
theorem PySem.Challenge.cw_namehouses_k42_notes_kept_holds : PySem.Challenge.rw_namehouses_k42_notes_kept.Holds := by
 w_on;o_law;k_head;(case hw=>w_witness2)
 k_fill
 refine NH.walkT2 (l:=PySem.Challenge.rw_namehouses_k42_notes_kept) (k:=50) (x:="_law_script") (by decide) rfl rfl (λw h Y=>PySem.W.km_in_of Y) (λw h Y=>PySem.W.km_tabs_of Y _ (.head _)) ?F
 case F=>
  intro w mg fa h KX G hmg
  refine' NH.K42.all_mk KX G hmg ?ze0 ?ze1 ?ze2 ?ze3 ?ze4 ?ze5 ?ze6 ?ze7 ?ze8 ?ze9 ?zxa0 ?zxb0 ?zxc0 ?zxd0 ?zxe0 ?zxf0 ?zxg0 ?zxh0 ?zha0 ?zha1 ?zha2 ?zl0 ?zc0 ?zk0 ?zp1 ?zp2 ?zp3 ?zp4 ?zp5 ?zp6 ?zp7 ?zp8 ?zp9 ?zp10 ?zp11 ?zv12 ?zv13 ?zv14 ?zp15 ?zp16 ?zp17 ?zp18 ?zp19 ?zp20 ?zp21 ?zp22 ?zp23 ?zp24 ?zq26 ?zi26 ?zj26 ?zl26 ?zd26 ?zc26 ?zk26 ?zmk26 ?zkk26 ?zp27 ?zp28 ?zp29 ?zp30 ?zp31 ?zp32 ?zp33 ?zp34 ?zp35 ?zi36 ?zj36 ?zl36 ?zd36 ?zc36 ?zk36 ?zi37 ?zj37 ?zl37 ?zd37 ?zc37 ?zk37 ?zi38 ?zj38 ?zl38 ?zd38 ?zc38 ?zk38 ?zp39 ?zp40 ?zp41 ?zp42 ?zp43 ?zp44 ?zp45 ?zp46 ?zp47 ?za48 ?zl48 ?zc48 ?zzt0 ?zzk0 ?zzs0 ?zk48 ?zx0 ?zx1 ?zx2 ?zx3 ?zx4 ?zx5 ?zx7 ?zx8 ?zx9 ?zzl ?zzc ?zzg
  (case ze0=>k_is)
  (case ze1=>k_is)
  (case ze2=>k_is)
  (case ze3=>k_is)
  (case ze4=>k_is)
  (case ze5=>k_is)
  (case ze6=>k_is)
  (case ze7=>k_is)
  (case ze8=>k_is)
  (case ze9=>k_is)
  (case zxa0=>k_is)
  (case zxb0=>kernel_rfl)
  (case zxc0=>k_is)
  (case zxd0=>k_is)
  (case zxe0=>k_is)
  (case zxf0=>k_is)
  (case zxg0=>k_is)
  (case zxh0=>k_is)
  (case zha0=>k_is)
  (case zha1=>k_is)
  (case zha2=>k_is)
  (case zl0=>k_is)
  (case zc0=>k_is)
  (case zk0=>k_is)
  (case zp1=>exact NH.dfp (by k_is) (by k_is) (by k_is) (by k_is))
  (case zp2=>exact NH.dfp (by k_is) (by k_is) (by k_is) (by k_is))
  (case zp3=>exact NH.dfp (by k_is) (by k_is) (by k_is) (by k_is))
  (case zp4=>exact NH.dfp (by k_is) (by k_is) (by k_is) (by k_is))
  (case zp5=>exact NH.clp (by k_is) (by k_is) (by k_is) (by k_is) (by k_is) (by k_is) (by k_is) (by k_is))
  (case zp6=>exact NH.dfp (by k_is) (by k_is) (by k_is) (by k_is))
  (case zp7=>exact NH.dfp (by k_is) (by k_is) (by k_is) (by k_is))
  (case zp8=>exact NH.dfp (by k_is) (by k_is) (by k_is) (by k_is))
  (case zp9=>exact NH.dfp (by k_is) (by k_is) (by k_is) (by k_is))
  (case zp10=>exact NH.dfp (by k_is) (by k_is) (by k_is) (by k_is))
  (case zp11=>exact NH.dfp (by k_is) (by k_is) (by k_is) (by k_is))
  (case zv12=>k_is)
  (case zv13=>k_is)
  (case zv14=>k_is)
  (case zp15=>exact NH.dfp (by k_is) (by k_is) (by k_is) (by k_is))
  (case zp16=>exact NH.dfp (by k_is) (by k_is) (by k_is) (by k_is))
  (case zp17=>exact NH.dfp (by k_is) (by k_is) (by k_is) (by k_is))
  (case zp18=>exact NH.dfp (by k_is) (by k_is) (by k_is) (by k_is))
  (case zp19=>exact NH.clp (by k_is) (by k_is) (by k_is) (by k_is) (by k_is) (by k_is) (by k_is) (by k_is))
  (case zp20=>exact NH.dfp (by k_is) (by k_is) (by k_is) (by k_is))
  (case zp21=>exact NH.dfp (by k_is) (by k_is) (by k_is) (by k_is))
  (case zp22=>exact NH.dfp (by k_is) (by k_is) (by k_is) (by k_is))
  (case zp23=>exact NH.dfp (by k_is) (by k_is) (by k_is) (by k_is))
  (case zp24=>exact NH.dfp (by k_is) (by k_is) (by k_is) (by k_is))
  (case zq26=>k_is)
  (case zi26=>k_is)
  (case zj26=>k_is)
  (case zl26=>k_is)
  (case zd26=>k_is)
  (case zc26=>k_is)
  (case zk26=>k_is)
  (case zmk26=>k_is)
  (case zkk26=>k_is)
  (case zp27=>exact NH.mtp (by k_is) (by k_is) (by k_is) (by k_is) (by k_is))
  (case zp28=>exact NH.mtp (by k_is) (by k_is) (by k_is) (by k_is) (by k_is))
  (case zp29=>exact NH.mtp (by k_is) (by k_is) (by k_is) (by k_is) (by k_is))
  (case zp30=>exact NH.mtp (by k_is) (by k_is) (by k_is) (by k_is) (by k_is))
  (case zp31=>exact NH.mtp (by k_is) (by k_is) (by k_is) (by k_is) (by k_is))
  (case zp32=>exact NH.mtp (by k_is) (by k_is) (by k_is) (by k_is) (by k_is))
  (case zp33=>exact NH.mtp (by k_is) (by k_is) (by k_is) (by k_is) (by k_is))
  (case zp34=>exact NH.mtp (by k_is) (by k_is) (by k_is) (by k_is) (by k_is))
  (case zp35=>exact NH.mtp (by k_is) (by k_is) (by k_is) (by k_is) (by k_is))
  (case zi36=>k_is)
  (case zj36=>k_is)
  (case zl36=>k_is)
  (case zd36=>k_is)
  (case zc36=>k_is)
  (case zk36=>k_is)
  (case zi37=>k_is)
  (case zj37=>k_is)
  (case zl37=>k_is)
  (case zd37=>k_is)
  (case zc37=>k_is)
  (case zk37=>k_is)
  (case zi38=>k_is)
  (case zj38=>k_is)
  (case zl38=>k_is)
  (case zd38=>k_is)
  (case zc38=>k_is)
  (case zk38=>k_is)
  (case zp39=>exact NH.mtp (by k_is) (by k_is) (by k_is) (by k_is) (by k_is))
  (case zp40=>exact NH.mtp (by k_is) (by k_is) (by k_is) (by k_is) (by k_is))
  (case zp41=>exact NH.mtp (by k_is) (by k_is) (by k_is) (by k_is) (by k_is))
  (case zp42=>exact NH.dfp (by k_is) (by k_is) (by k_is) (by k_is))
  (case zp43=>exact NH.dfp (by k_is) (by k_is) (by k_is) (by k_is))
  (case zp44=>exact NH.dfp (by k_is) (by k_is) (by k_is) (by k_is))
  (case zp45=>exact NH.dfp (by k_is) (by k_is) (by k_is) (by k_is))
  (case zp46=>exact NH.dfp (by k_is) (by k_is) (by k_is) (by k_is))
  (case zp47=>exact NH.dfp (by k_is) (by k_is) (by k_is) (by k_is))
  (case za48=>k_is)
  (case zl48=>k_is)
  (case zc48=>k_is)
  (case zzt0=>exact rfl)
  (case zzk0=>exact rfl)
  (case zzs0=>decide)
  (case zk48=>k_is)
  (case zx0=>k_exc)
  (case zx1=>k_exc)
  (case zx2=>k_exc)
  (case zx3=>k_exc)
  (case zx4=>k_exc)
  (case zx5=>k_exc)
  (case zx7=>k_exc)
  (case zx8=>k_exc)
  (case zx9=>k_exc)
  (case zzl=>exact rfl)
  (case zzc=>exact rfl)
  (case zzg=>exact rfl)
end
