import PyProof.Rows.All
import Wide.All
import OpenK.AllK
import Wide.FinOn
import Lean
import PyProof.EqAt
import PyProof.EqKinds
import PyProof.TupleCall
import PyProof.StationsW
import PySem.Syntax
import KE.KLam
import PyProof.StrBlockH
import KE.KRevIter
import PyProof.JoinWalk
import PyProof.CollectIter
import PyProof.StrCalls
import PyProof.DictStraight
import PyProof.Rows.Range3
import PyProof.StrWalks
import PyProof.LongRange
import KE.KTryMore
import KE.KItem
import PyProof.NsDelKeeps
import PyProof.DictTable
import PyProof.WalkInts
import PyProof.Rows.SortStr
import PyProof.Rows.SortWalk
import PyProof.EnumMake
import PyProof.EnumFor
import KE.KRevSl
import PyProof.Rows.StrNews
import KE.KMinBuiltin
import KE.KSortKey
import PyProof.ZipIter
import PyProof.ExcInit
import PyProof.ExcClass2
import PyProof.InstStoreFacts
import PyProof.FString
import KE.LcSums
import PySem.Challenge.RW_namehouses_k77_whole_no_other_pair_ahead
set_option Elab.async false
set_option linter.all false
set_option maxRecDepth 100000
set_option maxHeartbeats 4000000
set_option bootstrap.genMatcherCode false
noncomputable section
namespace PySem.W.Fast
theorem tw5566802857776626371:True:=⟨⟩
theorem tw7696494934008767122:True:=⟨⟩
theorem tw14675511681467354985:True:=⟨⟩
theorem tw5878415366185570726:True:=⟨⟩
theorem tw11914397854090417434:True:=⟨⟩
theorem tw965638668158336008:True:=⟨⟩
theorem tw10021063140192906010:True:=⟨⟩
theorem tw9349215594027803064:True:=⟨⟩
theorem tw5891475277660229902:True:=⟨⟩
theorem tw14805709983675787307:True:=⟨⟩
theorem tw3527709855184994798:True:=⟨⟩
theorem tw5997377355996314835:True:=⟨⟩
theorem tw13912862132041922597:True:=⟨⟩
theorem tw12075685194185985993:True:=⟨⟩
theorem tw10859148121627910295:True:=⟨⟩
theorem tw16659270851019309822:True:=⟨⟩
theorem tw12009542162132686856:True:=⟨⟩
theorem tw10561150513541075834:True:=⟨⟩
theorem tw17215191226193189074:True:=⟨⟩
theorem tw7803820447684524569:True:=⟨⟩
theorem tw13401791357380335404:True:=⟨⟩
theorem tw3135483955966003556:True:=⟨⟩
theorem tw117780976726116064:True:=⟨⟩
theorem tw6830058504464218838:True:=⟨⟩
theorem tw16601856354437129783:True:=⟨⟩
theorem tw16198467761268136169:True:=⟨⟩
theorem tw5132572379775779289:True:=⟨⟩
theorem tw7307876454760411771:True:=⟨⟩
theorem tw14041750126016729709:True:=⟨⟩
theorem tw16779520070659782579:True:=⟨⟩
theorem tw328679444270335286:True:=⟨⟩
theorem tw2331505856663744740:True:=⟨⟩
theorem tw12038217320451982058:True:=⟨⟩
theorem tw12104724230312567459:True:=⟨⟩
theorem tw16661940891896875631:True:=⟨⟩
theorem tw1109489126088998224:True:=⟨⟩
theorem tw12664303005228963407:True:=⟨⟩
theorem tw13222345657082375947:True:=⟨⟩
theorem tw3527307824381339620:True:=⟨⟩
theorem tw13031327837992147667:True:=⟨⟩
theorem tw17405752267742567970:True:=⟨⟩
theorem tw8684461100415695583:True:=⟨⟩
theorem tw9836717744758767103:True:=⟨⟩
theorem tw6201384122232581158:True:=⟨⟩
theorem tw7001863599919572050:True:=⟨⟩
theorem tw9263548059930369698:True:=⟨⟩
theorem tw14812731421207261638:True:=⟨⟩
theorem tw11979409168522736396:True:=⟨⟩
theorem tw1602739801047943430:True:=⟨⟩
theorem tw5212659711721983223:True:=⟨⟩
theorem tw5016598719785417471:True:=⟨⟩
theorem tw6515940737718340009:True:=⟨⟩
theorem tw11749613857717909563:True:=⟨⟩
theorem tw6417916868204180350:True:=⟨⟩
theorem tw11857129693658241071:True:=⟨⟩
theorem tw12336592665057547571:True:=⟨⟩
theorem tw6573365679236031163:True:=⟨⟩
theorem tw10391423627960085843:True:=⟨⟩
theorem tw8940764008149874136:True:=⟨⟩
theorem tw6697028821997928697:True:=⟨⟩
theorem tw13375263521742562846:True:=⟨⟩
theorem tw6973211418532418913:True:=⟨⟩
theorem tw6719703206887949095:True:=⟨⟩
theorem tw4858570233589914237:True:=⟨⟩
theorem tw5279363179873412025:True:=⟨⟩
theorem tw9281300336676481597:True:=⟨⟩
theorem tw8240912261871290018:True:=⟨⟩
theorem tw16821699755014142235:True:=⟨⟩
theorem tw12715903195105892105:True:=⟨⟩
theorem tw200794846495963832:True:=⟨⟩
theorem tw17811061205749227021:True:=⟨⟩
theorem tw14533260234928792165:True:=⟨⟩
theorem tw9760056307090840189:True:=⟨⟩
theorem tw4153188286509838549:True:=⟨⟩
theorem tw1680017486269307161:True:=⟨⟩
theorem tw2536573477599501508:True:=⟨⟩
theorem tw10430731459960316023:True:=⟨⟩
theorem tw224433089125592364:True:=⟨⟩
theorem tw312534574110907294:True:=⟨⟩
theorem tw11328970622295890277:True:=⟨⟩
theorem tw2298851578392569218:True:=⟨⟩
theorem tw15216817766563973226:True:=⟨⟩
theorem tw8195111487219296013:True:=⟨⟩
theorem tw8610516160971986438:True:=⟨⟩
theorem tw3500757252927118921:True:=⟨⟩
theorem tw5290889386296008247:True:=⟨⟩
theorem tw8185432991432157550:True:=⟨⟩
theorem tw16896338000000940668:True:=⟨⟩
theorem tw9610231572038516742:True:=⟨⟩
theorem tw9988679363462319123:True:=⟨⟩
theorem tw9543374744499189425:True:=⟨⟩
theorem tw10498213858204424087:True:=⟨⟩
theorem tw14556733858992402505:True:=⟨⟩
theorem tw6052856372792177245:True:=⟨⟩
theorem tw12089420287599841510:True:=⟨⟩
theorem tw7792647882396526123:True:=⟨⟩
theorem tw1997928942178843685:True:=⟨⟩
theorem tw10607682799372854939:True:=⟨⟩
theorem tw17739847844878883391:True:=⟨⟩
theorem tw13638394174182359171:True:=⟨⟩
theorem tw7470908432627320127:True:=⟨⟩
theorem tw11018545416837987097:True:=⟨⟩
theorem tw10979978110036245746:True:=⟨⟩
theorem tw17948970757027765188:True:=⟨⟩
theorem tw655798806594294550:True:=⟨⟩
theorem tw6304200750151132742:True:=⟨⟩
theorem tw7781484661778360937:True:=⟨⟩
theorem tw11811878803530910400:True:=⟨⟩
theorem tw6998604225123883625:True:=⟨⟩
theorem tw4522183620446015003:True:=⟨⟩
theorem tw6299595485690365013:True:=⟨⟩
theorem tw17948701131553149320:True:=⟨⟩
theorem tw6122715171791603938:True:=⟨⟩
theorem tw16847427404003097358:True:=⟨⟩
theorem tw1648406865076242497:True:=⟨⟩
theorem tw4823147717799425042:True:=⟨⟩
theorem tw3586212568997526028:True:=⟨⟩
theorem tw12160406475259187380:True:=⟨⟩
theorem tw9660102662021529968:True:=⟨⟩
theorem tw13534864062313154677:True:=⟨⟩
theorem tw2716708096089220283:True:=⟨⟩
theorem tw14920137094386418635:True:=⟨⟩
theorem tw16748118413010088223:True:=⟨⟩
theorem tw10756578289076243472:True:=⟨⟩
theorem tw15812874773061087023:True:=⟨⟩
theorem tw14230469874269081099:True:=⟨⟩
theorem tw5880940300394363776:True:=⟨⟩
theorem tw17510742316279753333:True:=⟨⟩
theorem tw12557493817260511803:True:=⟨⟩
theorem tw6764123291370414823:True:=⟨⟩
theorem tw11085708414767178725:True:=⟨⟩
theorem tw672810570332924248:True:=⟨⟩
theorem tw1302471807191770621:True:=⟨⟩
theorem tw8178827575952495226:True:=⟨⟩
theorem tw6718109682412314380:True:=⟨⟩
theorem tw9273398707717298403:True:=⟨⟩
theorem tw4768627797748779659:True:=⟨⟩
theorem tw7159656023138940199:True:=⟨⟩
theorem tw5358476517915841819:True:=⟨⟩
theorem tw13404690890919308565:True:=⟨⟩
theorem tw13167131457354714284:True:=⟨⟩
theorem tw8915258464282921518:True:=⟨⟩
theorem tw8615893090675377243:True:=⟨⟩
theorem tw18359170787139682594:True:=⟨⟩
theorem tw1915134374467337283:True:=⟨⟩
theorem tw17016423849141797809:True:=⟨⟩
theorem tw12346110688824060186:True:=⟨⟩
theorem tw11878592425309761696:True:=⟨⟩
theorem tw17539910939236792274:True:=⟨⟩
theorem tw7121017500903573914:True:=⟨⟩
theorem tw11633761846751109765:True:=⟨⟩
theorem tw12425417931933278287:True:=⟨⟩
theorem tw12436103703966294255:True:=⟨⟩
theorem tw2280158587809561359:True:=⟨⟩
theorem tw11338187451409404136:True:=⟨⟩
theorem tw16635896320189492173:True:=⟨⟩
theorem tw17873068360550353349:True:=⟨⟩
theorem tw16599901881652816082:True:=⟨⟩
theorem tw9576899564416467916:True:=⟨⟩
theorem tw6132147169629337645:True:=⟨⟩
theorem tw5122688684376537360:True:=⟨⟩
theorem tw3092082850408413055:True:=⟨⟩
theorem tw3848641776476753211:True:=⟨⟩
theorem tw8731627114021360060:True:=⟨⟩
theorem tw12580722325842061044:True:=⟨⟩
theorem tw10779535094409024812:True:=⟨⟩
theorem tw18323933343265539938:True:=⟨⟩
theorem tw8524509552902119556:True:=⟨⟩
theorem tw6309056698055348241:True:=⟨⟩
theorem tw18416642094395559736:True:=⟨⟩
theorem tw15332590028336534734:True:=⟨⟩
theorem tw6149215950694174117:True:=⟨⟩
theorem tw13307262720111651228:True:=⟨⟩
theorem tw5615350382430798278:True:=⟨⟩
theorem tw13009465089551332748:True:=⟨⟩
theorem tw14117385881632305690:True:=⟨⟩
theorem tw14012682987420318764:True:=⟨⟩
theorem tw10607478976529002747:True:=⟨⟩
theorem tw6785737606716734178:True:=⟨⟩
theorem tw9279806571296817228:True:=⟨⟩
theorem tw14802000569225548690:True:=⟨⟩
theorem tw23665742650865010:True:=⟨⟩
theorem tw8127329485684111606:True:=⟨⟩
theorem tw3383724524989735356:True:=⟨⟩
theorem tw13730136416354748242:True:=⟨⟩
theorem tw10313584658340273362:True:=⟨⟩
theorem tw16331258936777761458:True:=⟨⟩
theorem tw7252748109815771843:True:=⟨⟩
theorem tw14547361734876756204:True:=⟨⟩
theorem tw7181895650746673253:True:=⟨⟩
theorem tw12491713000055751449:True:=⟨⟩
theorem tw4419992895485423087:True:=⟨⟩
theorem tw11830624159231473484:True:=⟨⟩
theorem tw12793365025598676500:True:=⟨⟩
theorem tw5202284634685912193:True:=⟨⟩
theorem tw10548990355724652991:True:=⟨⟩
theorem tw3527070703072931718:True:=⟨⟩
theorem tw6750393057791195063:True:=⟨⟩
theorem tw4831713570878120896:True:=⟨⟩
theorem tw5096784237380841117:True:=⟨⟩
theorem tw5299744105165945829:True:=⟨⟩
theorem tw17684909639214027985:True:=⟨⟩
theorem tw7363380106131766730:True:=⟨⟩
theorem tw2869458457741455556:True:=⟨⟩
theorem tw4972390944351386616:True:=⟨⟩
theorem tw2367199079931578049:True:=⟨⟩
theorem tw17055701729347141812:True:=⟨⟩
theorem tw15030412331121931314:True:=⟨⟩
theorem tw1014254559937550674:True:=⟨⟩
theorem tw6391594233161575068:True:=⟨⟩
theorem tw10778036574611706469:True:=⟨⟩
theorem tw190488424735032280:True:=⟨⟩
theorem tw9908375101513312883:True:=⟨⟩
theorem tw6800941773449476274:True:=⟨⟩
theorem tw11272481192030077355:True:=⟨⟩
theorem tw4963575747948747262:True:=⟨⟩
theorem tw17976039405012627238:True:=⟨⟩
theorem tw7598686649923039259:True:=⟨⟩
theorem tw14082722945050008395:True:=⟨⟩
theorem tw14041374283793260601:True:=⟨⟩
theorem tw15839239444482643565:True:=⟨⟩
theorem tw11834306395458293656:True:=⟨⟩
theorem tw7485322344154994550:True:=⟨⟩
theorem tw264220800749559537:True:=⟨⟩
theorem tw6485476416616523773:True:=⟨⟩
theorem tw12736923264467195867:True:=⟨⟩
theorem tw10548447114058395974:True:=⟨⟩
theorem tw17348413072728260407:True:=⟨⟩
theorem tw11057418852784326778:True:=⟨⟩
theorem tw3103901726794514997:True:=⟨⟩
theorem tw317714787820954570:True:=⟨⟩
theorem tw5739681644096387873:True:=⟨⟩
theorem tw5297304670984219691:True:=⟨⟩
theorem tw8690616536855149418:True:=⟨⟩
theorem tw11688303301852596715:True:=⟨⟩
theorem tw15848408933992964331:True:=⟨⟩
theorem tw1802872145015538827:True:=⟨⟩
theorem tw15876197693885117811:True:=⟨⟩
theorem tw4984583980484701688:True:=⟨⟩
theorem tw4548393235479512613:True:=⟨⟩
theorem tw14704316344308181475:True:=⟨⟩
theorem tw11006842064701670375:True:=⟨⟩
theorem tw16126619355906749362:True:=⟨⟩
theorem tw1922370949649196835:True:=⟨⟩
theorem tw10526370870901381979:True:=⟨⟩
theorem tw8250423957708410686:True:=⟨⟩
theorem tw18258781837389000376:True:=⟨⟩
theorem tw7586425417971086663:True:=⟨⟩
theorem tw2485593997815334021:True:=⟨⟩
theorem tw11785384253580952058:True:=⟨⟩
theorem tw10495376488989500795:True:=⟨⟩
theorem tw1925578906992802324:True:=⟨⟩
theorem tw17874500885609747584:True:=⟨⟩
theorem tw5306178985534650680:True:=⟨⟩
theorem tw8570193421662301604:True:=⟨⟩
theorem tw17063022233160088342:True:=⟨⟩
theorem tw13852632795235940196:True:=⟨⟩
theorem tw16745222068357181854:True:=⟨⟩
theorem tw15087881697961792211:True:=⟨⟩
theorem tw4698314487974881970:True:=⟨⟩
theorem tw15931297475558742656:True:=⟨⟩
theorem tw17337128691006372635:True:=⟨⟩
theorem tw15824780079297256661:True:=⟨⟩
theorem tw6813533034182300706:True:=⟨⟩
theorem tw4059448609003745629:True:=⟨⟩
theorem tw13744756813275986751:True:=⟨⟩
theorem tw9226187908006811978:True:=⟨⟩
theorem tw855261198565127216:True:=⟨⟩
theorem tw7781899991275125604:True:=⟨⟩
theorem tw12511076038414343336:True:=⟨⟩
theorem tw16749925063418209956:True:=⟨⟩
theorem tw3103602940700439543:True:=⟨⟩
theorem tw7224822031542352295:True:=⟨⟩
theorem tw12559802378842015911:True:=⟨⟩
theorem tw16867037348468486542:True:=⟨⟩
theorem tw16692524891396104873:True:=⟨⟩
theorem tw13082391703242078171:True:=⟨⟩
theorem tw10227743271958388089:True:=⟨⟩
theorem tw8958106106343963058:True:=⟨⟩
theorem tw2397734594651709657:True:=⟨⟩
theorem tw924022463837229459:True:=⟨⟩
theorem tw5364608057662949812:True:=⟨⟩
theorem tw16087942378067202712:True:=⟨⟩
theorem tw1435592758149671587:True:=⟨⟩
theorem tw10694329327477403520:True:=⟨⟩
theorem tw10271267919980992404:True:=⟨⟩
theorem tw10977498311512046397:True:=⟨⟩
theorem tw9288415990900185741:True:=⟨⟩
theorem tw448323830911409905:True:=⟨⟩
theorem tw14899961231794717826:True:=⟨⟩
theorem tw6226517864641201104:True:=⟨⟩
theorem tw16446790116726785242:True:=⟨⟩
theorem tw11856501817986263060:True:=⟨⟩
theorem tw12351885859641332376:True:=⟨⟩
theorem tw16190515325372222412:True:=⟨⟩
theorem tw4199369146161911079:True:=⟨⟩
theorem tw11208680113888796454:True:=⟨⟩
theorem tw17891691164303503390:True:=⟨⟩
theorem tw14664204358055296104:True:=⟨⟩
theorem tw2806228741455586389:True:=⟨⟩
theorem tw14725130061927336127:True:=⟨⟩
theorem tw16704454863738074414:True:=⟨⟩
theorem tw1138246618696733446:True:=⟨⟩
theorem tw3388756426696971664:True:=⟨⟩
theorem tw5785284192093741455:True:=⟨⟩
theorem tw4473746026791720920:True:=⟨⟩
theorem tw11083607748689365797:True:=⟨⟩
end PySem.W.Fast
section
set_option Elab.async false
namespace L2
open PySem PySem.Spec PyProof.Rows
noncomputable abbrev Key:=Sum Int Str
noncomputable def Zm:Key->Value->Bool
 |.inl k,v=>Value.isInt k v
 |.inr x,v=>Value.isStrOf x v
noncomputable def z67 (w:World):Key->Int
 |.inl k=>hashInt k
 |.inr x=>hashStr w x
theorem zD:∀{k:Key} {v:Value},Zm k v=true->(∃i t,k=Sum.inl i/\v=Value.int i t)\/(∃x t,k=Sum.inr x/\v=Value.str x t)
 |.inl i,v,h=>by
  obtain⟨t,e⟩:=Value.isInt_shape (k:=i) (v:=v) h
  exact .inl ⟨i,t,rfl,e⟩
 |.inr x,v,h=>by
  obtain⟨t,e⟩:=Value.isStrOf_shape (x:=x) (v:=v) h
  exact .inr ⟨x,t,rfl,e⟩
theorem Kz(i:Int)(t:Tok):Zm (.inl i) (.int i t)=true:=by simp[Zm,Value.isInt]
theorem JW(x:Str)(t:Tok):Zm (.inr x) (.str x t)=true:=by simp[Zm,Value.isStrOf]
theorem z2q(a b:Int):decide ((Sum.inl a:Key)=Sum.inl b)=(a == b):=by
 by_cases e:a=b
 ·subst e;simp
 ·have h:¬(Sum.inl a:Key)=Sum.inl b:=λq=>e (Sum.inl.inj q)
  rw[decide_eq_false h]
  exact (beq_eq_false_iff_ne.mpr e).symm
theorem z3x(a b:Str):decide ((Sum.inr a:Key)=Sum.inr b)=decide (a=b):=by
 by_cases e:a=b
 ·subst e;simp
 ·have h:¬(Sum.inr a:Key)=Sum.inr b:=λq=>e (Sum.inr.inj q)
  rw[decide_eq_false h,decide_eq_false e]
theorem z2p(a:Int)(b:Str):decide ((Sum.inl a:Key)=Sum.inr b)=false:=decide_eq_false (λq=>nomatch q)
theorem z3S(a:Str)(b:Int):decide ((Sum.inr a:Key)=Sum.inl b)=false:=decide_eq_false (λq=>nomatch q)
noncomputable def zJ (prog : Program) (w : World) : PySem.KeyKind prog w Key where
  is := Zm
  hash := z67 w
  inj := fun v a b ha hb => by
    rcases zD ha with ⟨i,t,rfl,rfl⟩ | ⟨x,t,rfl,rfl⟩
    · rcases zD hb with ⟨j,u,rfl,e⟩ | ⟨y,u,rfl,e⟩
      · injection e with e1 _; rw [e1]
      · exact nomatch e
    · rcases zD hb with ⟨j,u,rfl,e⟩ | ⟨y,u,rfl,e⟩
      · exact nomatch e
      · injection e with e1 _; rw [e1]
  byValue := fun k v h => by
    rcases zD h with ⟨i,t,rfl,rfl⟩ | ⟨x,t,rfl,rfl⟩ <;> rfl
  pyHash := fun hv h => by
    rcases zD hv with ⟨i,t,rfl,rfl⟩ | ⟨x,t,rfl,rfl⟩
    · exact wpAny_pyHash_int h
    · exact wpAny_pyHash_str h
  eqBool := fun hu hv h => by
    rcases zD hu with ⟨i,t,rfl,rfl⟩ | ⟨x,t,rfl,rfl⟩
    · rcases zD hv with ⟨j,u,rfl,rfl⟩ | ⟨y,u,rfl,rfl⟩
      · rw [z2q] at h; exact wpAny_eqBool_int h
      · rw [z2p] at h; exact SeqAt.EqAt.int_str i t y u _ _ _ _ h
    · rcases zD hv with ⟨j,u,rfl,rfl⟩ | ⟨y,u,rfl,rfl⟩
      · rw [z3S] at h; exact SeqAt.EqAt.str_int x t j u _ _ _ _ h
      · rw [z3x] at h; exact wpAny_eqBool_str h
  «strs» := fun k x t v h => by
    rcases zD h with ⟨i,u,rfl,e⟩ | ⟨y,u,rfl,e⟩
    · exact nomatch e
    · injection e with e1 _
      subst e1
      cases v <;> rfl
theorem Wg(prog:Program)(w:World)(i:Int)(t:Tok):(zJ prog w).is (.inl i) (.int i t)=true:=Kz i t
theorem QV(prog:Program)(w:World)(x:Str)(t:Tok):(zJ prog w).is (.inr x) (.str x t)=true:=JW x t
end L2
namespace L2
open PySem PySem.Spec PyProof.Rows
inductive V where
 |non|bl (b:Bool)|int (i:Int)|str (x:Str)|byt (b:Array UInt8)|flt (b:UInt64)|ref (a:Addr)|ty (n:String)
 deriving DecidableEq
noncomputable def RelV:V->Value->Prop
 |.non,u=>u=Value.none
 |.bl b,u=>u=Value.bool b
 |.int i,u=>∃t,u=Value.int i t
 |.str x,u=>∃t,u=Value.str x t
 |.byt b,u=>∃t,u=Value.bytes b t
 |.flt b,u=>∃t,u=Value.float b t
 |.ref a,u=>u=Value.ref a
 |.ty n,u=>u=Value.type n
abbrev Vals:List V->List Value->Prop:=Paired RelV
theorem Vals.length{xs:List V}{us:List Value}(r:Vals xs us):xs.length=us.length:=Paired.length r
theorem Vals.get:∀{xs:List V} {us:List Value} {i:Nat} {x:V},Vals xs us->xs[i]?=some x->∃u,us[i]?=some u/\RelV x u
 |_,_,_,_,.nil,e=>by simp at e
 |_,_,0,_,.cons r _,e=>by simp at e;subst e;exact⟨_,rfl,r⟩
 |_,_,i+1,x,.cons _ t,e=>by
  obtain⟨u,h1,h2⟩:=Vals.get (i:=i) (x:=x) t (by simpa using e)
  exact⟨u,by simpa using h1,h2⟩
theorem Vals.set{x:V}{u:Value}(r:RelV x u):∀{xs:List V} {us:List Value} (i:Nat),Vals xs us->Vals (xs.set i x) (us.set i u)
 |_,_,_,.nil=>.nil
 |_,_,0,.cons _ t=>.cons r t
 |_,_,i+1,.cons q t=>.cons q (Vals.set r i t)
theorem Vals.append:∀{xs ys:List V} {us ws:List Value},Vals xs us->Vals ys ws->Vals (xs++ys) (us++ws)
 |_,_,_,_,.nil,s=>s
 |_,_,_,_,.cons r t,s=>.cons r (Vals.append t s)
theorem Vals.take:∀{xs:List V} {us:List Value} (n:Nat),Vals xs us->Vals (xs.take n) (us.take n)
 |_,_,0,_=>.nil
 |_,_,_+1,.nil=>.nil
 |_,_,n+1,.cons r t=>.cons r (Vals.take n t)
theorem Vals.drop:∀{xs:List V} {us:List Value} (n:Nat),Vals xs us->Vals (xs.drop n) (us.drop n)
 |_,_,0,r=>r
 |_,_,_+1,.nil=>.nil
 |_,_,n+1,.cons _ t=>Vals.drop n t
noncomputable def RelO:Option V->Option Value->Prop
 |some v,some u=>RelV v u
 |none,none=>True
 |_,_=>False
noncomputable def KV {κ:Type}:List (κ×V)->List (κ×Value)->Prop:=Paired λ(p:κ×V) (q:κ×Value)=>p.1=q.1/\RelV p.2 q.2
noncomputable def kV:Key->V
 |.inl i=>.int i
 |.inr x=>.str x
inductive HO where
 |lst (xs:List V)
 |tup (xs:List V)
 |dK (kvs:List (Key×V))|dT (kvs:List (List Key×V))
 |set (S:Int->Bool) (n:Nat)
 |ins (C dx:Addr) (fs:List (Str×V))
 |own (x:Addr)
 |xd (fs:List (Str×V))
 |met (f x:Addr)
 |rng (lo hi:Int)
 |frz (o:Obj) (u:HO)
 |tbl (ps:Array Value)
 |ext (φ:Heap->Prop)
noncomputable abbrev Hp:=Addr->Option HO
noncomputable def upd (H:Hp)(a:Addr)(o:HO):Hp:=λb=>if b=a then some o else H b
theorem z6{H:Hp}{a:Addr}{o:HO}:upd H a o a=some o:=by unfold upd;rw[if_pos rfl]
theorem z7{H:Hp}{a b:Addr}{o:HO}(h:b≠a):upd H a o b=H b:=by unfold upd;rw[if_neg h]
theorem Ji{H:Hp}{a:Addr}{o u:HO}:upd (upd H a o) a u=upd H a u:=by
 funext b;unfold upd;split<;>rfl
theorem z4U{H:Hp}{a b:Addr}{o u:HO}(h:H a=some o)(h':H b=some u)(d:o≠u):a≠b:=by
 intro e;subst e;rw[h] at h';exact d (Option.some.inj h')
theorem zF{H:Hp}{a b:Addr}{o:HO}(h:H a=some o)(h':H b=none):a≠b:=by
 intro e;subst e;rw[h] at h';cases h'
section
variable (P:Program)(w:World)
noncomputable def ObjOk(H:Hp)(h:Heap)(a:Addr):HO->Prop
 |.lst xs=>xs.length<=sizeLine/\∃(its:List Value) (n:Nat),Vals xs its/\h.get? a=some {cls:=.type "list",data:=.seq its.toArray n}
 |.tup xs=>xs.length<=sizeLine/\∃its:List Value,Vals xs its/\IsTup h a its.toArray
 |.dK kvs=>kvs.length<=sizeLine/\(a == sysModules)=false/\∃vs,KV kvs vs/\h.DictOf (zJ P w) a vs
 |.dT kvs=>kvs.length<=sizeLine/\(a == sysModules)=false/\∃xs:List (List Key×Addr×Value),
   Paired (λ(p:List Key×V) (q:List Key×Addr×Value)=>p.1=q.1/\H q.2.1=some (.tup (p.1.map kV))/\RelV p.2 q.2.2) kvs xs/\
   ∃o es ep,h.get? a=some o/\o.ExactDict/\o.data=.dict es ep/\es.toList=xs.map (entryOfKey (tupleKind (zJ P w)))/\(xs.map (·.1)).Nodup
 |.set S n=>h.SetOf (intKind P w) a S n
 |.ins C dx fs=>H dx=some (.own a)/\fs.length<=1000/\dx≠a/\h.get? a=some (PySem.W.instObj C dx)/\
   ∃mA,h.Ns1 dx mA/\(∀f,RelO (fs.lookup f) (mA f))/\PySem.Within mA (fs.map (·.1))
 |.own _=>∃o,h.get? a=some o
 |.xd fs=>∃mA,h.Ns1 a mA/\∀f,RelO (fs.lookup f) (mA f)
 |.rng lo hi=>∃t u v,h.get? a=some {cls:=.type "range",data:=.fields #[.int lo t,.int hi u,.int 1 v]}
 |.frz o u=>h.get? a=some o/\ObjOk H h a u
 |.tbl ps=>h.get? a=some {cls:=.none,data:=.fields ps}
 |.met f x=>h.get? a=some (PySem.W.methodObj (.ref f) (.ref x))
 |.ext φ=>φ h/\(∃o,h.get? a=some o)/\∀h1 h2:Heap,φ h1->(∀o,h1.get? a=some o->h2.get? a=some o)->φ h2
noncomputable def HOk (H:Hp)(h:Heap):Prop:=∀a o,H a=some o->ObjOk P w H h a o
end
section
variable {P:Program}{w:World}{H H':Hp}{h h':Heap}{a:Addr}{o:HO}
theorem ObjOk.lt(x:ObjOk P w H h a o):a<h.objs.size:=by
 cases o with
 |lst xs=>obtain⟨_,_,_,_,e⟩:=x;exact Heap.lt_size e
 |tup xs=>obtain⟨_,_,_,p⟩:=x;exact p.lt
 |dK kvs=>obtain⟨_,_,_,_,o,_,_,e,_⟩:=x;exact Heap.lt_size e
 |dT kvs=>obtain⟨_,_,_,_,o,_,_,e,_⟩:=x;exact Heap.lt_size e
 |set S n=>obtain⟨o,_,_,_,e,_⟩:=x;exact Heap.lt_size e
 |ins C dx fs=>obtain⟨_,_,_,e,_⟩:=x;exact Heap.lt_size e
 |own y=>obtain⟨_,e⟩:=x;exact Heap.lt_size e
 |xd fs=>obtain⟨_,⟨_,_,_,e,_⟩,_⟩:=x;exact Heap.lt_size e
 |rng lo hi=>obtain⟨_,_,_,e⟩:=x;exact Heap.lt_size e
 |frz ob u=>obtain⟨e,_⟩:=x;exact Heap.lt_size e
 |tbl ps=>exact Heap.lt_size (show h.get? a=some _ from x)
 |met f y=>exact Heap.lt_size (show h.get? a=some _ from x)
 |ext φ=>obtain⟨_,⟨_,e⟩,_⟩:=x;exact Heap.lt_size e
theorem Paired.mapP{α β:Type}{F G:α->β->Prop}:∀{l₁:List α} {l₂:List β},Paired F l₁ l₂->(∀a b,F a b->G a b)->Paired G l₁ l₂
 |_,_,.nil,_=>.nil
 |_,_,.cons r t,f=>.cons (f _ _ r) (Paired.mapP t f)
theorem ObjOk.stay(x:ObjOk P w H h a o)(k:∀b u,(b=a\/H b=some (.own a))->h.get? b=some u->h'.get? b=some u)
  (ho:∀b,H b=some (.own a)->H' b=some (.own a)) (ht:∀b xs,H b=some (.tup xs)->H' b=some (.tup xs)):ObjOk P w H' h' a o:=by
 induction o with
 |lst xs=>obtain⟨z,its,n,r,e⟩:=x;exact⟨z,its,n,r,k _ _ (.inl rfl) e⟩
 |tup xs=>obtain⟨z,its,r,ob,e,c⟩:=x;exact⟨z,its,r,ob,k _ _ (.inl rfl) e,c⟩
 |dK kvs=>obtain⟨z,y,vs,r,ob,es,ep,e,c⟩:=x;exact⟨z,y,vs,r,ob,es,ep,k _ _ (.inl rfl) e,c⟩
 |dT kvs=>
  obtain⟨z,y,xs,r,ob,es,ep,e,c⟩:=x
  exact⟨z,y,xs,Paired.mapP r λp q z=>⟨z.1,ht _ _ z.2.1,z.2.2⟩,ob,es,ep,k _ _ (.inl rfl) e,c⟩
 |set S n=>obtain⟨ob,es,ep,t,e,c⟩:=x;exact⟨ob,es,ep,t,k _ _ (.inl rfl) e,c⟩
 |ins C dx fs=>
  obtain⟨d,z,ne,e,mA,⟨od,es,ep,e2,c⟩,r⟩:=x
  exact⟨ho _ d,z,ne,k _ _ (.inl rfl) e,mA,⟨od,es,ep,k _ _ (.inr d) e2,c⟩,r⟩
 |own y=>obtain⟨ob,e⟩:=x;exact⟨ob,k _ _ (.inl rfl) e⟩
 |xd fs=>obtain⟨mA,⟨od,es,ep,e,c⟩,r⟩:=x;exact⟨mA,⟨od,es,ep,k _ _ (.inl rfl) e,c⟩,r⟩
 |rng lo hi=>obtain⟨t,u,v,e⟩:=x;exact⟨t,u,v,k _ _ (.inl rfl) e⟩
 |frz ob u ih=>obtain⟨e,q⟩:=x;exact⟨k _ _ (.inl rfl) e,ih q⟩
 |tbl ps=>
  have e:h.get? a=some {cls:=.none,data:=.fields ps}:=x
  show h'.get? a=some {cls:=.none,data:=.fields ps}
  exact k a _ (.inl rfl) e
 |met f y=>
  have e:h.get? a=some (PySem.W.methodObj (.ref f) (.ref y)):=x
  show h'.get? a=some (PySem.W.methodObj (.ref f) (.ref y))
  exact k a _ (.inl rfl) e
 |ext φ=>obtain⟨p,⟨o,e⟩,st⟩:=x;exact⟨st _ _ p λo q=>k _ _ (.inl rfl) q,⟨o,k _ _ (.inl rfl) e⟩,st⟩
theorem HOk.lt(x:HOk P w H h)(e:H a=some o):a<h.objs.size:=(x a o e).lt
theorem HOk.fresh(x:HOk P w H h)(e:h.objs.size<=a):H a=none:=by
 cases q:H a with
 |none=>rfl
 |some u=>exact absurd (Nat.lt_of_lt_of_le (x.lt q) e) (Nat.lt_irrefl _)
theorem HOk.kept(x:HOk P w H h)(k:∀b u,h.get? b=some u->h'.get? b=some u):HOk P w H h':=λa o e=>
 (x a o e).stay (λb u _ q=>k b u q) (λ_ q=>q) λ_ _ q=>q
theorem HOk.laid(x:HOk P w H h)(k:∀b u,h.get? b=some u->h'.get? b=some u)(hp:h.objs.size<=a)(new:ObjOk P w (upd H a o) h' a o):HOk P w (upd H a o) h':=λb u e=>by
 have hn:=x.fresh hp
 by_cases hb:b=a
 ·subst hb;rw[z6] at e;cases e;exact new
 ·rw[z7 hb] at e
  exact (x b u e).stay (λc v _ q=>k c v q) (λc q=>by rw[z7 (zF q hn)];exact q) λc xs q=>by rw[z7 (zF q hn)];exact q
end
noncomputable def Rd (H:Hp)(a:Addr)(u:HO):Prop:=H a=some u\/∃o,H a=some (.frz o u)
theorem Rd.ok{P:Program}{w:World}{H:Hp}{h:Heap}{a:Addr}{u:HO}(r:Rd H a u)(x:HOk P w H h):ObjOk P w H h a u:=by
 rcases r with r|⟨o,r⟩
 ·exact x a u r
 ·obtain⟨_,q⟩:=x a _ r
  exact q
noncomputable def Mut:Option HO->Prop
 |some (.lst _)=>True
 |some (.dK _)=>True
 |some (.dT _)=>True
 |some (.set _ _)=>True
 |some (.ins _ _ _)=>True
 |some (.ext _)=>True
 |_=>False
section
variable {P:Program}{w:World}{H:Hp}{h h':Heap}{x e:Addr}{o':HO}
theorem HOk.write(ok:HOk P w H h)(mu:Mut (H x))(he:e=x\/H e=some (.own x))(k:∀b u,b≠e->h.get? b=some u->h'.get? b=some u)(heo:∃u,h'.get? e=some u)
  (new:ObjOk P w (upd H x o') h' x o'):HOk P w (upd H x o') h':=λb u q=>by
 have nown:∀c y,H c=some (.own y)->c≠x:=λc y r z=>by subst z;rw[r] at mu;exact mu
 have ntup:∀c xs,H c=some (.tup xs)->c≠x:=λc xs r z=>by subst z;rw[r] at mu;exact mu
 by_cases hb:b=x
 ·subst hb;rw[z6] at q;cases q;exact new
 ·rw[z7 hb] at q
  by_cases hbe:b=e
  ·have q':H b=some (.own x):=by
    rcases he with z|z
    ·exact absurd (hbe.trans z) hb
    ·rw[hbe];exact z
   rw[q] at q';cases q'
   obtain⟨v,hv⟩:=heo
   exact⟨v,by rw[hbe];exact hv⟩
  ·refine (ok b u q).stay (λc v hc r=>k c v ?_ r) (λc r=>by rw[z7 (nown c b r)];exact r) λc xs r=>by rw[z7 (ntup c xs r)];exact r
   rcases hc with rfl|hc
   ·exact hbe
   ·rintro rfl
    rcases he with z|z
    ·exact nown c b hc z
    ·rw[hc] at z;cases z;exact hb rfl
end
structure Un(fs ex:List Addr)(H H':Hp)(h h':Heap):Prop where
 keep:∀b o,h.get? b=some o->H b=none->b∉fs->b∉ex->h'.get? b=some o
 slot:∀b o,h.get? b=some o->H b=none->b∈fs->b∉ex->∃sl,h'.get? b=some {o with slots:=sl}
 free:∀b o,h.get? b=some o->H b=none->b∉ex->H' b=none
 there:∀b o,h.get? b=some o->b∉ex->∃o',h'.get? b=some o'
 tups:∀b xs,H b=some (.tup xs)->H' b=some (.tup xs)
 frzs:∀b o u,H b=some (.frz o u)->H' b=some (.frz o u)
 tbls:∀b ps,H b=some (.tbl ps)->∃more,H' b=some (.tbl (ps++more))
section
variable {fs fs' ex ex':List Addr}{H H1 H2:Hp}{h h1 h2 h':Heap}{a x e:Addr}{o:HO}
theorem Un.any(u:Un fs ex H H1 h h1){b:Addr}{ob:Obj}(q:h.get? b=some ob)(n:H b=none)(hx:b∉ex):∃sl,h1.get? b=some {ob with slots:=sl}:=by
 by_cases hb:b∈fs
 ·exact u.slot b ob q n hb hx
 ·exact⟨ob.slots,u.keep b ob q n hb hx⟩
theorem Un.kept(k:∀b u,h.get? b=some u->h'.get? b=some u):Un fs ex H H h h':=
 ⟨λb ob q _ _ _=>k b ob q,λb ob q _ _ _=>⟨ob.slots,k b ob q⟩,λ_ _ _ n _=>n,λb ob q _=>⟨ob,k b ob q⟩,λ_ _ q=>q,λ_ _ _ q=>q,λ_ ps q=>⟨#[],by rw[q];simp⟩⟩
theorem Un.refl:Un fs ex H H h h:=Un.kept λ_ _ q=>q
theorem Un.laid(k:∀b u,h.get? b=some u->h'.get? b=some u)(hp:h.objs.size<=a)(hn:H a=none):Un fs ex H (upd H a o) h h' where
 keep:=λb u q _ _ _=>k b u q
 slot:=λb u q _ _ _=>⟨u.slots,k b u q⟩
 free:=λb u q n _=>by rw[z7 (Nat.ne_of_lt (Nat.lt_of_lt_of_le (Heap.lt_size q) hp))];exact n
 there:=λb u q _=>⟨u,k b u q⟩
 tups:=λb xs q=>by rw[z7 (zF q hn)];exact q
 frzs:=λb u xs q=>by rw[z7 (zF q hn)];exact q
 tbls:=λb ps q=>⟨#[],by rw[z7 (zF q hn),q];simp⟩
theorem Un.write(mu:Mut (H x))(he:e=x\/H e=some (.own x))(k:∀b u,b≠e->h.get? b=some u->h'.get? b=some u)(heo:∃u,h'.get? e=some u):Un fs ex H (upd H x o) h h':=by
 have hx:∀b,H b=none->b≠x:=λb n z=>by subst z;rw[n] at mu;exact mu
 have hb:∀b,H b=none->b≠e:=λb n z=>by
  subst z
  rcases he with r|r
  ·exact hx b n r
  ·rw[n] at r;cases r
 have hm:∀b u,H b=some u->¬Mut (some u)->b≠x:=λb u q nm z=>by subst z;rw[q] at mu;exact nm mu
 refine⟨λb u q n _ _=>k b u (hb b n) q,λb u q n _ _=>⟨u.slots,k b u (hb b n) q⟩,λb u q n _=>by rw[z7 (hx b n)];exact n,λb u q _=>?_,
  λb xs q=>by rw[z7 (hm b _ q λz=>z)];exact q,λb u xs q=>by rw[z7 (hm b _ q λz=>z)];exact q,λb ps q=>⟨#[],by rw[z7 (hm b _ q λz=>z),q];simp⟩⟩
 by_cases hbe:b=e
 ·subst hbe;exact heo
 ·exact⟨u,k b u hbe q⟩
end
noncomputable def trk (h:Heap)(H:Hp):List Addr:=(List.range h.objs.size).filter λa=>(H a).isSome
noncomputable def uU (h:Heap)(H:Hp):Heap:=PySem.W.hideAll h (trk h H)
theorem JQ(h:Heap)(H:Hp):(uU h H).objs.size=h.objs.size:=PySem.W.hideAll_size _ _
theorem XH{h:Heap}{H:Hp}{b:Addr}{o:Obj}(e:h.get? b=some o)(n:H b=none):(uU h H).get? b=some o:=
 PySem.W.hideAll_get _ e λhm=>by
  have q:(H b).isSome=true:=(List.mem_filter.mp hm).2
  rw[n] at q;simp at q
theorem z0d{h:Heap}{H:Hp}{b:Addr}{o:Obj}(e:(uU h H).get? b=some o):h.get? b=some o/\H b=none:=by
 have e':h.get? b=some o:=PySem.W.of_hideAll (trk h H) e
 refine⟨e',?_⟩
 cases q:H b with
 |none=>rfl
 |some x=>
  have hm:b∈trk h H:=List.mem_filter.mpr ⟨List.mem_range.mpr (Heap.lt_size e'),by simp[q]⟩
  have z:(uU h H).get? b=none:=PySem.W.hideAll_none (trk h H) hm
  rw[z] at e;cases e
noncomputable def z0i(g h:Heap)(L:Addr):List (Addr×Obj):=(List.range h.objs.size).filterMap λa=>if a=L\/(g.get? a).isSome=true then none else (h.get? a).map λo=>(a,o)
noncomputable def rest (g h:Heap)(L d:Addr):List (Addr×Obj):=(z0i g h L).filter λp=>decide (p.1≠d)
end L2
namespace L2
open PySem PySem.Spec PyProof.Rows
structure Mod(K:PySem.W.Frag)(mg:Str->Option Value)(base:Heap):Prop where
 kin:K.In base
 glob:base.Ns mainGlobals mg
 blt:∃mb,base.Ns builtinsNs mb/\∀x:Str,x≠"__name__"->mb x=bootBuiltins x
 nolimit:base.NoLimit
structure Cx where
 prog:Program
 w:World
 K:PySem.W.Frag
 mg:Str->Option Value
 base:Heap
 A:Around
 N:List Str
 s₀:Shared
 H₀:Hp
 env:Env
 outer:List Env
 stack:List Env
 ex:List Addr
 fn:Str->Bool
 calm:Bool
 pn:List (Addr×Obj)
 xe:Value->Shared->Prop
noncomputable def frs(l:List Env):List Addr:=l.filterMap (·.frame)
noncomputable abbrev Cx.fs(X:Cx):List Addr:=frs X.outer
noncomputable def Vis(sc:Scope)(x:Str):Prop:=sc.names.lookup x=some .local\/sc.names.lookup x=some .cell\/sc.names.lookup x=some .free
noncomputable def Loc(sc:Scope)(x:Str):Prop:=sc.names.lookup x=some .local\/sc.names.lookup x=some .cell
noncomputable def Look(env:Env)(h:Heap)(m:Str->Option Value)(x:Str)(u:Value):Prop:=
 (env.kindOf x=some .local/\m x=some u)\/((env.kindOf x=some .cell\/env.kindOf x=some .free)/\∃c,env.cells.lookup x=some c/\h.IsCell c (some u))
structure Cx.Ok(X:Cx):Prop where
 mod:Mod X.K X.mg X.base
 kind:X.env.scope.kind=.function
 glob:X.env.globals=mainGlobals
 blt:X.env.builtins=builtinsNs
 above:X.s₀.heap.objs.size<=X.env.locals
 inj:∀x y c,X.env.cells.lookup x=some c->X.env.cells.lookup y=some c->x=y
 has:∀x,(X.env.kindOf x=some .cell\/X.env.kindOf x=some .free)->∃c,X.env.cells.lookup x=some c
 cab:∀x c,X.fn x=true->X.env.cells.lookup x=some c->X.s₀.heap.objs.size<=c
 hd:X.calm=true->X.A.handled=none
 frames:X.A.frames=some X.stack
 stk:X.stack=X.outer\/(X.stack=X.env::X.outer/\X.env.frame=some X.env.locals)
 exf:∀b∈X.ex,b≠X.env.locals/\∀x c,X.env.cells.lookup x=some c->c≠b
 bs:∀b o,X.base.get? b=some o->X.s₀.heap.get? b=some o/\X.H₀ b=none
 bsz:X.base.objs.size<=X.s₀.heap.objs.size
 noex:∀b o,X.base.get? b=some o->b∉X.ex
 exfs:∀b∈X.ex,b∉X.fs
 funs:X.s₀.heap.FunFrames X.base X.outer
 frf:∀b∈X.fs,X.H₀ b=none
structure Inv(X:Cx)(pins:List (Addr×Obj))(σ:List (Option V))(H:Hp)(s:Shared):Prop where
 ok:X.Ok
 os:s.os=X.s₀.os
 bare:AllBare s.gens
 base:Un X.fs X.ex X.H₀ H X.s₀.heap s.heap
 loc:∃m,s.heap.Ns X.env.locals m/\∀(i:Nat) (x:Str) (v:V),X.N[i]?=some x->σ[i]?=some (some v)->Vis X.env.scope x->∃u,RelV v u/\Look X.env s.heap m x u
 cell:∀x c,X.env.cells.lookup x=some c->∃v,s.heap.IsCell c v
 free:H X.env.locals=none
 freeC:∀x c,X.env.cells.lookup x=some c->H c=none
 pin:∀p∈X.pn++pins,s.heap.get? p.1=some p.2/\H p.1=none/\p.1≠X.env.locals/\p.1∉X.fs/\∀v,p.2.data≠.cell v
 hok:HOk X.prog X.w H s.heap
 len:σ.length=X.N.length
section
variable {X:Cx}{pins:List (Addr×Obj)}{σ:List (Option V)}{H H':Hp}{s:Shared}{h':Heap}
theorem Cx.Ok.nofr(ok:X.Ok){b:Addr}{o:Obj}(e:X.base.get? b=some o):b∉X.fs:=λhb=>by
 have:=(ok.funs.mem hb).1
 rw[e] at this;cases this
theorem Inv.bs(I:Inv X pins σ H s):∀b o,X.base.get? b=some o->s.heap.get? b=some o/\H b=none:=λb o e=>
 ⟨I.base.keep b o (I.ok.bs b o e).1 (I.ok.bs b o e).2 (I.ok.nofr e) (I.ok.noex b o e),I.base.free b o (I.ok.bs b o e).1 (I.ok.bs b o e).2 (I.ok.noex b o e)⟩
theorem Inv.bk(I:Inv X pins σ H s):∀b o,X.base.get? b=some o->s.heap.get? b=some o:=λb o e=>(I.bs b o e).1
theorem Inv.mod(I:Inv X pins σ H s):Mod X.K X.mg X.base:=I.ok.mod
theorem Inv.kIn(I:Inv X pins σ H s):X.K.In s.heap:=I.ok.mod.kin.keeps I.bk
theorem Inv.lt(I:Inv X pins σ H s):X.env.locals<s.heap.objs.size:=let ⟨_,hn,_⟩:=I.loc;hn.lt
theorem Inv.sz(I:Inv X pins σ H s):X.s₀.heap.objs.size<=s.heap.objs.size:=Nat.le_trans I.ok.above (Nat.le_of_lt I.lt)
theorem Inv.nofs(I:Inv X pins σ H s){a:Addr}(h:s.heap.objs.size<=a):a∉X.fs:=λhb=>by
 obtain⟨_,o,ho,_⟩:=I.ok.funs.mem hb
 exact absurd (Nat.lt_of_lt_of_le (Heap.lt_size ho) (Nat.le_trans I.sz h)) (Nat.lt_irrefl _)
theorem Inv.cne(I:Inv X pins σ H s):∀x c,X.env.cells.lookup x=some c->c≠X.env.locals:=λx c e z=>by
 obtain⟨v,o,ho,hd⟩:=I.cell x c e
 obtain⟨m,⟨o',es,ep,ho',hd',_⟩,_⟩:=I.loc
 rw[z,ho'] at ho;cases ho;rw[hd'] at hd;cases hd
theorem Inv.funs(I:Inv X pins σ H s):s.heap.FunFrames X.base X.outer:=by
 have all:∀(l:List Env),(∀b∈frs l,b∈X.fs)->X.s₀.heap.FunFrames X.base l->s.heap.FunFrames X.base l:=by
  intro l
  induction l with
  |nil=>intro _ _;trivial
  |cons env r ih=>
   intro hs hl
   obtain⟨hk,⟨L,o,hf,hn,ho,hd⟩,hr⟩:=hl
   have hL:L∈X.fs:=hs L (by unfold frs;rw[List.filterMap_cons,hf];exact List.mem_cons_self)
   obtain⟨sl,e⟩:=I.base.slot L o ho (I.ok.frf L hL) hL λz=>I.ok.exfs L z hL
   exact⟨hk,⟨L,_,hf,hn,e,hd⟩,ih (λb hb=>hs b (by unfold frs;rw[List.filterMap_cons,hf];exact List.mem_cons_of_mem _ hb)) hr⟩
 exact all X.outer (λ_ hb=>hb) I.ok.funs
theorem Inv.stack(I:Inv X pins σ H s):s.heap.FunFrames X.base X.stack:=by
 rcases I.ok.stk with e|⟨e,hf⟩
 ·rw[e];exact I.funs
 ·rw[e]
  obtain⟨m,hn,_⟩:=I.loc
  refine .cons (by rw[I.ok.kind];decide) hf hn ?_ I.funs
  exact Heap.get?_none_of_le (Nat.le_trans I.ok.bsz I.ok.above)
theorem Inv.stkSub(I:Inv X pins σ H s):∀b∈frs X.stack,b∈X.env.locals::X.fs:=λb hb=>by
 rcases I.ok.stk with e|⟨e,hf⟩
 ·rw[e] at hb;exact List.mem_cons_of_mem _ hb
 ·rw[e] at hb
  unfold frs at hb
  rw[List.filterMap_cons,hf] at hb
  exact hb
theorem Inv.stkFree(I:Inv X pins σ H s):∀b∈frs X.stack,H b=none:=λb hb=>by
 rcases List.mem_cons.mp (I.stkSub b hb) with e|hb
 ·rw[e];exact I.free
 ·obtain⟨_,o,ho,_⟩:=I.ok.funs.mem hb
  exact I.base.free b o ho (I.ok.frf b hb) λz=>I.ok.exfs b z hb
theorem Inv.step{g':Array GenState}{t':Nat}{d':Drawn}{ch:List Addr}(I:Inv X pins σ H s)
  (hch:∀b∈ch,(b∈X.ex\/X.s₀.heap.objs.size<=b)/\b≠X.env.locals/\(∀x c,X.env.cells.lookup x=some c->c≠b)/\∀p∈X.pn++pins,p.1≠b)
  (keep:∀b o,b≠X.env.locals->b∉X.fs->b∉ch->s.heap.get? b=some o->H b=none->h'.get? b=some o)
  (slot:∀b o,b≠X.env.locals->b∈X.fs->b∉ch->s.heap.get? b=some o->H b=none->∃sl,h'.get? b=some {o with slots:=sl}) (free:∀b o,b∉ch->s.heap.get? b=some o->H b=none->H' b=none)
  (there:∀b o,b∉ch->s.heap.get? b=some o->∃o',h'.get? b=some o')
  (tups:∀b xs,H b=some (.tup xs)->H' b=some (.tup xs)) (frzs:∀b o u,H b=some (.frz o u)->H' b=some (.frz o u)) (tbls:∀b ps,H b=some (.tbl ps)->∃more,H' b=some (.tbl (ps++more)))
  (ns:∀m,s.heap.Ns X.env.locals m->h'.Ns X.env.locals m) (hok:HOk X.prog X.w H' h') (hg:AllBare g') :
  Inv X pins σ H' {s with heap:=h',gens:=g',drawn:=d',toks:=t'}:=by
 have neL:∀b o,X.s₀.heap.get? b=some o->b≠X.env.locals:=λb o e=>Nat.ne_of_lt (Nat.lt_of_lt_of_le (Heap.lt_size e) I.ok.above)
 have neC:∀b o,X.s₀.heap.get? b=some o->b∉X.ex->b∉ch:=λb o e hx hb=>by
  rcases (hch b hb).1 with z|z
  ·exact hx z
  ·exact absurd (Nat.lt_of_lt_of_le (Heap.lt_size e) z) (Nat.lt_irrefl _)
 have cellK:∀x c,X.env.cells.lookup x=some c->∀v,s.heap.IsCell c v->h'.IsCell c v:=λx c e v ⟨o,ho,hd⟩=>by
  have nch:c∉ch:=λz=>(hch c z).2.2.1 x c e rfl
  by_cases hc:c∈X.fs
  ·obtain⟨sl,q⟩:=slot c o (I.cne x c e) hc nch ho (I.freeC x c e)
   exact⟨_,q,hd⟩
  ·exact⟨o,keep c o (I.cne x c e) hc nch ho (I.freeC x c e),hd⟩
 refine⟨I.ok,I.os,hg,⟨λb o e n hb hx=>?_,λb o e n hb hx=>?_,λb o e n hx=>?_,λb o e hx=>?_,λb xs e=>tups b xs (I.base.tups b xs e),λb o xs e=>frzs b o xs (I.base.frzs b o xs e),λb ps e=>?_⟩,?_,λx c e=>?_,?_,λx c e=>?_,λp hp=>?_,hok,I.len⟩
 ·exact keep b o (neL b o e) hb (neC b o e hx) (I.base.keep b o e n hb hx) (I.base.free b o e n hx)
 ·obtain⟨sl,e1⟩:=I.base.slot b o e n hb hx
  obtain⟨sl',e2⟩:=slot b _ (neL b o e) hb (neC b o e hx) e1 (I.base.free b o e n hx)
  exact⟨sl',e2⟩
 ·obtain⟨o',e1⟩:=I.base.there b o e hx
  exact free b o' (neC b o e hx) e1 (I.base.free b o e n hx)
 ·obtain⟨o',e1⟩:=I.base.there b o e hx
  exact there b o' (neC b o e hx) e1
 ·obtain⟨m1,e1⟩:=I.base.tbls b ps e
  obtain⟨m2,e2⟩:=tbls b _ e1
  exact⟨m1++m2,by rw[e2,Array.append_assoc]⟩
 ·obtain⟨m,hn,hl⟩:=I.loc
  refine⟨m,ns m hn,λi x v e1 e2 e3=>?_⟩
  obtain⟨u,r,l⟩:=hl i x v e1 e2 e3
  refine⟨u,r,?_⟩
  rcases l with l|⟨k,c,e,z⟩
  ·exact .inl l
  ·exact .inr ⟨k,c,e,cellK x c e _ z⟩
 ·obtain⟨v,z⟩:=I.cell x c e
  exact⟨v,cellK x c e v z⟩
 ·obtain⟨m,⟨o,_,_,ho,_⟩,_⟩:=I.loc
  exact free _ o (λz=>(hch _ z).2.1 rfl) ho I.free
 ·obtain⟨v,o,ho,hd⟩:=I.cell x c e
  exact free c o (λz=>(hch c z).2.2.1 x c e rfl) ho (I.freeC x c e)
 ·obtain⟨e,n,ne,nf,d⟩:=I.pin p hp
  have nch:p.1∉ch:=λz=>(hch p.1 z).2.2.2 p hp rfl
  exact⟨keep p.1 p.2 ne nf nch e n,free p.1 p.2 nch e n,ne,nf,d⟩
theorem Inv.un{t':Nat}(I:Inv X pins σ H s)(u:Un X.fs [] H H' s.heap h')(hok:HOk X.prog X.w H' h'):Inv X pins σ H' {s with heap:=h',toks:=t'}:=by
 obtain⟨m,⟨o,es,ep,ho,r⟩,_⟩:=id I.loc
 obtain⟨sl,hL⟩:=u.any ho I.free (by simp)
 exact I.step (g':=s.gens) (d':=s.drawn) (ch:=[]) (λ_ z=>nomatch z) (λb o _ hb _ e n=>u.keep b o e n hb (by simp)) (λb o _ hb _ e n=>u.slot b o e n hb (by simp)) (λb o _ e n=>u.free b o e n (by simp)) (λb o _ e=>u.there b o e (by simp)) u.tups u.frzs u.tbls (λm' hm=>by
  obtain⟨o',es',ep',ho',r'⟩:=hm
  rw[ho] at ho';cases ho'
  exact⟨_,es',ep',hL,r'⟩) hok I.bare
theorem Inv.call{g':Array GenState}{t':Nat}{d':Drawn}{ch:List Addr}(I:Inv X pins σ H s)(u:Un (frs X.stack) ch H H' s.heap h')(hok:HOk X.prog X.w H' h')(hg:AllBare g')
  (hch:∀b∈ch,(b∈X.ex\/X.s₀.heap.objs.size<=b)/\b≠X.env.locals/\(∀x c,X.env.cells.lookup x=some c->c≠b)/\∀p∈X.pn++pins,p.1≠b) :
  Inv X pins σ H' {s with heap:=h',gens:=g',drawn:=d',toks:=t'}:=by
 obtain⟨m,⟨o,es,ep,ho,r⟩,_⟩:=id I.loc
 obtain⟨sl,hL⟩:=u.any ho I.free λz=>(hch _ z).2.1 rfl
 exact I.step (ch:=ch) hch (λb o hL hb hc e n=>u.keep b o e n (λz=>(List.mem_cons.mp (I.stkSub b z)).elim hL hb) hc) (λb o _ _ hc e n=>u.any e n hc) (λb o hc e n=>u.free b o e n hc) (λb o hc e=>u.there b o e hc) u.tups u.frzs u.tbls (λm' hm=>by
  obtain⟨o',es',ep',ho',r'⟩:=hm
  rw[ho] at ho';cases ho'
  exact⟨_,es',ep',hL,r'⟩) hok hg
theorem Inv.turned{t':Nat}{it:Addr}(I:Inv X pins σ H s)(k:∀b o,b≠it->s.heap.get? b=some o->h'.get? b=some o)(hn:H it=none)(hL:it≠X.env.locals)
  (h1:it∈X.ex\/X.s₀.heap.objs.size<=it) (h2:∀x c,X.env.cells.lookup x=some c->c≠it) (h3:∀p∈X.pn++pins,p.1≠it):Inv X pins σ H {s with heap:=h',toks:=t'}:=by
 have nit:∀b u,H b=some u->b≠it:=λb u e z=>by rw[z,hn] at e;cases e
 refine I.step (g':=s.gens) (d':=s.drawn) (ch:=[it]) (λb hb=>?_) (λb o _ _ hc e _=>k b o (λz=>hc (by simp[z])) e) (λb o _ _ hc e _=>⟨o.slots,k b o (λz=>hc (by simp[z])) e⟩) (λ_ _ _ _ n=>n)
  (λb o hc e=>⟨o,k b o (λz=>hc (by simp[z])) e⟩) (λ_ _ e=>e) (λ_ _ _ e=>e) (λb ps e=>⟨#[],by rw[e];simp⟩) (λm hm=>?_) (λb u e=>?_) I.bare
 ·have e:b=it:=by simpa using hb
  subst e
  exact⟨h1,hL,h2,h3⟩
 ·obtain⟨o,es,ep,ho,r⟩:=hm
  exact⟨o,es,ep,k _ o (Ne.symm hL) ho,r⟩
 ·refine (I.hok b u e).stay (λc v hc q=>k c v ?_ q) (λ_ q=>q) λ_ _ q=>q
  rcases hc with z|z
  ·rw[z];exact nit b u e
  ·exact nit c _ z
theorem Inv.tok(I:Inv X pins σ H s)(t:Nat):Inv X pins σ H {s with toks:=t}:=I.un (h':=s.heap) (t':=t) Un.refl I.hok
theorem Inv.kept{t':Nat}(I:Inv X pins σ H s)(k:∀b u,s.heap.get? b=some u->h'.get? b=some u):Inv X pins σ H {s with heap:=h',toks:=t'}:=I.un (Un.kept k) (I.hok.kept k)
theorem Inv.laid{a:Addr}{o:HO}{t':Nat}(I:Inv X pins σ H s)(k:∀b u,s.heap.get? b=some u->h'.get? b=some u)(hp:s.heap.objs.size<=a)(new:ObjOk X.prog X.w (upd H a o) h' a o) :
  Inv X pins σ (upd H a o) {s with heap:=h',toks:=t'}:=I.un (Un.laid k hp (I.hok.fresh hp)) (I.hok.laid k hp new)
theorem Inv.write{x e:Addr}{o:HO}{t':Nat}(I:Inv X pins σ H s)(mu:Mut (H x))(he:e=x\/H e=some (.own x))(k:∀b u,b≠e->s.heap.get? b=some u->h'.get? b=some u)(heo:∃u,h'.get? e=some u)
  (new:ObjOk X.prog X.w (upd H x o) h' x o):Inv X pins σ (upd H x o) {s with heap:=h',toks:=t'}:=I.un (Un.write mu he k heo) (I.hok.write mu he k heo new)
theorem Inv.pins_of{pins':List (Addr×Obj)}(I:Inv X pins σ H s)(h:∀p∈pins',s.heap.get? p.1=some p.2/\H p.1=none/\p.1≠X.env.locals/\p.1∉X.fs/\∀v,p.2.data≠.cell v):Inv X pins' σ H s:=
 ⟨I.ok,I.os,I.bare,I.base,I.loc,I.cell,I.free,I.freeC,λp hp=>(List.mem_append.mp hp).elim (λz=>I.pin p (List.mem_append_left _ z)) (h p),I.hok,I.len⟩
theorem uE{N:List Str}(hN:N.Nodup){i j:Nat}{x:Str}(a:N[i]?=some x)(b:N[j]?=some x):i=j:=by
 obtain⟨h1,e1⟩:=List.getElem?_eq_some_iff.mp a
 obtain⟨h2,e2⟩:=List.getElem?_eq_some_iff.mp b
 exact (List.getElem_inj hN).mp (e1.trans e2.symm)
theorem KP{M:Model}{A:Around}{E:Value->Shared->Prop}{i:Nat}{x:Str}{v:V}{u:Value}{Q:Unit->Shared->Prop}(I:Inv X pins σ H s)(hN:X.N.Nodup)(hi:X.N[i]?=some x)(hx:Loc X.env.scope x)(r:RelV v u)
  (h:∀s',Inv X pins (σ.set i (some v)) H s'->(∃a,Heap.SameBut a s.heap s'.heap/\(a=X.env.locals\/X.env.cells.lookup x=some a))->Q () s') (hf:X.fn x=true\/X.env.scope.names.lookup x=some .local:=by first|exact .inl rfl|exact .inr rfl|assumption):wpAny M A (storeName X.env x u) Q E s:=by
 obtain⟨m,hn,hl⟩:=id I.loc
 have hcls:(X.env.scope.kind == .class || (X.env.scope.kind == .module&&X.env.locals != X.env.globals))=false:=by rw[I.ok.kind];rfl
 have hiσ:i<σ.length:=by rw[I.len];exact (List.getElem?_eq_some_iff.mp hi).1
 have cne:=I.cne
 have tracked:∀{a:Addr} {h':Heap},(∃o,s.heap.get? a=some o/\H a=none)->Heap.SameBut a s.heap h'->HOk X.prog X.w H h':=λ{a h'} ha hs b ob e=>by
  obtain⟨_,_,hfree⟩:=ha
  refine (I.hok b ob e).stay (λc w' hc q=>(hs.2 c ?_).trans q) (λ_ q=>q) λ_ _ q=>q
  rintro rfl
  rcases hc with rfl|hc
  ·rw[hfree] at e;cases e
  ·rw[hfree] at hc;cases hc
 rcases hx with hk|hk
 ·refine wpAny_storeName_local hk hn (λh' hn' hs=>?_) hcls
  obtain⟨oL,_,_,hoL,_⟩:=id hn
  refine h _ ⟨I.ok,I.os,I.bare,⟨λb o e n hb hx=>?_,λb o e n hb hx=>?_,I.base.free,λb o e hx=>?_,I.base.tups,I.base.frzs,I.base.tbls⟩,⟨_,hn',λj y v' e1 e2 e3=>?_⟩,λy c e=>?_,I.free,I.freeC,λp hp=>?_,tracked ⟨oL,hoL,I.free⟩ hs,by simpa using I.len⟩ ⟨_,hs,.inl rfl⟩
  ·exact (hs.2 b (Nat.ne_of_lt (Nat.lt_of_lt_of_le (Heap.lt_size e) I.ok.above))).trans (I.base.keep b o e n hb hx)
  ·obtain⟨sl,e1⟩:=I.base.slot b o e n hb hx
   exact⟨sl,(hs.2 b (Nat.ne_of_lt (Nat.lt_of_lt_of_le (Heap.lt_size e) I.ok.above))).trans e1⟩
  ·obtain⟨o',e1⟩:=I.base.there b o e hx
   exact⟨o',(hs.2 b (Nat.ne_of_lt (Nat.lt_of_lt_of_le (Heap.lt_size e) I.ok.above))).trans e1⟩
  ·by_cases hj:j=i
   ·subst hj
    rw[hi] at e1;cases e1
    rw[List.getElem?_set_self hiσ] at e2
    cases e2
    exact⟨u,r,.inl ⟨hk,by simp⟩⟩
   ·rw[List.getElem?_set_ne (Ne.symm hj)] at e2
    obtain⟨u',r',q⟩:=hl j y v' e1 e2 e3
    refine⟨u',r',?_⟩
    rcases q with⟨k,e⟩|⟨k,c,e,z⟩
    ·refine .inl ⟨k,?_⟩
     have:y≠x:=λe=>hj (uE hN e1 (e▸hi))
     simp[this,e]
    ·exact .inr ⟨k,c,e,z.sameBut hs (cne y c e)⟩
  ·obtain⟨w',z⟩:=I.cell y c e
   exact⟨w',z.sameBut hs (cne y c e)⟩
  ·obtain⟨e,n,ne,nf,d⟩:=I.pin p hp
   exact⟨(hs.2 p.1 ne).trans e,n,ne,nf,d⟩
 ·have hfn:X.fn x=true:=by
   rcases hf with z|z
   ·exact z
   ·rw[z] at hk;cases hk
  obtain⟨c,hc⟩:=I.ok.has x (.inl hk)
  obtain⟨w',z⟩:=I.cell x c hc
  refine wpAny_storeName_cell I.ok.kind hk hc z (λh' hc' hs=>?_)
  obtain⟨oc,hoc,hocd⟩:=id z
  refine h {s with heap:=h'} ⟨I.ok,I.os,I.bare,⟨λb o e n hb hx=>?_,λb o e n hb hx=>?_,I.base.free,λb o e hx=>?_,I.base.tups,I.base.frzs,I.base.tbls⟩,⟨m,hn.sameBut hs (Ne.symm (cne x c hc)),λj y v' e1 e2 e3=>?_⟩,λy c' e=>?_,I.free,I.freeC,λp hp=>?_,tracked ⟨oc,hoc,I.freeC x c hc⟩ hs,by simpa using I.len⟩ ⟨c,hs,.inr hc⟩
  ·exact (hs.2 b (Nat.ne_of_lt (Nat.lt_of_lt_of_le (Heap.lt_size e) (I.ok.cab x c hfn hc)))).trans (I.base.keep b o e n hb hx)
  ·obtain⟨sl,e1⟩:=I.base.slot b o e n hb hx
   exact⟨sl,(hs.2 b (Nat.ne_of_lt (Nat.lt_of_lt_of_le (Heap.lt_size e) (I.ok.cab x c hfn hc)))).trans e1⟩
  ·obtain⟨o',e1⟩:=I.base.there b o e hx
   exact⟨o',(hs.2 b (Nat.ne_of_lt (Nat.lt_of_lt_of_le (Heap.lt_size e) (I.ok.cab x c hfn hc)))).trans e1⟩
  ·by_cases hj:j=i
   ·subst hj
    rw[hi] at e1;cases e1
    rw[List.getElem?_set_self hiσ] at e2
    cases e2
    exact⟨u,r,.inr ⟨.inl hk,c,hc,hc'⟩⟩
   ·rw[List.getElem?_set_ne (Ne.symm hj)] at e2
    obtain⟨u',r',q⟩:=hl j y v' e1 e2 e3
    refine⟨u',r',?_⟩
    rcases q with q|⟨k,c',e,z'⟩
    ·exact .inl q
    ·refine .inr ⟨k,c',e,z'.sameBut hs ?_⟩
     rintro rfl
     exact hj (uE hN e1 (I.ok.inj _ _ _ e hc▸hi))
  ·by_cases hcc:c'=c
   ·subst hcc;exact⟨_,hc'⟩
   ·obtain⟨w2,z2⟩:=I.cell y c' e
    exact⟨w2,z2.sameBut hs hcc⟩
  ·obtain⟨e,n,ne,nf,d⟩:=I.pin p hp
   refine⟨(hs.2 p.1 ?_).trans e,n,ne,nf,d⟩
   intro q
   rw[q,hoc] at e
   have q':oc=p.2:=Option.some.inj e
   exact d w' (by rw[←q'];exact hocd)
theorem QX{M:Model}{A:Around}{E:Value->Shared->Prop}{i:Nat}{x:Str}{v:V}{u:Value}{Q:Unit->Shared->Prop}(I:Inv X pins σ H s)(hN:X.N.Nodup)(hi:X.N[i]?=some x)(hx:Loc X.env.scope x)(r:RelV v u)
  (h:∀s',Inv X pins (σ.set i (some v)) H s'->Q () s') (hf:X.fn x=true\/X.env.scope.names.lookup x=some .local:=by first|exact .inl rfl|exact .inr rfl|assumption):wpAny M A (storeName X.env x u) Q E s:=
 KP I hN hi hx r (λs' I' _=>h s' I') hf
theorem Inv.call'{s':Shared}{ch:List Addr}(I:Inv X pins σ H s)(ho:s'.os=s.os)(u:Un (frs X.stack) ch H H' s.heap s'.heap)(hok:HOk X.prog X.w H' s'.heap)(hg:AllBare s'.gens)
  (hch:∀b∈ch,(b∈X.ex\/X.s₀.heap.objs.size<=b)/\b≠X.env.locals/\(∀x c,X.env.cells.lookup x=some c->c≠b)/\∀p∈X.pn++pins,p.1≠b):Inv X pins σ H' s':=by
 obtain⟨h',g',d',t',o'⟩:=s'
 have e:o'=s.os:=ho
 subst e
 exact I.call (g':=g') (t':=t') (d':=d') u hok hg hch
end
noncomputable abbrev XK:=Value->Option Addr->Hp->Prop
noncomputable abbrev St:=List (Option V)
noncomputable abbrev VK:=V->Hp->Prop
noncomputable abbrev TE:=St->Hp->VK->Prop
noncomputable abbrev TT:=St->Hp->(Bool->Hp->Prop)->Prop
noncomputable abbrev TA:=St->Hp->(List V->Hp->Prop)->Prop
structure Ends where
 nx:St->Hp->Prop
 rt:VK
 bk:St->Hp->Prop:=λ_ _=>False
 ct:St->Hp->Prop:=λ_ _=>False
noncomputable abbrev TS:=Ends->St->Hp->Prop
noncomputable def EP (X:Cx)(pins:List (Addr×Obj))(σ:St)(Q:VK)(u:Value)(s':Shared):Prop:=∃v H',Inv X pins σ H' s'/\RelV v u/\Q v H'
noncomputable def TP (X:Cx)(pins:List (Addr×Obj))(σ:St)(Q:Bool->Hp->Prop)(b:Bool)(s':Shared):Prop:=∃H',Inv X pins σ H' s'/\Q b H'
noncomputable def AP (X:Cx)(pins:List (Addr×Obj))(σ:St)(Q:List V->Hp->Prop)(us:List Value)(s':Shared):Prop:=∃vs H',Inv X pins σ H' s'/\Vals vs us/\Q vs H'
noncomputable def SP (X:Cx)(pins:List (Addr×Obj))(D:Ends)(f:Flow)(s':Shared):Prop:=
 match f with
 |.next=>∃σ' H',Inv X pins σ' H' s'/\D.nx σ' H'
 |.brk=>∃σ' H',Inv X pins σ' H' s'/\D.bk σ' H'
 |.cont=>∃σ' H',Inv X pins σ' H' s'/\D.ct σ' H'
 |.ret u=>∃v σ' H',Inv X pins σ' H' s'/\RelV v u/\D.rt v H'
noncomputable def PE (X:Cx)(e:Expr)(t:TE):Prop:=
 ∀(pins:List (Addr×Obj)) (s:Shared) (σ:St) (H:Hp) (Q:VK),Inv X pins σ H s->t σ H Q->wpAny (model X.prog X.w) X.A (eval e X.env) (EP X pins σ Q) X.xe s
noncomputable def PT (X:Cx)(e:Expr)(t:TT):Prop:=
 ∀(pins:List (Addr×Obj)) (s:Shared) (σ:St) (H:Hp) (Q:Bool->Hp->Prop),Inv X pins σ H s->t σ H Q->wpAny (model X.prog X.w) X.A (isTrue e X.env (eval e X.env)) (TP X pins σ Q) X.xe s
noncomputable def PW (X:Cx)(e:Expr)(t:TT):Prop:=
 ∀(whole:Sem Value) (pins:List (Addr×Obj)) (s:Shared) (σ:St) (H:Hp) (Q:Bool->Hp->Prop),Inv X pins σ H s->t σ H Q->wpAny (model X.prog X.w) X.A (isTrue e X.env whole) (TP X pins σ Q) X.xe s
theorem PW.pt{X:Cx}{e:Expr}{t:TT}(h:PW X e t):PT X e t:=h _
noncomputable def PA (X:Cx)(es:List Expr)(t:TA):Prop:=
 ∀(pos:Pos) (pins:List (Addr×Obj)) (s:Shared) (σ:St) (H:Hp) (Q:List V->Hp->Prop),Inv X pins σ H s->t σ H Q->wpAny (model X.prog X.w) X.A (spliced (backTo pos (starEach es X.env))) (AP X pins σ Q) X.xe s
noncomputable def PS (X:Cx)(st:Stmt)(t:TS):Prop:=
 ∀(pins:List (Addr×Obj)) (s:Shared) (σ:St) (H:Hp) (D:Ends),Inv X pins σ H s->t D σ H->wpAny (model X.prog X.w) X.A (exec st X.env) (SP X pins D) X.xe s
noncomputable def PSs (X:Cx)(st:List Stmt)(t:TS):Prop:=
 ∀(pins:List (Addr×Obj)) (s:Shared) (σ:St) (H:Hp) (D:Ends),Inv X pins σ H s->t D σ H->wpAny (model X.prog X.w) X.A (execs st X.env) (SP X pins D) X.xe s
theorem thn{α:Type}{t:Sem α}{Q Q':α->Shared->Prop}{M:Model}{A:Around}{E:Value->Shared->Prop}{s:Shared}(h:wpAny M A t Q E s)(hQ:∀a s,Q a s->Q' a s):wpAny M A t Q' E s:=wpAny_mono h hQ λ_ _ x=>x
end L2
namespace L2
open PySem PySem.Spec PyProof.Rows
section
variable {X:Cx}
noncomputable def z5U (i:Nat):TE:=λσ H Q=>∃v,σ[i]?=some (some v)/\Q v H
noncomputable def tC (v:V):TE:=λ_ H Q=>Q v H
theorem kZ {i:Nat} {x:Str} {pos:Pos} (hN:X.N[i]?=some x) (hv:Vis X.env.scope x) (hd:(x == ("__debug__":Str))=false:=by decide) (hcd:(x == ("__classdict__":Str))=false:=by decide):PE X (.Name x pos) (z5U i):=by
 intro pins s σ H Q I h
 obtain⟨v,e,h⟩:=h
 obtain⟨m,hn,hl⟩:=I.loc
 obtain⟨u,r,l⟩:=hl i x v hN e hv
 have fin:EP X pins σ Q u s:=⟨v,H,I,r,h⟩
 rcases l with⟨hk,hm⟩|⟨hk,c,hc,hcell⟩
 ·exact wpAny_Name (wpAny_loadName_local I.ok.kind hk hn hm fin) hd
 ·rcases hk with hk|hk
  ·exact wpAny_Name (wpAny_loadName_cell I.ok.kind hk hc hcell fin) hd
  ·exact wpAny_Name (wpAny_loadName_free I.ok.kind hk hc hcell fin hcd) hd
theorem z3L{i j pos}:PE X (.Constant (.int i) j pos) (tC (.int i)):=λ_ _ _ H _ I h=>wpAny_Constant_int ⟨.int i,H,I.tok _,⟨_,rfl⟩,h⟩
theorem z4H{b j pos}:PE X (.Constant (.bool b) j pos) (tC (.bl b)):=λ_ _ _ H _ I h=>Constant_bool ⟨.bl b,H,I,rfl,h⟩
theorem XC{j pos}:PE X (.Constant .none j pos) (tC .non):=λ_ _ _ H _ I h=>Constant_none ⟨.non,H,I,rfl,h⟩
theorem Qd{x j pos}:PE X (.Constant (.str x) j pos) (tC (.str x)):=λ_ _ _ H _ I h=>Calls.Constant_str ⟨.str x,H,I.tok _,⟨_,rfl⟩,h⟩
noncomputable def Gl(X:Cx)(x:Str):Prop:=X.env.kindOf x=some .globalImplicit
theorem wc{E:Value->Shared->Prop}{pins:List (Addr×Obj)}{s:Shared}{σ:St}{H:Hp}{x:Str}{u:Value}{pos:Pos}{Q:Value->Shared->Prop}(I:Inv X pins σ H s)(hg:Gl X x)(hm:X.mg x=some u)(h:Q u s)
  (hd:(x == ("__debug__":Str))=false:=by decide):wpAny (model X.prog X.w) X.A (eval (.Name x pos) X.env) Q E s:=
 Calls.Name_function_global I.ok.kind hg (Calls.loadGlobal_global (by rw[I.ok.glob];exact I.mod.glob.keeps I.bk) hm h) hd
theorem w_{E:Value->Shared->Prop}{pins:List (Addr×Obj)}{s:Shared}{σ:St}{H:Hp}{x:Str}{u:Value}{pos:Pos}{Q:Value->Shared->Prop}(I:Inv X pins σ H s)(hg:Gl X x)(hm:X.mg x=none)(hv:bootBuiltins x=some u)(h:Q u s)
  (hn:x≠"__name__":=by decide) (hd:(x == ("__debug__":Str))=false:=by decide):wpAny (model X.prog X.w) X.A (eval (.Name x pos) X.env) Q E s:=by
 obtain⟨mb,h1,h2⟩:=I.mod.blt
 exact Calls.Name_function_global I.ok.kind hg (Calls.loadGlobal_builtin (by rw[I.ok.glob];exact I.mod.glob.keeps I.bk) hm (by rw[I.ok.blt];exact h1.keeps I.bk) ((h2 x hn).trans hv) h) hd
theorem Jf {x:Str} {v:V} {u:Value} {pos:Pos} (hg:Gl X x) (hm:X.mg x=some u) (r:RelV v u) (hd:(x == ("__debug__":Str))=false:=by decide):PE X (.Name x pos) (tC v):=
 λ_ _ _ H _ I h=>wc I hg hm ⟨v,H,I,r,h⟩ hd
theorem z05 {x:Str} {v:V} {u:Value} {pos:Pos} (hg:Gl X x) (hm:X.mg x=none) (hv:bootBuiltins x=some u) (r:RelV v u) (hn:x≠"__name__":=by decide) (hd:(x == ("__debug__":Str))=false:=by decide):PE X (.Name x pos) (tC v):=
 λ_ _ _ H _ I h=>w_ I hg hm hv ⟨v,H,I,r,h⟩ hn hd
variable {a b:Expr}{ta tb:TE}{pos:Pos}
variable {tA tB':TT}{rest:List Expr}
noncomputable def vj (t u:TT):TT:=λσ H Q=>t σ H λc H1=>if c=true then u σ H1 Q else Q false H1
noncomputable def tOr (t u:TT):TT:=λσ H Q=>t σ H λc H1=>if c=true then Q true H1 else u σ H1 Q
noncomputable def zQ (t:TT):TT:=λσ H Q=>t σ H λc H1=>Q (!c) H1
theorem z0p(ha:PT X a tA):PW X (.BoolOp .And [a] pos) tA:=by
 intro wh pins s σ H Q I h
 refine isTrue_and (thn (ha pins s σ H Q I h) λc s1 e=>?_)
 cases c with
 |true=>exact isTrue_and_nil e
 |false=>exact e
theorem z1J(ha:PT X a tA):PW X (.BoolOp .Or [a] pos) tA:=by
 intro wh pins s σ H Q I h
 refine isTrue_or (thn (ha pins s σ H Q I h) λc s1 e=>?_)
 cases c with
 |false=>exact isTrue_or_nil e
 |true=>exact e
theorem z3d(ha:PT X a tA)(hb:PW X (.BoolOp .And (b::rest) pos) tB'):PW X (.BoolOp .And (a::b::rest) pos) (vj tA tB'):=by
 intro wh pins s σ H Q I h
 refine isTrue_and (thn (ha pins s σ H _ I h) λc s1 ⟨H1,I1,q1⟩=>?_)
 cases c with
 |true=>exact hb wh pins s1 σ H1 Q I1 q1
 |false=>exact⟨H1,I1,q1⟩
theorem z54(ha:PT X a tA)(hb:PW X (.BoolOp .Or (b::rest) pos) tB'):PW X (.BoolOp .Or (a::b::rest) pos) (tOr tA tB'):=by
 intro wh pins s σ H Q I h
 refine isTrue_or (thn (ha pins s σ H _ I h) λc s1 ⟨H1,I1,q1⟩=>?_)
 cases c with
 |true=>exact⟨H1,I1,q1⟩
 |false=>exact hb wh pins s1 σ H1 Q I1 q1
theorem z3V(ha:PT X a tA):PT X (.UnaryOp .Not a pos) (zQ tA):=by
 intro pins s σ H Q I h
 exact isTrue_not (ha pins s σ H (λc H1=>Q (!c) H1) I h)
theorem z3Z{op}{t:TE}(h:PE X a t):PE X (.BoolOp op [a] pos) t:=λpins s σ H Q I hw=>BoolOp_one (h pins s σ H Q I hw)
end
end L2
namespace L2
open PySem PySem.Spec PyProof.Rows
noncomputable def SqL (K:PySem.W.Frag)(H:Hp)(a:Addr)(xs:List V):Prop:=
 Rd H a (.lst xs)\/
  ∃(o:Obj) (its:Array Value) (n:Nat),K.lookup a=some o/\o.cls=.type "list"/\o.dict=none/\o.data=.seq its n/\its.size<=sizeLine/\Vals xs its.toList
noncomputable def SqT (K:PySem.W.Frag)(H:Hp)(a:Addr)(xs:List V):Prop:=
 Rd H a (.tup xs)\/
  ∃(o:Obj) (its:Array Value) (n:Nat),K.lookup a=some o/\o.cls=.type "tuple"/\o.data=.seq its n/\its.size<=sizeLine/\Vals xs its.toList
noncomputable def z6d:Value->Option V
 |.none=>some .non
 |.bool b=>some (.bl b)
 |.int i _=>some (.int i)
 |.str x _=>some (.str x)
 |.bytes b _=>some (.byt b)
 |.float b _=>some (.flt b)
 |.ref a=>some (.ref a)
 |.type n=>some (.ty n)
 |_=>none
theorem RelV.abs{x:V}{u:Value}(r:RelV x u):z6d u=some x:=by
 cases x with
 |non=>cases r;rfl
 |bl _=>cases r;rfl
 |int _=>obtain⟨t,rfl⟩:=r;rfl
 |str _=>obtain⟨t,rfl⟩:=r;rfl
 |byt _=>obtain⟨t,rfl⟩:=r;rfl
 |flt _=>obtain⟨t,rfl⟩:=r;rfl
 |ref _=>cases r;rfl
 |ty _=>cases r;rfl
theorem RelV.inj{x y:V}{u:Value}(r:RelV x u)(q:RelV y u):x=y:=Option.some.inj (r.abs.symm.trans q.abs)
theorem Vals.inj:∀{xs ys:List V} {us:List Value},Vals xs us->Vals ys us->xs=ys
 |_,_,_,.nil,.nil=>rfl
 |_,_,_,.cons r t,.cons r' t'=>by rw[r.inj r',Vals.inj t t']
section
variable {X:Cx}{pins:List (Addr×Obj)}{σ:St}{H:Hp}{s:Shared}{a:Addr}{xs ys:List V}
theorem Inv.list(I:Inv X pins σ H s)(h:SqL X.K H a xs):∃its:List Value,Vals xs its/\PlainL s.heap a its.toArray/\xs.length<=sizeLine:=by
 rcases h with h|⟨o,its,n,hk,hc,hd,hs,hz,r⟩
 ·obtain⟨z,its,n,r,e⟩:=h.ok I.hok
  exact⟨its,r,⟨_,n,e,rfl,rfl,rfl⟩,z⟩
 ·refine⟨its.toList,r,⟨o,n,I.kIn a o hk,hc,hd,by simpa using hs⟩,?_⟩
  have e:=r.length
  simp only[Array.length_toList] at e
  omega
theorem Inv.tuple(I:Inv X pins σ H s)(h:SqT X.K H a xs):∃its:List Value,Vals xs its/\IsTup s.heap a its.toArray/\xs.length<=sizeLine:=by
 rcases h with h|⟨o,its,n,hk,hc,hs,hz,r⟩
 ·obtain⟨z,its,r,p⟩:=h.ok I.hok
  exact⟨its,r,p,z⟩
 ·refine⟨its.toList,r,⟨o,I.kIn a o hk,hc,n,by simpa using hs⟩,?_⟩
  have e:=r.length
  simp only[Array.length_toList] at e
  omega
theorem Inv.list_inj(I:Inv X pins σ H s)(h:SqL X.K H a xs)(h':SqL X.K H a ys):xs=ys:=by
 obtain⟨its,r,⟨o,n,e,_,_,d⟩,_⟩:=I.list h
 obtain⟨its',r',⟨o',n',e',_,_,d'⟩,_⟩:=I.list h'
 rw[e] at e';cases e'
 rw[d] at d'
 injection d' with d1 _
 have:its=its':=by simpa using congrArg Array.toList d1
 subst this
 exact r.inj r'
theorem Inv.tuple_inj(I:Inv X pins σ H s)(h:SqT X.K H a xs)(h':SqT X.K H a ys):xs=ys:=by
 obtain⟨its,r,⟨o,e,_,n,d⟩,_⟩:=I.tuple h
 obtain⟨its',r',⟨o',e',_,n',d'⟩,_⟩:=I.tuple h'
 rw[e] at e';cases e'
 rw[d] at d'
 injection d' with d1 _
 have:its=its':=by simpa using congrArg Array.toList d1
 subst this
 exact r.inj r'
end
noncomputable abbrev Cx.wish(X:Cx)(E:Value->Shared->Prop):Cx:={X with xe:=E}
theorem Cx.Ok.wish{X:Cx}(ok:X.Ok)(E:Value->Shared->Prop):(X.wish E).Ok:=
 ⟨ok.mod,ok.kind,ok.glob,ok.blt,ok.above,ok.inj,ok.has,ok.cab,ok.hd,ok.frames,ok.stk,ok.exf,ok.bs,ok.bsz,ok.noex,ok.exfs,ok.funs,ok.frf⟩
theorem Cx.Ok.unwish{X:Cx}{E:Value->Shared->Prop}(ok:(X.wish E).Ok):X.Ok:=
 ⟨ok.mod,ok.kind,ok.glob,ok.blt,ok.above,ok.inj,ok.has,ok.cab,ok.hd,ok.frames,ok.stk,ok.exf,ok.bs,ok.bsz,ok.noex,ok.exfs,ok.funs,ok.frf⟩
section
variable {X:Cx}{pins:List (Addr×Obj)}{σ:St}{H:Hp}{s:Shared}{E:Value->Shared->Prop}
theorem Inv.wish(I:Inv X pins σ H s)(E:Value->Shared->Prop):Inv (X.wish E) pins σ H s:=⟨I.ok.wish E,I.os,I.bare,I.base,I.loc,I.cell,I.free,I.freeC,I.pin,I.hok,I.len⟩
theorem Inv.unwish(I:Inv (X.wish E) pins σ H s):Inv X pins σ H s:=⟨I.ok.unwish,I.os,I.bare,I.base,I.loc,I.cell,I.free,I.freeC,I.pin,I.hok,I.len⟩
theorem SP.unwish{D:Ends}{f:Flow}{s':Shared}(h:SP (X.wish E) pins D f s'):SP X pins D f s':=by
 cases f with
 |next=>obtain⟨σ',H',I,q⟩:=h;exact⟨σ',H',I.unwish,q⟩
 |brk=>obtain⟨σ',H',I,q⟩:=h;exact⟨σ',H',I.unwish,q⟩
 |cont=>obtain⟨σ',H',I,q⟩:=h;exact⟨σ',H',I.unwish,q⟩
 |ret u=>obtain⟨v,σ',H',I,r,q⟩:=h;exact⟨v,σ',H',I.unwish,r,q⟩
end
section
variable {X:Cx}{st:Stmt}{rest:List Stmt}{t u:TS}{e:Expr}{te:TE}{pos:Pos}
noncomputable def z5s:TS:=λD σ H=>D.nx σ H
noncomputable def z5Z (t u:TS):TS:=λD σ H=>t {D with nx:=u D} σ H
theorem z0r:PSs X [] z5s:=λ_ _ σ H _ I h=>wpAny_execs_nil ⟨σ,H,I,h⟩
theorem Wy(h1:PS X st t)(h2:PSs X rest u):PSs X (st::rest) (z5Z t u):=by
 intro pins s σ H D I h
 refine wpAny_execs_cons (thn (h1 pins s σ H {D with nx:=u D} I h) λf s1 q=>?_)
 cases f with
 |next=>
  obtain⟨σ',H',I',q⟩:=q
  exact h2 pins s1 σ' H' D I' q
 |ret v=>exact q
 |brk=>exact q
 |cont=>exact q
theorem UC(h1:PS X st t):PSs X [st] t:=by
 intro pins s σ H D I h
 refine wpAny_execs_cons (thn (h1 pins s σ H D I h) λf s1 q=>?_)
 cases f with
 |next=>exact wpAny_execs_nil q
 |ret v=>exact q
 |brk=>exact q
 |cont=>exact q
theorem Inv.quiet{pins:List (Addr×Obj)}{σ:St}{H:Hp}{s:Shared}(I:Inv X pins σ H s):interactive X.env=false:=by simp[interactive,I.ok.kind]
noncomputable def z5q(te:TE):TS:=λD σ H=>te σ H λ_ H1=>D.nx σ H1
theorem Ju(he:PE X e te)(hs:swapsWith e none pos.line X.env=pure false:=by rfl):PS X (.Expr e pos) (z5q te):=by
 intro pins s σ H D I h
 exact wpAny_Expr_any (thn (he pins s σ H _ I h) λv s1 ⟨x,H1,I1,r1,q1⟩=>⟨σ,H1,I1,q1⟩) I.quiet hs
noncomputable def z64 (te:TE):TS:=λD σ H=>te σ H D.rt
theorem z1Q(he:PE X e te):PS X (.Return (some e) pos) (z64 te):=by
 intro pins s σ H D I h
 exact wpAny_Return_some (thn (he pins s σ H _ I h) λv s1 ⟨x,H1,I1,r1,q1⟩=>⟨x,σ,H1,I1,r1,q1⟩)
noncomputable def z5c:TS:=λD _ H=>D.rt .non H
theorem z0H:PS X (.Return none pos) z5c:=λ_ _ σ H _ I h=>wpAny_Return_none ⟨.non,σ,H,I,rfl,h⟩
noncomputable def z5X (c:TT)(t u:TS):TS:=λD σ H=>c σ H λb H1=>if b=true then t D σ H1 else u D σ H1
theorem z5l{c:Expr}{a b:List Stmt}{tc:TT}(hc:PT X c tc)(ha:PSs X a t)(hb:PSs X b u):PS X (.If c a b pos) (z5X tc t u):=by
 intro pins s σ H D I h
 refine wpAny_If (thn (hc pins s σ H _ I h) λd s1 ⟨H1,I1,q1⟩=>?_)
 cases d with
 |true=>exact ha pins s1 σ H1 D I1 q1
 |false=>exact hb pins s1 σ H1 D I1 q1
end
noncomputable abbrev TG:=V->St->Hp->(St->Hp->Prop)->Prop
noncomputable abbrev TGs:=List V->St->Hp->(St->Hp->Prop)->Prop
noncomputable def PG (X:Cx)(target:Expr)(t:TG):Prop:=
 ∀(pins:List (Addr×Obj)) (s:Shared) (σ:St) (H:Hp) (v:V) (u:Value) (Q:St->Hp->Prop),Inv X pins σ H s->RelV v u->t v σ H Q->
  wpAny (model X.prog X.w) X.A (assign target X.env u) (λ_ s'=>∃σ' H',Inv X pins σ' H' s'/\Q σ' H') X.xe s
noncomputable def PGs (X:Cx)(ts:List Expr)(t:TGs):Prop:=
 ∀(pins:List (Addr×Obj)) (s:Shared) (σ:St) (H:Hp) (vs:List V) (us:List Value) (Q:St->Hp->Prop),Inv X pins σ H s->Vals vs us->t vs σ H Q->
  wpAny (model X.prog X.w) X.A (assignInOrder ((assignEach ts X.env).map (·.2)) us) (λ_ s'=>∃σ' H',Inv X pins σ' H' s'/\Q σ' H') X.xe s
noncomputable abbrev z3I:=V->V->V->Hp->(Hp->Prop)->Prop
noncomputable def z2b (X:Cx)(t:z3I):Prop:=
 ∀(pins:List (Addr×Obj)) (s:Shared) (σ:St) (H:Hp) (o i v:V) (ov iv u:Value) (Q:Hp->Prop),Inv X pins σ H s->RelV o ov->RelV i iv->RelV v u->t o i v H Q->
  wpAny (model X.prog X.w) X.A (setItem ov iv u) (λ_ s'=>∃H',Inv X pins σ H' s'/\Q H') X.xe s
section
variable {X:Cx}{pos:Pos}
noncomputable def JA(i:Nat):TG:=λv σ H Q=>Q (σ.set i (some v)) H
theorem JL{i:Nat}{x:Str}(hN:X.N.Nodup)(hi:X.N[i]?=some x)(hx:Loc X.env.scope x)(hf:X.fn x=true\/X.env.scope.names.lookup x=some .local:=by first|exact .inl rfl|exact .inr rfl|assumption):PG X (.Name x pos) (JA i):=by
 intro pins s σ H v u Q I r h
 exact wpAny_assign_Name (QX I hN hi hx r (λs' I'=>⟨_,H,I',h⟩) hf)
noncomputable def z5P:TGs:=λvs σ H Q=>vs=[]/\Q σ H
noncomputable def z1w(t:TG)(u:TGs):TGs:=λvs σ H Q=>∃v r,vs=v::r/\t v σ H λσ' H'=>u r σ' H' Q
theorem UR:PGs X [] z5P:=by
 intro pins s σ H vs us Q I r h
 obtain⟨e,h⟩:=h
 subst e
 cases r
 exact assignInOrder_nil ⟨σ,H,I,h⟩
theorem Xu{e:Expr}{es:List Expr}{t:TG}{u:TGs}(h1:PG X e t)(h2:PGs X es u)
  (hs:(assignEach (e::es) X.env).map (·.2)=assign e X.env::(assignEach es X.env).map (·.2):=by rfl):PGs X (e::es) (z1w t u):=by
 intro pins s σ H vs us Q I r h
 obtain⟨v,vr,e1,h⟩:=h
 subst e1
 cases r with
 |cons r rr=>
  rw[hs]
  refine assignInOrder_cons (thn (h1 pins s σ H _ _ _ I r h) λ_ s1 ⟨σ1,H1,I1,q1⟩=>?_)
  exact h2 pins s1 σ1 H1 _ _ Q I1 rr q1
noncomputable def z6e (K:PySem.W.Frag)(n:Nat)(t:TGs):TG:=λv σ H Q=>∃a xs,v=.ref a/\SqT K H a xs/\xs.length=n/\t xs σ H Q
theorem z44{es:List Expr}{k:Nat}{t:TGs}{n:Nat}(hc:X.calm=true)(h:PGs X es t)
  (hn:(assignEach es X.env).length=n:=by rfl) (hst:(assignEach es X.env).findIdx? (·.1)=none:=by rfl):PG X (.Tuple es k pos) (z6e X.K n t):=by
 intro pins s σ H v u Q I r hw
 obtain⟨a,xs,e1,hq,hl,hw⟩:=hw
 subst e1
 cases r
 obtain⟨its,rv,ht,hz⟩:=I.tuple hq
 refine assign_Tuple_tuple (I.ok.hd hc) ht (by simp[hn,←hl,rv.length]) hst λh' hx=>?_
 have I1:Inv X pins σ H {s with heap:=h'}:=I.kept (t':=s.toks) λb o e=>hx b o (Nat.ne_of_lt (Heap.lt_size e)) e
 exact h pins _ σ H xs _ Q I1 (by simpa using rv) hw
noncomputable def z61 (to ti:TE)(t:z3I):TG:=λv σ H Q=>to σ H λo H1=>ti σ H1 λi H2=>t o i v H2 λH3=>Q σ H3
theorem Xo{o i:Expr}{to ti:TE}{t:z3I}(ho:PE X o to)(hi:PE X i ti)(hs:z2b X t)
  (ha:∀v,assign (.Subscript o i pos) X.env v=(do
   let ov ←holding [v] (eval o X.env)
   let iv ←holding [v,ov] (eval i X.env)
   standAt pos
   holding [v,ov,iv] (setItem ov iv v)
   release [v,ov,iv] []):=by intro _;rfl):PG X (.Subscript o i pos) (z61 to ti t):=by
 intro pins s σ H v u Q I r h
 rw[ha]
 refine wpAny_bind (wpAny_holding (thn (ho pins s σ H _ I h) λov s1 ⟨x,H1,I1,r1,q1⟩=>?_))
 refine wpAny_bind (wpAny_holding (thn (hi pins s1 σ H1 _ I1 q1) λiv s2 ⟨y,H2,I2,r2,q2⟩=>?_))
 refine wpAny_bind (wpAny_standAt (wpAny_bind (wpAny_holding (thn (hs pins s2 σ H2 x y v ov iv u _ I2 r1 r2 r q2) λ_ s3 ⟨H3,I3,q3⟩=>?_))))
 exact wpAny_release ⟨σ,H3,I3,q3⟩
noncomputable def z4T (te:TE)(g:TG):TS:=λD σ H=>te σ H λx H1=>g x σ H1 D.nx
theorem Ve{tg e:Expr}{te:TE}{g:TG}(he:PE X e te)(hg:PG X tg g)(hs:swapsWithSole [tg] e pos.line X.env=pure false:=by rfl)(hw:swappedStores [tg] e X.env=pure none:=by rfl)
  (h1:(assignEach [tg] X.env).map (·.2)=[assign tg X.env]:=by rfl):PS X (.Assign [tg] e pos) (z4T te g):=by
 intro pins s σ H D I h
 refine wpAny_Assign_stores (thn (he pins s σ H _ I h) λv s1 ⟨x,H1,I1,r1,q1⟩=>?_) hs hw
 rw[h1]
 exact thn (hg pins s1 σ H1 x v _ I1 r1 q1) λ_ s2 q=>q
theorem z2R{i:Nat}{x:Str}{e:Expr}{te:TE}{pos':Pos}(hN:X.N.Nodup)(hi:X.N[i]?=some x)(hx:Loc X.env.scope x)(he:PE X e te)(hs:swapsWith e (some (.Name x pos')) pos.line X.env=pure false:=by rfl)(hf:X.fn x=true\/X.env.scope.names.lookup x=some .local:=by first|exact .inl rfl|exact .inr rfl|assumption) :
  PS X (.Assign [.Name x pos'] e pos) (z4T te (JA i)):=by
 intro pins s σ H D I h
 refine wpAny_Assign_Name (thn (he pins s σ H _ I h) λv s1 ⟨y,H1,I1,r1,q1⟩=>?_) hs
 exact QX I1 hN hi hx r1 (λs2 I2=>⟨_,H1,I2,q1⟩) hf
end
section
variable {X:Cx}{pos:Pos}
noncomputable def z2g(c:TT)(tb:TS):TS:=λD σ H=>∃W:Nat->St->Hp->Prop,(∃m,W m σ H)/\∀m σ H,W m σ H->
 c σ H λb H1=>if b=true then ∃N:St->Hp->Prop,(∀σ' H',N σ' H'->∃m',m'<m/\W m' σ' H')/\tb {D with nx:=N,ct:=N,bk:=D.nx} σ H1 else D.nx σ H1
theorem Y4{c:Expr}{body:List Stmt}{tc:TT}{tb:TS}(hp:PassesOwn (model X.prog X.w) X.A X.env X.xe)(hc:PT X c tc)(hb:PSs X body tb):PS X (.While c body [] pos) (z2g tc tb):=by
 intro pins s σ H D I h
 obtain⟨W,⟨m0,w0⟩,turn⟩:=h
 refine wpAny_While (codeAny_whileLoop (λn s'=>∃σ' H',Inv X pins σ' H' s'/\W n σ' H') ?_ m0 ⟨σ,H,I,w0⟩)
 rintro n s1 ⟨σ1,H1,I1,w1⟩
 refine wpAny_passesOwn hp (thn (hc pins s1 σ1 H1 _ I1 (turn n σ1 H1 w1)) λb s2 ⟨H2,I2,q2⟩=>?_)
 cases b with
 |true=>
  obtain⟨N,hN,q2⟩:=q2
  rw[if_pos rfl]
  refine wpAny_passesOwn hp (thn (hb pins s2 σ1 H2 _ I2 q2) λf s3 q3=>?_)
  cases f with
  |next=>
   obtain⟨σ3,H3,I3,n3⟩:=q3
   obtain⟨m',hm,w3⟩:=hN σ3 H3 n3
   exact⟨m',hm,σ3,H3,I3,w3⟩
  |cont=>
   obtain⟨σ3,H3,I3,n3⟩:=q3
   obtain⟨m',hm,w3⟩:=hN σ3 H3 n3
   exact⟨m',hm,σ3,H3,I3,w3⟩
  |brk=>exact q3
  |ret v=>exact q3
 |false=>
  rw[if_neg Bool.false_ne_true]
  exact wpAny_execs_nil ⟨σ1,H2,I2,q2⟩
end
structure It where
 go:Nat->Hp->Prop
 yld:Nat->Hp->V->Hp->Prop
 stop:Nat->Hp->Prop
noncomputable def QN (X:Cx)(pins:List (Addr×Obj))(H:Hp)(b:Addr):Prop:=
 H b=none/\b≠X.env.locals/\b∉X.fs/\(b∈X.ex\/X.s₀.heap.objs.size<=b)/\(∀x c,X.env.cells.lookup x=some c->c≠b)/\∀p∈X.pn++pins,p.1≠b
theorem Inv.fpOk{X:Cx}{pins:List (Addr×Obj)}{σ:St}{H H':Hp}{s:Shared}{b:Addr}(I:Inv X pins σ H s)(hb:s.heap.objs.size<=b)(hn:H' b=none):QN X pins H' b:=by
 refine⟨hn,Nat.ne_of_gt (Nat.lt_of_lt_of_le I.lt hb),I.nofs hb,.inr (Nat.le_trans I.sz hb),λx c e z=>?_,λp hp z=>?_⟩
 ·obtain⟨v,q⟩:=I.cell x c e
  exact absurd (Nat.lt_of_lt_of_le q.lt (by rw[z];exact hb)) (Nat.lt_irrefl _)
 ·exact absurd (Nat.lt_of_lt_of_le (Heap.lt_size (I.pin p hp).1) (by rw[z];exact hb)) (Nat.lt_irrefl _)
structure Turn(P:Program)(w:World)(K:PySem.W.Frag)(tg:Expr)(J:It)(fp:List Addr)(it:Addr)(tn:Nat->Heap->Prop):Prop where
 mem:it∈fp
 obj:∀i h,tn i h->∀b∈fp,∃o,h.get? b=some o/\∀v,o.data≠.cell v
 keep:∀i h h',tn i h->(∀b∈fp,∀o,h.get? b=some o->h'.get? b=some o)->tn i h'
 item:∀(X:Cx),X.prog=P->X.w=w->X.K=K->X.calm=true->∀(i:Nat) (pins:List (Addr×Obj)) (s:Shared) (σ:St) (H:Hp) (E:Value->Shared->Prop),Inv X pins σ H s->(∀b∈fp,QN X pins H b)->tn i s.heap->J.go i H->
  wpAny (model P w) X.A (pyNext (.ref it)) (λr s1=>∃u,r=some u/\
   wpAny (model P w) X.A (letOwnedTupleGo tg (.ref it) u) (λ_ s2=>∃x H',Inv X pins σ H' s2/\RelV x u/\J.yld i H x H'/\tn (i+1) s2.heap/\∀b∈fp,H' b=none) E s1) E s
 done:∀(X:Cx),X.prog=P->X.w=w->X.K=K->X.calm=true->∀(i:Nat) (pins:List (Addr×Obj)) (s:Shared) (σ:St) (H:Hp) (E:Value->Shared->Prop),Inv X pins σ H s->(∀b∈fp,QN X pins H b)->tn i s.heap->J.stop i H->
  wpAny (model P w) X.A (pyNext (.ref it)) (λr s1=>r=none/\Inv X pins σ H s1) E s
 self:∀(A:Around) (i:Nat) (s:Shared) (Q:Value->Shared->Prop) (E:Value->Shared->Prop),tn i s.heap->Q (.ref it) s->wpAny (model P w) A (pyIter (.ref it)) Q E s
noncomputable abbrev TI:=St->Hp->(It->Hp->Prop)->Prop
noncomputable def PIE (X:Cx)(pins:List (Addr×Obj))(σ:St)(tg:Expr)(R:It->Hp->Prop)(itv:Value)(s2:Shared):Prop:=
 ∃(it:Addr) (fp:List Addr) (tn:Nat->Heap->Prop) (J:It) (H':Hp),itv=.ref it/\Inv X pins σ H' s2/\Turn X.prog X.w X.K tg J fp it tn/\tn 0 s2.heap/\(∀b∈fp,QN X pins H' b)/\R J H'
noncomputable def PI (X:Cx)(tg iter:Expr)(wi:TI):Prop:=
 ∀(pins:List (Addr×Obj)) (s:Shared) (σ:St) (H:Hp) (R:It->Hp->Prop),Inv X pins σ H s->wi σ H R->
  wpAny (model X.prog X.w) X.A (eval iter X.env) (λv s1=>wpAny (model X.prog X.w) X.A (pyIter v) (PIE X pins σ tg R) X.xe s1) X.xe s
theorem Zj{M:Model}{A:Around}{E:Value->Shared->Prop}{s:Shared}{tg:Expr}{it:Addr}{u:Value}{o:Obj}{n:String}{vs:Array Value}{Q:Unit->Shared->Prop}(ho:s.heap.get? it=some o)(hc:o.cls=.type n)(hd:o.data=.fields vs)
    (hn:["enumerate", "zip", "dict_itemiterator", "dict_reverseitemiterator", "odict_iterator", "itertools.zip_longest", "itertools.pairwise"].contains n=false) (hQ:Q () s):wpAny M A (letOwnedTupleGo tg (.ref it) u) Q E s:=by
  unfold letOwnedTupleGo
  cases tg <;> first
    |exact wpAny_pure hQ
    | (cases u <;> first
        |exact wpAny_pure hQ
        | (refine wpAny_bind (wpAny_load ho ?_)
           rw[hc, hd]
           show wpAny M A (if (["enumerate", "zip", "dict_itemiterator", "dict_reverseitemiterator", "odict_iterator", "itertools.zip_longest", "itertools.pairwise"].contains n&&vs[0]? == some (rawInt _))=true then _ else _) Q E s
           rw[if_neg (by intro h;rw[hn, Bool.false_and] at h;cases h)]
           exact wpAny_pure hQ))
noncomputable def Itl (K:PySem.W.Frag)(a:Addr):It:=
 ⟨λi H=>∃xs x,SqL K H a xs/\xs[i]?=some x,λi H x H'=>H'=H/\∀xs,SqL K H a xs->xs[i]?=some x,λi H=>∃xs,SqL K H a xs/\xs.length<=i⟩
noncomputable def Itt (K:PySem.W.Frag)(a:Addr):It:=
 ⟨λi H=>∃xs x,SqT K H a xs/\xs[i]?=some x,λi H x H'=>H'=H/\∀xs,SqT K H a xs->xs[i]?=some x,λi H=>∃xs,SqT K H a xs/\xs.length<=i⟩
noncomputable def Itr(lo:Int)(n:Nat):It:=⟨λi _=>i<n,λi H x H'=>H'=H/\x=.int (lo+i),λi _=>n<=i⟩
theorem ZC{P:Program}{w:World}{K:PySem.W.Frag}{tg:Expr}(a it:Addr):Turn P w K tg (Itl K a) [it] it (λi h=>h.IsListIter it a i) where
 mem:=by simp
 obj:=λi h st b hb=>by
  have e:b=it:=by simpa using hb
  subst e
  obtain⟨o,e,c,d⟩:=st
  exact⟨o,e,λv z=>by rw[d] at z;cases z⟩
 keep:=λi h h' st k=>st.at λo e=>k it (by simp) o e
 item:=by
  intro X hP hw hK hc i pins s σ H E I hf st hg
  subst hP hw hK
  obtain⟨xs,x,hq,hx⟩:=hg
  obtain⟨its,rv,p,hz⟩:=I.list hq
  obtain⟨u,hu,ru⟩:=rv.get hx
  obtain⟨f0,f1,f2,f3,f4,f5⟩:=hf it (by simp)
  refine wpAny_pyNext_list_item st p.isList (x:=u) (by simpa using hu) λh' st' sb=>?_
  have I1:Inv X pins σ H {s with heap:=h'}:=I.turned (t':=s.toks) (λb o hb e=>(sb.2 b hb).trans e) f0 f1 f3 f4 f5
  obtain⟨o,e,c,d⟩:=id st'
  exact⟨u,rfl,Zj (s:={s with heap:=h'}) e c d (by decide) ⟨x,H,I1,ru,⟨rfl,λys hy=>by rw[I.list_inj hy hq];exact hx⟩,st',λb hb=>(hf b hb).1⟩⟩
 done:=by
  intro X hP hw hK hc i pins s σ H E I hf st hg
  subst hP hw hK
  obtain⟨xs,hq,hx⟩:=hg
  obtain⟨its,rv,p,hz⟩:=I.list hq
  obtain⟨f0,f1,f2,f3,f4,f5⟩:=hf it (by simp)
  have hl:=rv.length
  exact wpAny_pyNext_list_end (I.ok.hd hc) st p.isList (by simp;omega) λh' eb=>⟨rfl,I.turned (t':=s.toks) (λb o hb e=>eb b o hb e) f0 f1 f3 f4 f5⟩
 self:=λ_ _ _ _ _ st h=>wpAny_pyIter_listiter st h
theorem WY{P:Program}{w:World}{K:PySem.W.Frag}{tg:Expr}(a it:Addr):Turn P w K tg (Itt K a) [it] it (λi h=>h.IsTupleIter it a i) where
 mem:=by simp
 obj:=λi h st b hb=>by
  have e:b=it:=by simpa using hb
  subst e
  obtain⟨o,e,c,d⟩:=st
  exact⟨o,e,λv z=>by rw[d] at z;cases z⟩
 keep:=λi h h' st k=>st.at λo e=>k it (by simp) o e
 item:=by
  intro X hP hw hK hc i pins s σ H E I hf st hg
  subst hP hw hK
  obtain⟨xs,x,hq,hx⟩:=hg
  obtain⟨its,rv,p,hz⟩:=I.tuple hq
  obtain⟨u,hu,ru⟩:=rv.get hx
  obtain⟨f0,f1,f2,f3,f4,f5⟩:=hf it (by simp)
  refine wpAny_pyNext_tuple_item st (show s.heap.IsTuple a its.toArray from p) (x:=u) (by simpa using hu) λh' st' sb=>?_
  have I1:Inv X pins σ H {s with heap:=h'}:=I.turned (t':=s.toks) (λb o hb e=>(sb.2 b hb).trans e) f0 f1 f3 f4 f5
  obtain⟨o,e,c,d⟩:=id st'
  exact⟨u,rfl,Zj (s:={s with heap:=h'}) e c d (by decide) ⟨x,H,I1,ru,⟨rfl,λys hy=>by rw[I.tuple_inj hy hq];exact hx⟩,st',λb hb=>(hf b hb).1⟩⟩
 done:=by
  intro X hP hw hK hc i pins s σ H E I hf st hg
  subst hP hw hK
  obtain⟨xs,hq,hx⟩:=hg
  obtain⟨its,rv,p,hz⟩:=I.tuple hq
  obtain⟨f0,f1,f2,f3,f4,f5⟩:=hf it (by simp)
  have hl:=rv.length
  exact wpAny_pyNext_tuple_end (I.ok.hd hc) st (show s.heap.IsTuple a its.toArray from p) (by simp;omega) λh' eb=>⟨rfl,I.turned (t':=s.toks) (λb o hb e=>eb b o hb e) f0 f1 f3 f4 f5⟩
 self:=λ_ _ _ _ _ st h=>wpAny_pyIter_tupleiter st h
end L2
namespace L2
open PySem PySem.Spec PyProof.Rows
section
variable {X:Cx}{tg:Expr}
noncomputable def V_(ta:TA):TI:=λσ H R=>ta σ H λvs H1=>∃i j:Int,vs=[.int i,.int j]/\(-(2 ^ 62)<=i/\i<2 ^ 62 /\ -(2 ^ 62)<=j/\j<2 ^ 62)/\R (Itr i (j-i).toNat) H1
noncomputable def z6a (wi:TI)(g:TG)(tb:TS):TS:=λD σ H=>wi σ H λJ H1=>∃W:Nat->Nat->St->Hp->Prop,(∃m,W 0 m σ H1)/\∀i m σ H,W i m σ H->
 (J.stop i H/\D.nx σ H)\/(J.go i H/\∃N:St->Hp->Prop,(∀σ' H',N σ' H'->∃m',m'<m/\W (i+1) m' σ' H')/\∀x H',J.yld i H x H'->g x σ H' λσ2 H2=>tb {D with nx:=N,ct:=N,bk:=D.nx} σ2 H2)
noncomputable def yK(fp:List Addr)(h:Heap):List (Addr×Obj):=fp.filterMap λb=>(h.get? b).map λo=>(b,o)
theorem vo{fp:List Addr}{h:Heap}{b:Addr}{o:Obj}(hb:b∈fp)(e:h.get? b=some o):(b,o)∈yK fp h:=List.mem_filterMap.mpr ⟨b,hb,by rw[e];rfl⟩
theorem X0{fp:List Addr}{h:Heap}{p:Addr×Obj}(hp:p∈yK fp h):p.1∈fp/\h.get? p.1=some p.2:=by
 obtain⟨b,hb,e⟩:=List.mem_filterMap.mp hp
 cases q:h.get? b with
 |none=>rw[q] at e;cases e
 |some o=>
  rw[q] at e
  have e':(b,o)=p:=Option.some.inj e
  subst e'
  exact⟨hb,q⟩
theorem Inv.pinned{pins:List (Addr×Obj)}{σ:St}{H:Hp}{s:Shared}{fp:List Addr}(I:Inv X pins σ H s)(hf:∀b∈fp,QN X pins H b)(ho:∀b∈fp,∃o,s.heap.get? b=some o/\∀v,o.data≠.cell v):Inv X (pins++yK fp s.heap) σ H s:=
 I.pins_of λp hp=>(List.mem_append.mp hp).elim (λz=>I.pin p (List.mem_append_right _ z)) λz=>by
  obtain⟨hb,e⟩:=X0 z
  obtain⟨f0,f1,f2,_⟩:=hf p.1 hb
  obtain⟨o,e',d⟩:=ho p.1 hb
  rw[e] at e';cases e'
  exact⟨e,f0,f1,f2,d⟩
theorem Inv.unpinned{pins pl:List (Addr×Obj)}{σ:St}{H:Hp}{s:Shared}(I:Inv X (pins++pl) σ H s):Inv X pins σ H s:=I.pins_of λp hp=>I.pin p (List.mem_append_right _ (List.mem_append_left _ hp))
theorem z29{iter:Expr}{body:List Stmt}{wi:TI}{g:TG}{tb:TS}{pos:Pos}(hp:PassesOwn (model X.prog X.w) X.A X.env X.xe)(hc:X.calm=true)(hi:PI X tg iter wi)(hg:PG X tg g)(hb:PSs X body tb)
  (hs:∀x,foldedSetIterable iter X.env x=pure x:=by intro _;rfl):PS X (.For tg iter body [] pos) (z6a wi g tb):=by
 intro pins s σ H D I h
 refine wpAny_For (thn (hi pins s σ H _ I h) λv s1 h1=>thn h1 λitv s2 h2=>?_) hs
 obtain⟨it,fp,tn,J,H2,e,I2,T,st2,f2,W,⟨m0,w0⟩,turn⟩:=h2
 subst e
 have stat:∀{H':Hp},(∀b∈fp,H' b=none)->∀b∈fp,QN X pins H' b:=λhn b hb=>⟨hn b hb,(f2 b hb).2⟩
 refine codeAny_forLoop_any (λn s'=>∃i σ' H',Inv X pins σ' H' s'/\tn i s'.heap/\(∀b∈fp,H' b=none)/\W i n σ' H') ?_ m0 ⟨0,σ,H2,I2,st2,λb hb=>(f2 b hb).1,w0⟩
 rintro n s3 ⟨i,σ3,H3,I3,st3,fr3,w3⟩
 rcases turn i n σ3 H3 w3 with⟨stop,qn⟩|⟨go,N,hN,step⟩
 ·refine wpAny_passesOwn hp (thn (T.done X rfl rfl rfl hc i pins s3 σ3 H3 X.xe I3 (stat fr3) st3 stop) λr s4 ⟨hr,I4⟩=>?_)
  subst hr
  exact wpAny_execs_nil ⟨σ3,H3,I4,qn⟩
 ·refine wpAny_passesOwn hp (thn (T.item X rfl rfl rfl hc i pins s3 σ3 H3 X.xe I3 (stat fr3) st3 go) λr s4 ⟨u,hr,h4⟩=>?_)
  subst hr
  refine wpAny_passesOwn hp (thn h4 λ_ s5 ⟨x,H5,I5,r5,y5,st5,fr5⟩=>?_)
  have I5':=I5.pinned (stat fr5) (T.obj _ _ st5)
  refine wpAny_passesOwn hp (thn (hg _ s5 σ3 H5 x u _ I5' r5 (step x H5 y5)) λ_ s6 ⟨σ6,H6,I6,q6⟩=>?_)
  refine wpAny_passesOwn hp (thn (hb _ s6 σ6 H6 _ I6 q6) λf s7 q7=>?_)
  have again:∀{σ7:St} {H7:Hp},Inv X (pins++yK fp s5.heap) σ7 H7 s7->N σ7 H7->∃m,m<n/\∃i σ' H',Inv X pins σ' H' s7/\tn i s7.heap/\(∀b∈fp,H' b=none)/\W i m σ' H':=λ{σ7 H7} I7 n7=>by
   obtain⟨m',hm,w7⟩:=hN σ7 H7 n7
   refine⟨m',hm,i+1,σ7,H7,I7.unpinned,T.keep _ _ _ st5 λb hb o e=>(I7.pin (b,o) (List.mem_append_right _ (List.mem_append_right _ (vo hb e)))).1,λb hb=>?_,w7⟩
   obtain⟨o,e,d⟩:=T.obj _ _ st5 b hb
   exact (I7.pin (b,o) (List.mem_append_right _ (List.mem_append_right _ (vo hb e)))).2.1
  cases f with
  |next=>obtain⟨σ7,H7,I7,n7⟩:=q7;exact again I7 n7
  |cont=>obtain⟨σ7,H7,I7,n7⟩:=q7;exact again I7 n7
  |brk=>obtain⟨σ7,H7,I7,q7⟩:=q7;exact⟨σ7,H7,I7.unpinned,q7⟩
  |ret v=>obtain⟨x7,σ7,H7,I7,r7,q7⟩:=q7;exact⟨x7,σ7,H7,I7.unpinned,r7,q7⟩
end
end L2
namespace L2
open PySem PySem.Spec PyProof.Rows
noncomputable abbrev R2:=V->V->Hp->VK->Prop
noncomputable def OpR (X:Cx)(f:Value->Value->Sem Value)(r:R2):Prop:=
 ∀(pins:List (Addr×Obj)) (s:Shared) (σ:St) (H:Hp) (x y:V) (v u:Value) (Q:VK),Inv X pins σ H s->RelV x v->RelV y u->r x y H Q->
  wpAny (model X.prog X.w) X.A (f v u) (EP X pins σ Q) X.xe s
noncomputable def UnR (X:Cx)(f:Value->Sem Value)(r:V->Hp->VK->Prop):Prop:=
 ∀(pins:List (Addr×Obj)) (s:Shared) (σ:St) (H:Hp) (x:V) (v:Value) (Q:VK),Inv X pins σ H s->RelV x v->r x H Q->
  wpAny (model X.prog X.w) X.A (f v) (EP X pins σ Q) X.xe s
noncomputable def Xk(X:Cx)(f:Value)(r:List V->Hp->VK->Prop):Prop:=
 ∀(pins:List (Addr×Obj)) (s:Shared) (σ:St) (H:Hp) (xs:List V) (us:List Value) (Q:VK),Inv X pins σ H s->Vals xs us->r xs H Q->
  wpAny (model X.prog X.w) X.A (call f us) (EP X pins σ Q) X.xe s
noncomputable def rI (C:Int->Int->Prop)(g:Int->Int->V):R2:=λx y H Q=>∃i j,x=.int i/\y=.int j/\C i j/\Q (g i j) H
noncomputable def rI0 (g:Int->Int->V):R2:=λx y H Q=>∃i j,x=.int i/\y=.int j/\Q (g i j) H
noncomputable def rU (g:Int->V):V->Hp->VK->Prop:=λx H Q=>∃i,x=.int i/\Q (g i) H
section
variable {X:Cx}{a b c:Expr}{ta tb tc:TE}{pos:Pos}
theorem opI{f:Value->Value->Sem Value}{C:Int->Int->Prop}{g:Int->Int->Int}
  (rule:∀(i j:Int) (t u:Tok) (s:Shared) (Q:Value->Shared->Prop) (E:Value->Shared->Prop),C i j->Q (.int (g i j) s.toks) {s with toks:=s.toks+1}->wpAny (model X.prog X.w) X.A (f (.int i t) (.int j u)) Q E s) :
  OpR X f (rI C λi j=>.int (g i j)):=by
 intro pins s σ H x y v u Q I rx ry h
 obtain⟨i,j,rfl,rfl,hc,q⟩:=h
 obtain⟨t,rfl⟩:=rx
 obtain⟨t',rfl⟩:=ry
 exact rule i j t t' s _ _ hc ⟨.int (g i j),H,I.tok _,⟨_,rfl⟩,q⟩
theorem z3F{f:Value->Value->Sem Value}{g:Int->Int->Int}
  (rule:∀(i j:Int) (t u:Tok) (s:Shared) (Q:Value->Shared->Prop) (E:Value->Shared->Prop),Q (.int (g i j) s.toks) {s with toks:=s.toks+1}->wpAny (model X.prog X.w) X.A (f (.int i t) (.int j u)) Q E s) :
  OpR X f (rI0 λi j=>.int (g i j)):=by
 intro pins s σ H x y v u Q I rx ry h
 obtain⟨i,j,rfl,rfl,q⟩:=h
 obtain⟨t,rfl⟩:=rx
 obtain⟨t',rfl⟩:=ry
 exact rule i j t t' s _ _ ⟨.int (g i j),H,I.tok _,⟨_,rfl⟩,q⟩
theorem z1c{f:Value->Value->Sem Value}{g:Int->Int->Bool}
  (rule:∀(i j:Int) (t u:Tok) (s:Shared) (Q:Value->Shared->Prop) (E:Value->Shared->Prop),Q (.bool (g i j)) s->wpAny (model X.prog X.w) X.A (f (.int i t) (.int j u)) Q E s) :
  OpR X f (rI0 λi j=>.bl (g i j)):=by
 intro pins s σ H x y v u Q I rx ry h
 obtain⟨i,j,rfl,rfl,q⟩:=h
 obtain⟨t,rfl⟩:=rx
 obtain⟨t',rfl⟩:=ry
 exact rule i j t t' s _ _ ⟨.bl (g i j),H,I,rfl,q⟩
noncomputable def z6c(i j:Int):Prop:=0<=j/\j<=1000000/\i.natAbs<2 ^ 64
noncomputable def CMul(i j:Int):Prop:=(-(2 ^ 64)<i/\i<2 ^ 64)\/(-(2 ^ 64)<j/\j<2 ^ 64)
theorem CMul.ok{i j:Int}(h:CMul i j):IntMulOk i j:=by
 rcases h with⟨h1,h2⟩|⟨h1,h2⟩
 ·exact .of_left (intBits_le_64 h1 h2)
 ·exact .of_right (intBits_le_64 h1 h2)
theorem VC(k:Nat):(0:Int)<=2 ^ k:=by
 rw[two_pow_cast]
 exact Int.natCast_nonneg _
theorem z3s:OpR X (binaryOp .Add) (rI0 λi j=>.int (i+j)):=z3F λ_ _ _ _ _ _ _ q=>add_int q
theorem z43:OpR X (binaryOp .Sub) (rI0 λi j=>.int (i-j)):=z3F λ_ _ _ _ _ _ _ q=>sub_int q
theorem z4m:OpR X (binaryOp .Mult) (rI CMul λi j=>.int (i * j)):=opI λ_ _ _ _ _ _ _ hc q=>mul_int q hc.ok
theorem z3H:OpR X (binaryOp .Mod) (rI (λ_ j=>0<j) λi j=>.int (i % j)):=opI λi j _ _ _ _ _ hc q=>by
 have h1:(0:Int)<j:=hc
 exact mod_int' (by omega) (by rw[Int.fmod_eq_emod_of_nonneg i (by omega)];exact q)
theorem z3R:OpR X (binaryOp .Pow) (rI z6c λi j=>.int (i ^ j.toNat)):=opI λ_ _ _ _ _ _ _ hc q=>pow_int_small hc.1 hc.2.1 hc.2.2 q
theorem z4t:OpR X (binaryOp .RShift) (rI (λ_ j=>0<=j) λi j=>.int (i / 2 ^ j.toNat)):=opI λi j _ _ _ _ _ hc q=>
 rshift_int hc (by rw[Int.fdiv_eq_ediv_of_nonneg i (VC _)];exact q)
theorem z3Y:OpR X (binaryOp .BitAnd) (rI0 λi j=>.int (Builtin.bitAnd i j)):=z3F λ_ _ _ _ _ _ _ q=>and_int q
theorem unI{f:Value->Sem Value}{g:Int->Int}
  (rule:∀(i:Int) (t:Tok) (s:Shared) (Q:Value->Shared->Prop) (E:Value->Shared->Prop),Q (.int (g i) s.toks) {s with toks:=s.toks+1}->wpAny (model X.prog X.w) X.A (f (.int i t)) Q E s) :
  UnR X f (rU λi=>.int (g i)):=by
 intro pins s σ H x v Q I rx h
 obtain⟨i,rfl,q⟩:=h
 obtain⟨t,rfl⟩:=rx
 exact rule i t s _ _ ⟨.int (g i),H,I.tok _,⟨_,rfl⟩,q⟩
theorem z3m:UnR X (unaryOp .USub) (rU λi=>.int (-i)):=unI λ_ _ _ _ _ q=>neg_int q
end
noncomputable def z0F:V->V->Bool
 |.non,.non=>true|.non,.int _=>true|.int _,.non=>true|.non,.bl _=>true|.bl _,.non=>true|.non,.str _=>true|.str _,.non=>true
 |.int _,.int _=>true|.bl _,.bl _=>true|.str _,.str _=>true|.byt _,.byt _=>true
 |.int _,.str _=>true|.str _,.int _=>true|.bl _,.str _=>true|.str _,.bl _=>true
 |_,_=>false
noncomputable def rEq:R2:=λx y H Q=>z0F x y=true/\Q (.bl (decide (x=y))) H
noncomputable def rNe:R2:=λx y H Q=>z0F x y=true/\Q (.bl (!decide (x=y))) H
theorem JK{i j:Int}:decide (V.int i=V.int j)=(i == j):=by
 rw[Bool.eq_iff_iff]
 simp
theorem Ys{i j:Bool}:decide (V.bl i=V.bl j)=(i == j):=by
 rw[Bool.eq_iff_iff]
 simp
theorem Jg{i j:Str}:decide (V.str i=V.str j)=(i == j):=by
 rw[Bool.eq_iff_iff]
 simp
theorem Jl{i j:Array UInt8}:decide (V.byt i=V.byt j)=(i.toList == j.toList):=by
 rw[Bool.eq_iff_iff]
 cases i
 cases j
 simp
section
variable {X:Cx}{a b c:Expr}{ta tb tc:TE}{pos:Pos}
theorem zm{pins:List (Addr×Obj)}{σ:St}{H:Hp}{s:Shared}{Q:VK}{k k':Bool}(I:Inv X pins σ H s)(q:Q (.bl k) H)(e:k=k'):EP X pins σ Q (.bool k') s:=by
 subst e
 exact⟨.bl k,H,I,rfl,q⟩
theorem z53:OpR X (compareOp .Eq) rEq:=by
 intro pins s σ H x y v u Q I rx ry h
 obtain⟨hs,q⟩:=h
 cases x with
 |non=>
  cases rx
  cases y with
  |non=>cases ry;exact PySem.EqNone.eq_none_none (zm I q (by simp))
  |bl j=>cases ry;exact PySem.EqNone.eq_none_bool (zm I q (by simp))
  |int j=>obtain⟨t',rfl⟩:=ry;exact PySem.EqNone.eq_none_int (zm I q (by simp))
  |str j=>obtain⟨t',rfl⟩:=ry;exact PySem.EqNone.eq_none_str (zm I q (by simp))
  |_=>exact absurd (show false=true from hs) Bool.false_ne_true
 |bl i=>
  cases rx
  cases y with
  |non=>cases ry;exact PySem.EqNone.eq_bool_none (zm I q (by simp))
  |bl j=>cases ry;exact eq_bool (zm I q Ys)
  |str j=>obtain⟨t',rfl⟩:=ry;exact PySem.EqMixed.eq_bool_str (zm I q (by simp))
  |_=>exact absurd (show false=true from hs) Bool.false_ne_true
 |int i=>
  obtain⟨t,rfl⟩:=rx
  cases y with
  |non=>cases ry;exact PySem.EqNone.eq_int_none (zm I q (by simp))
  |int j=>obtain⟨t',rfl⟩:=ry;exact eq_int (zm I q JK)
  |str j=>obtain⟨t',rfl⟩:=ry;exact PySem.EqMixed.eq_int_str (zm I q (by simp))
  |_=>exact absurd (show false=true from hs) Bool.false_ne_true
 |str i=>
  obtain⟨t,rfl⟩:=rx
  cases y with
  |non=>cases ry;exact PySem.EqNone.eq_str_none (zm I q (by simp))
  |bl j=>cases ry;exact PySem.EqMixed.eq_str_bool (zm I q (by simp))
  |int j=>obtain⟨t',rfl⟩:=ry;exact PySem.EqMixed.eq_str_int (zm I q (by simp))
  |str j=>obtain⟨t',rfl⟩:=ry;exact eq_str (zm I q Jg)
  |_=>exact absurd (show false=true from hs) Bool.false_ne_true
 |byt i=>
  obtain⟨t,rfl⟩:=rx
  cases y with
  |byt j=>obtain⟨t',rfl⟩:=ry;exact PySem.W.eq_bytes (zm I q Jl)
  |_=>exact absurd (show false=true from hs) Bool.false_ne_true
 |_=>cases y<;>exact absurd (show false=true from hs) Bool.false_ne_true
theorem z50:OpR X (compareOp .NotEq) rNe:=by
 intro pins s σ H x y v u Q I rx ry h
 obtain⟨hs,q⟩:=h
 cases x with
 |non=>
  cases rx
  cases y with
  |non=>cases ry;exact PySem.EqNone.ne_none_none (zm I q (by simp))
  |bl j=>cases ry;exact PySem.EqNone.ne_none_bool (zm I q (by simp))
  |int j=>obtain⟨t',rfl⟩:=ry;exact PySem.EqNone.ne_none_int (zm I q (by simp))
  |str j=>obtain⟨t',rfl⟩:=ry;exact PySem.EqNone.ne_none_str (zm I q (by simp))
  |_=>exact absurd (show false=true from hs) Bool.false_ne_true
 |bl i=>
  cases rx
  cases y with
  |non=>cases ry;exact PySem.EqNone.ne_bool_none (zm I q (by simp))
  |bl j=>cases ry;exact ne_bool (zm I q (congrArg not Ys))
  |str j=>obtain⟨t',rfl⟩:=ry;exact PySem.EqMixed.ne_bool_str (zm I q (by simp))
  |_=>exact absurd (show false=true from hs) Bool.false_ne_true
 |int i=>
  obtain⟨t,rfl⟩:=rx
  cases y with
  |non=>cases ry;exact PySem.EqNone.ne_int_none (zm I q (by simp))
  |int j=>obtain⟨t',rfl⟩:=ry;exact ne_int (zm I q (congrArg not JK))
  |str j=>obtain⟨t',rfl⟩:=ry;exact PySem.EqMixed.ne_int_str (zm I q (by simp))
  |_=>exact absurd (show false=true from hs) Bool.false_ne_true
 |str i=>
  obtain⟨t,rfl⟩:=rx
  cases y with
  |non=>cases ry;exact PySem.EqNone.ne_str_none (zm I q (by simp))
  |bl j=>cases ry;exact PySem.EqMixed.ne_str_bool (zm I q (by simp))
  |int j=>obtain⟨t',rfl⟩:=ry;exact PySem.EqMixed.ne_str_int (zm I q (by simp))
  |str j=>obtain⟨t',rfl⟩:=ry;exact ne_str (zm I q (congrArg not Jg))
  |_=>exact absurd (show false=true from hs) Bool.false_ne_true
 |byt i=>
  obtain⟨t,rfl⟩:=rx
  cases y with
  |byt j=>obtain⟨t',rfl⟩:=ry;exact PySem.W.ne_bytes (zm I q (congrArg not Jl))
  |_=>exact absurd (show false=true from hs) Bool.false_ne_true
 |_=>cases y<;>exact absurd (show false=true from hs) Bool.false_ne_true
theorem z52:OpR X (compareOp .Lt) (rI0 λi j=>.bl (decide (i<j))):=z1c λ_ _ _ _ _ _ _ q=>lt_int q
theorem z55:OpR X (compareOp .LtE) (rI0 λi j=>.bl (decide (i<=j))):=z1c λ_ _ _ _ _ _ _ q=>le_int q
theorem z56:OpR X (compareOp .Gt) (rI0 λi j=>.bl (decide (j<i))):=z1c λ_ _ _ _ _ _ _ q=>gt_int q
theorem z5I:OpR X (compareOp .GtE) (rI0 λi j=>.bl (decide (j<=i))):=z1c λ_ _ _ _ _ _ _ q=>ge_int q
theorem JP:OpR X (compareOp .In) (λx y H Q=>∃i j,x=.str i/\y=.str j/\Q (.bl (!(Builtin.Str.occurrences j i 0 j.length 1).isEmpty)) H):=by
 intro pins s σ H x y v u Q I rx ry h
 obtain⟨i,j,rfl,rfl,q⟩:=h
 obtain⟨t,rfl⟩:=rx
 obtain⟨t',rfl⟩:=ry
 exact in_str (zm I q rfl)
theorem z2H:OpR X (compareOp .Is) (λx y H Q=>y=.non/\Q (.bl (decide (x=.non))) H):=by
 intro pins s σ H x y v u Q I rx ry h
 obtain⟨rfl,q⟩:=h
 cases ry
 refine is_none_gen (zm I q ?_)
 cases x<;>first
  |(cases rx;rfl)
  |(obtain⟨t,rfl⟩:=rx;rfl)
theorem UW:OpR X (compareOp .IsNot) (λx y H Q=>y=.non/\Q (.bl (!decide (x=.non))) H):=by
 intro pins s σ H x y v u Q I rx ry h
 obtain⟨rfl,q⟩:=h
 cases ry
 refine isnot_none_gen (zm I q ?_)
 cases x<;>first
  |(cases rx;rfl)
  |(obtain⟨t,rfl⟩:=rx;rfl)
theorem ZY:OpR X (compareOp .NotIn) (λx y H Q=>∃i j,x=.str i/\y=.str j/\Q (.bl (!(!(Builtin.Str.occurrences j i 0 j.length 1).isEmpty))) H):=by
 intro pins s σ H x y v u Q I rx ry h
 obtain⟨i,j,rfl,rfl,q⟩:=h
 obtain⟨t,rfl⟩:=rx
 obtain⟨t',rfl⟩:=ry
 exact notIn_str (zm I q rfl)
theorem Us(b:Expr){op:CmpOp}(h:op≠.In:=by decide)(h2:op≠.NotIn:=by decide):behindInMarks op b=false:=by
 have e1:(op == CmpOp.In)=false:=by cases op<;>first|rfl|exact absurd rfl h
 have e2:(op == CmpOp.NotIn)=false:=by cases op<;>first|rfl|exact absurd rfl h2
 cases b<;>simp[behindInMarks,e1,e2]
theorem ur:(sizeLine:Nat)<2 ^ 63:=by rw[sizeLine_eq];decide
theorem V8:OpR X (binaryOp .Add) (λx y H Q=>∃i j,x=.str i/\y=.str j/\i.length+j.length<=sizeLine/\Q (.str (i++j)) H):=by
 intro pins s σ H x y v u Q I rx ry h
 obtain⟨i,j,rfl,rfl,hz,q⟩:=h
 obtain⟨t,rfl⟩:=rx
 obtain⟨t',rfl⟩:=ry
 exact add_str (λt' tk=>⟨.str (i++j),H,I.tok _,⟨_,rfl⟩,q⟩) hz
theorem vals1{x:V}{us:List Value}(r:Vals [x] us):∃u,us=[u]/\RelV x u:=by
 cases r with
 |cons r1 r2=>cases r2;exact⟨_,rfl,r1⟩
theorem vals2{x y:V}{us:List Value}(r:Vals [x,y] us):∃u w',us=[u,w']/\RelV x u/\RelV y w':=by
 cases r with
 |cons r1 r2=>
  cases r2 with
  |cons r3 r4=>cases r4;exact⟨_,_,rfl,r1,r3⟩
end
end L2
namespace L2
open PySem PySem.Spec PyProof.Rows
structure ObjM(h:Heap)(x dx C:Addr)(mA:Str->Option Value):Prop where
 obj:h.get? x=some (PySem.W.instObj C dx)
 ns:h.Ns1 dx mA
 ne:dx≠x
theorem KO{h:Heap}{dx:Addr}{mA:Str->Option Value}(n:h.Ns1 dx mA):∃od,h.get? dx=some od/\∀name,PySem.W.lookIn name od=some (mA name):=by
 obtain⟨o,es,ep,ho,hd,hk,_,hm⟩:=n
 refine⟨o,ho,λname=>?_⟩
 have e:=hm name
 unfold nsFind findBy at e
 rw[←Array.find?_toList] at e
 unfold PySem.W.lookIn
 rw[hd]
 dsimp only
 split
 ·rename_i y q
  rw[q] at e
  exact congrArg some e
 ·rename_i q
  rw[q] at e
  have a:es.toList.any (·.refKey)=false:=by
   rw[List.any_eq_false]
   intro y hy
   obtain⟨z,t,hkey⟩:=hk y (Array.mem_toList_iff.mp hy)
   simp[DictEntry.refKey,hkey]
  have a':¬es.toList.any (·.refKey)=true:=by rw[a];exact Bool.false_ne_true
  rw[if_neg a']
  exact congrArg some e
theorem ObjM.look{h:Heap}{x dx C:Addr}{mA:Str->Option Value}(I:ObjM h x dx C mA):∃od,PySem.W.InstAt h x (PySem.W.instObj C dx) C (some od)/\∀name,PySem.W.lookIn name od=some (mA name):=
 let ⟨od,ho,hl⟩:=KO I.ns
 ⟨od,⟨I.obj,rfl,rfl,ho⟩,hl⟩
section
variable {prog:Program}{w:World}{A:Around}{E:Value->Shared->Prop}{s:Shared}{K:PySem.W.Frag}{x dx C f:Addr}{mA:Str->Option Value}{name:Str}{v:Value}
theorem get_map{expr:Bool}{Q:Value->Shared->Prop}(X:K.In s.heap)(I:ObjM s.heap x dx C mA)(hg:PySem.W.plainGet K C name=true)(hh:PySem.W.hasDictIn K C=true)
  (ha:PySem.W.findIn K (.ref C) name=some none) (hv:mA name=some v) (hv':PySem.W.handedIn v=true) (h:Q v {s with toks:=s.toks+1}) :
  wpAny (model prog w) A (getAttr (.ref x) name expr) Q E s:=by
 obtain⟨od,J,hl⟩:=I.look
 exact PySem.W.get_value X J (PySem.W.plainGet_of hg).1 (PySem.W.findObj_own hh ha rfl (by rw[hl,hv])) hv' h
theorem Y9{pl:Sem Bool}{Q:Value×List Value->Shared->Prop}(X:K.In s.heap)(I:ObjM s.heap x dx C mA)(hg:PySem.W.plainGet K C name=true)
  (hf:PySem.W.findIn K (.ref C) name=some (some (.ref f))) (ht:PySem.W.isFn K (.ref f)=true) (hv:mA name=none) (h:Q (.ref f,[.ref x]) s) :
  wpAny (model prog w) A (getMethod (.ref x) name pl) Q E s:=by
 obtain⟨od,J,hl⟩:=I.look
 exact PySem.W.method_fn X J (PySem.W.plainGet_of hg).1 (PySem.W.plainGet_of hg).2 hf (beq_iff_eq.mp ht) (by show (PySem.W.lookIn name od).map (·.isSome)=some false;rw[hl,hv];rfl) h
theorem US{ns:List Str}{Q:Unit->Shared->Prop}(X:K.In s.heap)(I:ObjM s.heap x dx C mA)
  (hs:PySem.W.findIn K (.ref C) "__setattr__"=some (some (.builtin "object.__setattr__"))) (hp:PySem.W.plainOver K C=true) (ht:PySem.W.takerIn K C name=some none) (hh:PySem.W.hasDictIn K C=true)
  (hw:PySem.Within mA ns) (hsz:ns.length<=sizeLine)
  (h:∀h',ObjM h' x dx C (λy=>if y=name then some v else mA y)->Heap.SameBut dx s.heap h'->Q () {s with heap:=h',toks:=s.toks+2}) :
  wpAny (model prog w) A (setAttr (.ref x) name v) Q E s:=by
 obtain⟨od,J,hl⟩:=I.look
 refine PySem.W.set_plain X J hs (PySem.W.osa_open (s:={s with toks:=s.toks+1}) (r:=none) X J hp ht λb=>?_)
 obtain⟨cd,hc,hd'⟩:=PySem.W.any_some hh
 have hx:s.heap.get? x=some ⟨.ref C,some dx,.plain,#[]⟩:=I.obj
 refine wpAny_bind (wpAny_pure (wpAny_bind (wpAny_bind (wpAny_loadPart hx (wpAny_bind (PySem.W.Looks.here (s:={s with toks:=s.toks+1}) (PySem.W.looks_clsIn X hc) ?_))))))
 rw[hd']
 refine wpAny_pure (a:=some dx) (wpAny_bind (wpAny_pure (wpAny_bind ?_)))
 refine wpAny_nsSet1 (s:={s with toks:=s.toks+1}) I.ns λh' hn2 hs2=>?_
 obtain⟨oD,esD,epD,hoD,hdD,hcD⟩:=hn2.count (PySem.Within.cons name v hw)
 refine wpAny_bind (wpAny_lookBehind hoD (by rw[hdD];exact pastItsLine_dict (Nat.le_trans hcD (by rw[List.length_cons];omega))) ?_)
 exact wpAny_pure (h _ ⟨(hs2.2 _ (Ne.symm I.ne)).trans I.obj,hn2,I.ne⟩ hs2)
theorem y9{R:Result->Shared->Prop}{vs:List Value}{kw:List (Str×Value)}(X:K.In s.heap)(hm:PySem.W.makesIn K C=true)
  (hi:PySem.W.findIn K (.ref C) "__init__"=some (some (.ref f))) (hf:PySem.W.typeIn K (.ref f)=some (.type "function"))
  (h:codeAny (model prog w) (A.under (.builtin "type.__call__" ⟨.ref C::vs,kw⟩)) (.call (.ref f) ⟨.ref (s.heap.objs.size+1)::vs,kw⟩) (PySem.W.InitBack (s.heap.objs.size+1) R)
   {s with heap:=(s.heap.push PySem.W.emptyDict).push (PySem.W.instObj C s.heap.objs.size)}) :
  codeAny (model prog w) A (.call (.ref C) ⟨vs,kw⟩) R s:=by
 obtain⟨hh,g,d,t,os⟩:=s
 exact PySem.W.make_core (PySem.W.makes_of X hm) (PySem.W.looks_findIn X hi) (λself=>PySem.W.bind_fn X self hf) (.inl rfl) h
end
noncomputable def wU(f:Str)(v:V):List (Str×V)->List (Str×V)
 |[]=>[(f,v)]
 |(g,x)::r=>if g=f then (g,v)::r else (g,x)::wU f v r
theorem xO(f g:Str)(v:V):∀fs:List (Str×V),(wU f v fs).lookup g=if g=f then some v else fs.lookup g
 |[]=>by
  show List.lookup g [(f,v)]=_
  by_cases h:g=f
  ·have hb:(g == f)=true:=beq_iff_eq.mpr h
   simp only[List.lookup,hb,if_pos h]
  ·have hb:(g == f)=false:=beq_eq_false_iff_ne.mpr h
   simp only[List.lookup,hb,if_neg h]
 |(k,x)::r=>by
  have ih:=xO f g v r
  rw[show wU f v ((k,x)::r)=(if k=f then (k,v)::r else (k,x)::wU f v r) from rfl]
  by_cases hk:k=f
  ·rw[if_pos hk]
   by_cases h:g=k
   ·have hb:(g == k)=true:=beq_iff_eq.mpr h
    simp only[List.lookup,hb,if_pos (h.trans hk)]
   ·have hb:(g == k)=false:=beq_eq_false_iff_ne.mpr h
    simp only[List.lookup,hb,if_neg (λe:g=f=>h (e.trans hk.symm))]
  ·rw[if_neg hk]
   by_cases h:g=k
   ·have hb:(g == k)=true:=beq_iff_eq.mpr h
    simp only[List.lookup,hb,if_neg (λe:g=f=>hk (h.symm.trans e))]
   ·have hb:(g == k)=false:=beq_eq_false_iff_ne.mpr h
    simp only[List.lookup,hb]
    exact ih
theorem xr(f:Str)(v:V):∀fs:List (Str×V),f∈(wU f v fs).map (·.1)/\∀g,g∈fs.map (·.1)->g∈(wU f v fs).map (·.1)
 |[]=>⟨by simp[wU],λg h=>by simp at h⟩
 |(k,x)::r=>by
  obtain⟨i1,i2⟩:=xr f v r
  rw[show wU f v ((k,x)::r)=(if k=f then (k,v)::r else (k,x)::wU f v r) from rfl]
  by_cases hk:k=f
  ·rw[if_pos hk]
   subst hk
   exact⟨by simp,λg h=>by simpa using h⟩
  ·rw[if_neg hk]
   refine⟨?_,λg h=>?_⟩
   ·rw[List.map_cons]
    exact List.mem_cons_of_mem _ i1
   ·rw[List.map_cons] at h ⊢
    rcases List.mem_cons.mp h with e|e
    ·exact List.mem_cons.mpr (.inl e)
    ·exact List.mem_cons_of_mem _ (i2 g e)
theorem xx(f:Str)(v:V):∀fs:List (Str×V),(wU f v fs).length<=fs.length+1
 |[]=>by simp[wU]
 |(k,x)::r=>by
  have ih:=xx f v r
  rw[show wU f v ((k,x)::r)=(if k=f then (k,v)::r else (k,x)::wU f v r) from rfl]
  by_cases hk:k=f
  ·rw[if_pos hk,List.length_cons,List.length_cons];omega
  ·rw[if_neg hk,List.length_cons,List.length_cons];omega
theorem RelO.some_of{v:V}{o:Option Value}(r:RelO (some v) o):∃u,o=some u/\RelV v u:=by
 cases o with
 |none=>exact (show False from r).elim
 |some u=>exact⟨u,rfl,r⟩
theorem RelO.none_of{o:Option Value}(r:RelO none o):o=none:=by
 cases o with
 |none=>rfl
 |some u=>exact (show False from r).elim
theorem KI{v:V}{u:Value}(r:RelV v u):PySem.W.handedIn u=true:=by
 cases v with
 |non=>cases (show u=Value.none from r);rfl
 |bl b=>cases (show u=Value.bool b from r);rfl
 |int i=>obtain⟨t,e⟩:=(show ∃t,u=Value.int i t from r);cases e;rfl
 |str x=>obtain⟨t,e⟩:=(show ∃t,u=Value.str x t from r);cases e;rfl
 |byt b=>obtain⟨t,e⟩:=(show ∃t,u=Value.bytes b t from r);cases e;rfl
 |flt b=>obtain⟨t,e⟩:=(show ∃t,u=Value.float b t from r);cases e;rfl
 |ref a=>cases (show u=Value.ref a from r);rfl
 |ty n=>cases (show u=Value.type n from r);rfl
section
variable {P:Program}{w:World}{H H':Hp}{h h':Heap}{a C dx:Addr}{fs fs':List (Str×V)}
theorem kr(hok:HOk P w H h)(e:H a=some (.ins C dx fs)):∃mA,ObjM h a dx C mA/\(∀f,RelO (fs.lookup f) (mA f))/\PySem.Within mA (fs.map (·.1))/\fs.length<=1000/\H dx=some (.own a):=by
 obtain⟨d,z,ne,ob,mA,n,r,q⟩:=(show ObjOk P w H h a (.ins C dx fs) from hok a _ e)
 exact⟨mA,⟨ob,n,ne⟩,r,q,z,d⟩
end
structure Cls(K:PySem.W.Frag)(C:Addr):Prop where
 pg:PySem.W.plainGet K C Str.empty=true
 hd:PySem.W.hasDictIn K C=true
 po:PySem.W.plainOver K C=true
 sa:PySem.W.findIn K (.ref C) "__setattr__"=some (some (.builtin "object.__setattr__"))
theorem Cls.get{K:PySem.W.Frag}{C:Addr}(c:Cls K C)(f:Str):PySem.W.plainGet K C f=true:=c.pg
noncomputable def NoAttr(K:PySem.W.Frag)(C:Addr)(f:Str):Prop:=PySem.W.findIn K (.ref C) f=some none
theorem NoAttr.taker{K:PySem.W.Frag}{C:Addr}{f:Str}(n:NoAttr K C f):PySem.W.takerIn K C f=some none:=by
 unfold PySem.W.takerIn
 rw[show PySem.W.findIn K (.ref C) f=some none from n]
 rfl
structure Meth(K:PySem.W.Frag)(C:Addr)(m:Str)(f:Addr):Prop where
 at_:PySem.W.findIn K (.ref C) m=some (some (.ref f))
 fn:PySem.W.isFn K (.ref f)=true
 kp:PySem.W.keepIn K (.ref f)=true
section
variable {X:Cx}{pins:List (Addr×Obj)}{σ:St}{H:Hp}{s:Shared}{a C dx:Addr}{fs:List (Str×V)}{f:Str}{v:V}{A:Around}{E:Value->Shared->Prop}
theorem uh{b:Bool}{Q:Value->Shared->Prop}(I:Inv X pins σ H s)(e:H a=some (.ins C dx fs))(c:Cls X.K C)(n:NoAttr X.K C f)(l:fs.lookup f=some v)
  (h:∀u s',Inv X pins σ H s'->RelV v u->Q u s'):wpAny (model X.prog X.w) A (getAttr (.ref a) f b) Q E s:=by
 obtain⟨mA,O,r,_,_,_⟩:=kr I.hok e
 obtain⟨u,hu,ru⟩:=RelO.some_of (v:=v) (o:=mA f) (by rw[←l];exact r f)
 exact get_map I.kIn O (c.get f) c.hd n hu (KI ru) (h u _ (I.tok _) ru)
theorem Vl{m:Str}{g:Addr}{pl:Sem Bool}{Q:Value×List Value->Shared->Prop}(I:Inv X pins σ H s)(e:H a=some (.ins C dx fs))(c:Cls X.K C)(k:Meth X.K C m g)(l:fs.lookup m=none)
  (h:Q (.ref g,[.ref a]) s):wpAny (model X.prog X.w) A (getMethod (.ref a) m pl) Q E s:=by
 obtain⟨mA,O,r,_,_,_⟩:=kr I.hok e
 have hn:mA m=none:=RelO.none_of (by rw[←l];exact r m)
 exact Y9 I.kIn O (c.get m) k.at_ k.fn hn h
theorem VQ{y:V}{u:Value}{Q:Unit->Shared->Prop}(I:Inv X pins σ H s)(e:H a=some (.ins C dx fs))(c:Cls X.K C)(n:NoAttr X.K C f)(hl:fs.length<1000)(ry:RelV y u)
  (h:∀s',Inv X pins σ (upd H a (.ins C dx (wU f y fs))) s'->Q () s'):wpAny (model X.prog X.w) A (setAttr (.ref a) f u) Q E s:=by
 obtain⟨mA,O,r,wi,_,ho⟩:=kr I.hok e
 have hz:(fs.map (·.1)).length<=sizeLine:=by rw[List.length_map,sizeLine_eq];omega
 refine US I.kIn O c.sa c.po n.taker c.hd wi hz λh' O' sb=>h _ ?_
 have hd:∃o,h'.get? dx=some o:=let ⟨o,_,_,e',_⟩:=O'.ns;⟨o,e'⟩
 refine I.write (x:=a) (e:=dx) (by rw[e];exact True.intro) (.inr ho) (λb q hb z=>(sb.2 b hb).trans z) hd ?_
 refine⟨by rw[z7 O.ne];exact ho,?_,O.ne,O'.obj,_,O'.ns,λg=>?_,λg hg=>?_⟩
 ·have:=xx f y fs;omega
 ·show RelO ((wU f y fs).lookup g) (if g=f then some u else mA g)
  rw[xO]
  by_cases q:g=f
  ·rw[if_pos q,if_pos q];exact ry
  ·rw[if_neg q,if_neg q];exact r g
 ·by_cases q:g=f
  ·rw[q];exact (xr f y fs).1
  ·refine (xr f y fs).2 g (wi g λz=>hg ?_)
   show (if g=f then some u else mA g)=none
   rw[if_neg q];exact z
theorem Inv.made(I:Inv X pins σ H s):Inv X pins σ (upd (upd H s.heap.objs.size (.own (s.heap.objs.size+1))) (s.heap.objs.size+1) (.ins C s.heap.objs.size []))
  {s with heap:=(s.heap.push PySem.W.emptyDict).push (PySem.W.instObj C s.heap.objs.size)}:=by
 have e1:(s.heap.push PySem.W.emptyDict).get? s.heap.objs.size=some PySem.W.emptyDict:=Heap.get?_push_size s.heap rfl
 have e2:((s.heap.push PySem.W.emptyDict).push (PySem.W.instObj C s.heap.objs.size)).get? (s.heap.objs.size+1)=some (PySem.W.instObj C s.heap.objs.size):=by
  have:=Heap.get?_push_size (s.heap.push PySem.W.emptyDict) (o:=PySem.W.instObj C s.heap.objs.size) rfl
  rwa[Heap.size_push] at this
 have e3:(s.heap.push PySem.W.emptyDict).Ns s.heap.objs.size (λ_=>none):=⟨PySem.W.emptyDict,#[],_,e1,rfl,(λe he=>absurd he (by simp)),λ_=>rfl⟩
 have I1:=I.laid (a:=s.heap.objs.size) (o:=.own (s.heap.objs.size+1)) (h':=s.heap.push PySem.W.emptyDict) (t':=s.toks) (λb u q=>Heap.get?_push_of_some _ q) (Nat.le_refl _) ⟨_,e1⟩
 refine I1.laid (a:=s.heap.objs.size+1) (o:=.ins C s.heap.objs.size []) (t':=s.toks) (λb u q=>Heap.get?_push_of_some _ q) (Nat.le_of_eq (Heap.size_push _ _)) ?_
 have ne:s.heap.objs.size≠s.heap.objs.size+1:=Nat.ne_of_lt (Nat.lt_succ_self _)
 refine⟨by rw[z7 ne,z6],Nat.zero_le _,ne,e2,λ_=>none,(Heap.Ns1.of_empty e3).at λo q=>Heap.get?_push_of_some _ q,λ_=>True.intro,λy hy=>absurd rfl hy⟩
theorem z1a{prog:Program}{w:World}{env:Env}{e:Expr}{f:Str}{pos:Pos}{s:Shared}{Q:Value->Shared->Prop}(hb:attributeBase e f env (eval e env)=eval e env)
  (h:wpAny (model prog w) A (eval e env) (λo s₁=>wpAny (model prog w) A (getAttr o f true) Q E s₁) E s):wpAny (model prog w) A (eval (.Attribute e f pos) env) Q E s:=
 Attribute_any_ h (by rw[arm_eval_Attribute,hb])
end
noncomputable def z6g (K:PySem.W.Frag)(ta:TE)(f:Str):TE:=λσ H Q=>ta σ H λx H1=>∃a C dx fs v,x=.ref a/\H1 a=some (.ins C dx fs)/\Cls K C/\NoAttr K C f/\fs.lookup f=some v/\Q v H1
noncomputable def qb (K:PySem.W.Frag)(ta tv:TE)(f:Str):TS:=λD σ H=>tv σ H λy H1=>ta σ H1 λx H2=>∃a C dx fs,x=.ref a/\H2 a=some (.ins C dx fs)/\Cls K C/\NoAttr K C f/\fs.length<1000/\
 D.nx σ (upd H2 a (.ins C dx (wU f y fs)))
section
variable {X:Cx}{o e value:Expr}{f:Str}{pos pos' tpos:Pos}{ta tv:TE}
theorem z48(he:PE X e ta)(hb:attributeBase e f X.env (eval e X.env)=eval e X.env):PE X (.Attribute e f pos) (z6g X.K ta f):=by
 intro pins s σ H Q I h
 refine z1a hb (thn (he pins s σ H _ I h) λu s1 ⟨x,H1,I1,rx,a,C,dx,fs,v,ex,ea,c,n,l,q⟩=>?_)
 subst ex
 obtain rfl:u=Value.ref a:=rx
 exact uh I1 ea c n l λu' s2 I2 ru=>⟨v,H1,I2,ru,q⟩
theorem z3q(ha:PE X o ta)(hv:PE X value tv)(hs:swapsWith value (some (.Attribute o f pos')) pos.line X.env=pure false):PS X (.Assign [.Attribute o f pos'] value pos) (qb X.K ta tv f):=by
 intro pins s σ H D I h
 refine plainObj_wpAny_Assign_Attribute (thn (hv pins s σ H _ I h) λu s1 ⟨y,H1,I1,ry,q⟩=>thn (ha pins s1 σ H1 _ I1 q) λov s2 ⟨x,H2,I2,rx,a,C,dx,fs,ex,ea,c,n,l,q2⟩=>?_) hs
 subst ex
 obtain rfl:ov=Value.ref a:=rx
 exact VQ I2 ea c n l ry λs3 I3=>⟨σ,_,I3,q2⟩
noncomputable def z2P:V->V->Hp->VK->Prop:=λx y H Q=>∃i j,x=.int i/\y=.int j/\Q (.int (i-j)) H
end
end L2
namespace L2
open PySem PySem.Spec PyProof.Rows
structure Room(k:Nat)(A:Around):Prop where
 hd:A.handled=none
 dp:A.depth+3 * k+5<recursionLimit
 un:A.units+16 * k+200<cLine
theorem Room.mono{j k:Nat}{A:Around}(r:Room k A)(h:j<=k):Room j A:=⟨r.hd,by have:=r.dp;omega,by have:=r.un;omega⟩
theorem Room.deeper{k:Nat}{A:Around}(r:Room (k+1) A)(env:Env):Room k (A.deeper env):=
 ⟨r.hd,by have:=r.dp;show A.depth+1+3 * k+5<_;omega,by have:=r.un;show A.units+3+16 * k+200<_;omega⟩
theorem VJ{A:Around}{C:Addr}{us:List Value}{kw:List (Str×Value)}:(A.under (.builtin "type.__call__" ⟨.ref C::us,kw⟩)).depth=A.depth+1:=by
 first|rfl|simp[Around.under,Code.weight,Code.isCreation,Code.isGuard,Code.isCaller,Code.frames,Code.isFrame,guardIds]
theorem Vq{A:Around}{C:Addr}{us:List Value}{kw:List (Str×Value)}:(A.under (.builtin "type.__call__" ⟨.ref C::us,kw⟩)).units=A.units+1:=by
 first|rfl|simp[Around.under,Code.cUnits,Code.frames,Code.isFrame]
theorem Room.make{k:Nat}{A:Around}(r:Room (k+1) A)(C:Addr)(us:List Value)(kw:List (Str×Value)):Room k (A.under (.builtin "type.__call__" ⟨.ref C::us,kw⟩)):=
 ⟨r.hd,by have:=r.dp;rw[VJ];omega,by have:=r.un;rw[Vq];omega⟩
theorem Room.depth{k:Nat}{A:Around}(r:Room k A):A.depth<recursionLimit:=by have:=r.dp;omega
noncomputable def z6b:TA:=λ_ H Q=>Q [] H
noncomputable def z4Q(ta:TE)(tr:TA):TA:=λσ H Q=>ta σ H λx H1=>tr σ H1 λxs H2=>Q (x::xs) H2
section
variable {X:Cx}{e:Expr}{es:List Expr}{te:TE}{t:TA}{pos:Pos}
theorem qi:PA X [] z6b:=λ_ _ _ _ H Q I h=>Calls.spliced_nil ⟨[],H,I,.nil,h⟩
theorem zr(ha:PE X e te)(hr:PA X es t)(hs:starEach (e::es) X.env=(false,eval e X.env)::starEach es X.env:=by rfl):PA X (e::es) (z4Q te t):=by
 intro pos pins s σ H Q I h
 rw[hs]
 show wpAny _ _ (spliced ((false,eval e X.env)::backTo pos (starEach es X.env))) _ _ s
 refine Calls.spliced_cons (thn (ha pins s σ H _ I h) λu s1 ⟨x,H1,I1,r1,q1⟩=>?_)
 exact thn (hr pos pins s1 σ H1 _ I1 q1) λus s2 ⟨xs,H2,I2,r2,q2⟩=>⟨x::xs,H2,I2,.cons r1 r2,q2⟩
noncomputable def z5_ (t:TA):TE:=λσ H Q=>t σ H λxs H1=>xs.length<=sizeLine/\∀p,H1 p=none->Q (.ref p) (upd H1 p (.tup xs))
noncomputable def z5W (t:TA):TE:=λσ H Q=>t σ H λxs H1=>xs.length<=sizeLine/\∀p,H1 p=none->Q (.ref p) (upd H1 p (.lst xs))
theorem XI{x1}(h:PA X es t):PE X (.Tuple es x1 pos) (z5_ t):=by
 intro pins s σ H Q I hq
 refine wpAny_Tuple_spliced (thn (h pos pins s σ H _ I hq) λus s1 ⟨xs,H1,I1,r,z,q⟩=>⟨by rw[←r.length];exact z,?_⟩)
 have hf:H1 s1.heap.objs.size=none:=I1.hok.fresh (Nat.le_refl _)
 refine⟨.ref s1.heap.objs.size,upd H1 s1.heap.objs.size (.tup xs),I1.laid (t':=s1.toks) (λb u e=>Heap.get?_push_of_some _ e) (Nat.le_refl _) ?_,rfl,q _ hf⟩
 exact⟨z,us,r,⟨_,Heap.get?_push_size _ rfl,rfl,_,rfl⟩⟩
theorem X7(h:PA X es t):PE X (.List es pos) (z5W t):=by
 intro pins s σ H Q I hq
 refine wpAny_List_spliced (thn (h pos pins s σ H _ I hq) λus s1 ⟨xs,H1,I1,r,z,q⟩=>⟨by rw[←r.length];exact z,?_⟩)
 have hf:H1 s1.heap.objs.size=none:=I1.hok.fresh (Nat.le_refl _)
 refine⟨.ref s1.heap.objs.size,upd H1 s1.heap.objs.size (.lst xs),I1.laid (t':=s1.toks) (λb u e=>Heap.get?_push_of_some _ e) (Nat.le_refl _) ?_,rfl,q _ hf⟩
 exact⟨z,us,0,r,Heap.get?_push_size _ rfl⟩
end
noncomputable abbrev Sp:=List V->Hp->VK->XK->Prop
noncomputable abbrev CXT:=List Env->Hp->Shared->XK->Value->Shared->Prop
structure Env0(P:Program)(w:World)(K:PySem.W.Frag)(mg:Str->Option Value)(base:Heap)(A:Around)(outer:List Env)(s:Shared)(H:Hp):Prop where
 frames:A.frames=some outer
 mod:Mod K mg base
 bs:∀b o,base.get? b=some o->s.heap.get? b=some o/\H b=none
 bsz:base.objs.size<=s.heap.objs.size
 funs:s.heap.FunFrames base outer
 frf:∀b∈frs outer,H b=none
 hok:HOk P w H s.heap
 bare:AllBare s.gens
noncomputable def CE (outer:List Env)(P:Program)(w:World)(H:Hp)(s:Shared)(Q:VK)(u:Value)(s':Shared):Prop:=
 ∃v H',s'.os=s.os/\AllBare s'.gens/\Un (frs outer) [] H H' s.heap s'.heap/\HOk P w H' s'.heap/\RelV v u/\Q v H'
noncomputable def CR (CX:CXT)(outer:List Env)(P:Program)(w:World)(H:Hp)(s:Shared)(Q:VK)(E:XK)(r:Result)(s':Shared):Prop:=
 match r with
 |.ok (.ret u)=>CE outer P w H s Q u s'
 |.ok _=>False
 |.error e=>CX outer H s E e s'
structure FnOk(P:Program)(w:World)(K:PySem.W.Frag)(mg:Str->Option Value)(base:Heap)(CX:CXT)(k:Nat)(f:Addr)(fd:FuncData)(ps:List Str)(sp:Sp):Prop where
 len:∀vs H Q E,sp vs H Q E->vs.length=ps.length
 run:∀(A:Around) (outer:List Env) (s:Shared) (H:Hp) (args:Args) (us:List Value) (vs:List V) (Q:VK) (E:XK),Room k A->Env0 P w K mg base A outer s H->BindsTo s fd args (ps.zip us)->Vals vs us->sp vs H Q E->
  codeAny (model P w) A (.call (.ref f) args) (CR CX outer P w H s Q E) s
theorem FnOk.imp{P:Program}{w:World}{K:PySem.W.Frag}{mg:Str->Option Value}{base:Heap}{CX:CXT}{k:Nat}{f:Addr}{fd:FuncData}{ps:List Str}{sp sp':Sp}(F:FnOk P w K mg base CX k f fd ps sp)
  (h:∀vs H Q E,sp' vs H Q E->sp vs H Q E):FnOk P w K mg base CX k f fd ps sp':=
 ⟨λvs H Q E q=>F.len vs H Q E (h _ _ _ _ q),λA outer s H args us vs Q E hr he hb hv hs=>F.run A outer s H args us vs Q E hr he hb hv (h _ _ _ _ hs)⟩
theorem Env0.make{P:Program}{w:World}{K:PySem.W.Frag}{mg:Str->Option Value}{base:Heap}{A:Around}{outer:List Env}{s:Shared}{H:Hp}(e:Env0 P w K mg base A outer s H)(C:Addr)(us:List Value)(kw:List (Str×Value)) :
  Env0 P w K mg base (A.under (.builtin "type.__call__" ⟨.ref C::us,kw⟩)) outer s H:=⟨by first|exact e.frames|(simpa[Around.under,Code.envs,Code.isFrame,pushEnvs] using e.frames),e.mod,e.bs,e.bsz,e.funs,e.frf,e.hok,e.bare⟩
theorem Env0.in1{P:Program}{w:World}{K:PySem.W.Frag}{mg:Str->Option Value}{base:Heap}{A:Around}{outer:List Env}{s:Shared}{H:Hp}(e:Env0 P w K mg base A outer s H) :
  Env0 P w K mg base A.in1 outer s H:=⟨e.frames,e.mod,e.bs,e.bsz,e.funs,e.frf,e.hok,e.bare⟩
section
variable {X:Cx}{pins:List (Addr×Obj)}{σ:St}{H:Hp}{s s':Shared}
theorem Inv.env0(I:Inv X pins σ H s):Env0 X.prog X.w X.K X.mg X.base X.A X.stack s H:=
 ⟨I.ok.frames,I.ok.mod,I.bs,Nat.le_trans I.ok.bsz I.sz,I.stack,I.stkFree,I.hok,I.bare⟩
theorem Inv.after{Q:VK}{u:Value}(I:Inv X pins σ H s)(h:CE X.stack X.prog X.w H s Q u s'):EP X pins σ Q u s':=by
 obtain⟨v,H',os,bare,un,hok,r,q⟩:=h
 obtain⟨hh,g,d,t,os'⟩:=s'
 obtain rfl:os'=s.os:=os
 exact⟨v,H',I.call (h':=hh) (g':=g) (d':=d) (t':=t) (ch:=[]) un hok bare (λb z=>absurd z (by simp)),r,q⟩
end
noncomputable def Binds(K:PySem.W.Frag)(fd:FuncData)(ps:List Str)(ds:List Value):Prop:=
 ∀(s:Shared) (us:List Value),K.In s.heap->(us++ds).length=ps.length->BindsTo s fd ⟨us,[]⟩ (ps.zip (us++ds))
theorem Binds.all{K:PySem.W.Frag}{fd:FuncData}{ps:List Str}(h:∀us:List Value,us.length=ps.length->bindArgs fd ⟨us,[]⟩=pure (ps.zip us)):Binds K fd ps []:=λs us _ hl=>by
 rw[List.append_nil] at hl ⊢
 exact .of_eq (h us hl)
section
variable {X:Cx}{CX:CXT}{k:Nat}{f C:Addr}{fd:FuncData}{ps:List Str}{sp:Sp}{dvs:List V}{ds:List Value}{E:XK}{x m:Str}{p pos apos:Pos}{e o:Expr}{es:List Expr}{ta:TE}{t:TA}
structure Mk(K:PySem.W.Frag)(C f:Addr):Prop where
 makes:PySem.W.makesIn K C=true
 init:PySem.W.findIn K (.ref C) "__init__"=some (some (.ref f))
 fn:PySem.W.isFn K (.ref f)=true
 kp:PySem.W.keepIn K (.ref C)=true
end
structure FnScope(N P:List Str)(sc:Scope):Prop where
 kind:sc.kind=.function
 co:sc.isCoroutine=false
 gen:sc.isGenerator=false
 nd:N.Nodup
 pre:N.take P.length=P
 par:∀x∈P,sc.names.lookup x=some .local\/sc.names.lookup x=some .cell
 nofree:∀y∈sc.names,y.2≠.free
theorem Zu{kindOf:Str->Option NameKind}{x:Str}:∀{binds:List (Str×Value)} {m:Str->Option Value},(∀v,(x,v)∉binds)->bindL kindOf binds m x=m x
 |[],_,_=>rfl
 |(n,v)::r,m,h=>by
  unfold bindL
  rw[Zu λw hw=>h w (List.mem_cons_of_mem _ hw)]
  split
  ·have:x≠n:=by rintro rfl;exact h v List.mem_cons_self
   simp[this]
  ·rfl
theorem Za{kindOf:Str->Option NameKind}{x:Str}:∀{binds:List (Str×Value)} {m:Str->Option Value},(∀v,(x,v)∉binds)->bindC kindOf binds m x=m x
 |[],_,_=>rfl
 |(n,v)::r,m,h=>by
  unfold bindC
  rw[Za λw hw=>h w (List.mem_cons_of_mem _ hw)]
  split
  ·rfl
  ·have:x≠n:=by rintro rfl;exact h v List.mem_cons_self
   simp[this]
theorem ZE{kindOf:Str->Option NameKind}{x:Str}{v:Value}:∀{P:List Str} {vs:List Value} {i:Nat} {m:Str->Option Value},P.Nodup->P[i]?=some x->vs[i]?=some v->kindOf x=some .local->
  bindL kindOf (P.zip vs) m x=some v
 |[],_,_,_,_,h,_,_=>by simp at h
 |_::_,[],_,_,_,_,h,_=>by simp at h
 |p::P,w::vs,0,m,nd,h1,h2,hk=>by
  simp at h1 h2;subst h1;subst h2
  show bindL kindOf ((p,w)::P.zip vs) m p=_
  unfold bindL
  rw[Zu λv hv=>(List.nodup_cons.mp nd).1 (List.of_mem_zip hv).1,if_pos hk]
  simp
 |p::P,w::vs,i+1,m,nd,h1,h2,hk=>by
  show bindL kindOf ((p,w)::P.zip vs) m x=_
  unfold bindL
  exact ZE (i:=i) (List.nodup_cons.mp nd).2 (by simpa using h1) (by simpa using h2) hk
theorem Zo{kindOf:Str->Option NameKind}{x:Str}{v:Value}:∀{P:List Str} {vs:List Value} {i:Nat} {m:Str->Option Value},P.Nodup->P[i]?=some x->vs[i]?=some v->kindOf x≠some .local->
  bindC kindOf (P.zip vs) m x=some v
 |[],_,_,_,_,h,_,_=>by simp at h
 |_::_,[],_,_,_,_,h,_=>by simp at h
 |p::P,w::vs,0,m,nd,h1,h2,hk=>by
  simp at h1 h2;subst h1;subst h2
  show bindC kindOf ((p,w)::P.zip vs) m p=_
  unfold bindC
  rw[Za λv hv=>(List.nodup_cons.mp nd).1 (List.of_mem_zip hv).1,if_neg hk]
  simp
 |p::P,w::vs,i+1,m,nd,h1,h2,hk=>by
  show bindC kindOf ((p,w)::P.zip vs) m x=_
  unfold bindC
  exact Zo (i:=i) (List.nodup_cons.mp nd).2 (by simpa using h1) (by simpa using h2) hk
noncomputable def start(N:List Str)(vs:List V):St:=vs.map some++List.replicate (N.length-vs.length) none
noncomputable def WQ (CX:CXT)(P:Program)(w:World)(K:PySem.W.Frag)(mg:Str->Option Value)(base:Heap)(N:List Str)(qual:Str)(scope:Scope)(f:Addr)(cd:Value)(A:Around)(outer:List Env)(s:Shared)(H:Hp)(E:XK):Cx where
 prog:=P
 w:=w
 K:=K
 mg:=mg
 base:=base
 A:=A.deeper (envOfC qual scope s.heap.objs.size f cd)
 N:=N
 s₀:=s
 H₀:=H
 env:=envOfC qual scope s.heap.objs.size f cd
 outer:=outer
 stack:=envOfC qual scope s.heap.objs.size f cd::outer
 ex:=[]
 calm:=true
 fn:=λ_=>true
 pn:=[]
 xe:=λe s'=>wpAny (model P w) (A.deeper (envOfC qual scope s.heap.objs.size f cd)) (leaving (envOfC qual scope s.heap.objs.size f cd) e) (λ_ s''=>CX outer H s E e s'') (λe' s''=>CX outer H s E e' s'') s'
theorem Wu{sc:Scope}{n:Nat}{x:Str}(h:sc.names.lookup x=some .cell):∃c,(cellsFrom n sc.names []).lookup x=some c:=by
 have q:=PySem.W.cellsFrom_some sc.names n [] (.inl h)
 exact Option.isSome_iff_exists.mp q
theorem k_{CX:CXT}{P:Program}{w:World}{K:PySem.W.Frag}{mg:Str->Option Value}{base:Heap}{N ps:List Str}{qual:Str}{scope:Scope}{f:Addr}{cd:Value}{A:Around}{outer:List Env}{s s1:Shared}{H:Hp}{E:XK}{us:List Value}{vs:List V}
  (S:FnScope N ps scope) (hd:A.handled=none) (e0:Env0 P w K mg base A outer s H) (hl:vs.length=ps.length) (r:Vals vs us)
  (x:InCallC s s.heap.objs.size (bindL (envOfC qual scope s.heap.objs.size f cd).kindOf (ps.zip us) λ_=>none) (cellsFrom (s.heap.objs.size+1) scope.names []) (bindC (envOfC qual scope s.heap.objs.size f cd).kindOf (ps.zip us) λ_=>none) s1) :
  Inv (WQ CX P w K mg base N qual scope f cd A outer s H E) [] (start N vs) H s1:=by
 have hpl:ps.length<=N.length:=by have:=congrArg List.length S.pre;rw[List.length_take] at this;omega
 obtain⟨h1,tk,rfl,hk⟩:=x.done
 have noA:∀b:Addr,b∉(WQ CX P w K mg base N qual scope f cd A outer s H E).ex:=λb z=>absurd (show b∈([]:List Addr) from z) (by simp)
 refine⟨⟨e0.mod,S.kind,rfl,rfl,Nat.le_refl _,λy z c h1 h2=>?_,λy hy=>?_,λy c _ h=>?_,λ_=>hd,Around.frames_deeper e0.frames,.inr ⟨rfl,rfl⟩,λb z=>absurd z (noA b),e0.bs,e0.bsz,λb _ _=>noA b,λb z=>absurd z (noA b),e0.funs,e0.frf⟩,
  rfl,e0.bare,Un.kept hk,⟨_,x.toInCall.ns,λi y v h1 h2 h3=>?_⟩,λy c h=>⟨_,x.cell y c h⟩,e0.hok.fresh (Nat.le_refl _),λy c h=>?_,λp hp=>absurd (show p∈([]:List (Addr×Obj)) from hp) (by simp),e0.hok.kept hk,?_⟩
 ·exact name_of_addr x.apart (PySem.mem_of_lookup h1) (PySem.mem_of_lookup h2)
 ·have hy:scope.names.lookup y=some .cell\/scope.names.lookup y=some .free:=hy
  rcases hy with hy|hy
  ·exact Wu hy
  ·exact absurd rfl (S.nofree _ (PySem.mem_of_lookup hy))
 ·exact Nat.le_of_lt (x.above y c (PySem.mem_of_lookup h))
 ·have hi:i<vs.length:=by
   unfold start at h2
   by_cases hi:i<vs.length
   ·exact hi
   ·rw[List.getElem?_append_right (by simpa using hi)] at h2
    rw[List.getElem?_replicate] at h2
    split at h2<;>cases h2
  have ha:vs[i]?=some v:=by
   unfold start at h2
   rw[List.getElem?_append_left (by simpa using hi),List.getElem?_map] at h2
   cases e:vs[i]? with
   |none=>rw[e] at h2;cases h2
   |some a=>rw[e] at h2;cases h2;rfl
  obtain⟨u,hu,rv⟩:=r.get ha
  have hp:ps[i]?=some y:=by
   rw[←S.pre,List.getElem?_take_of_lt (by omega)];exact h1
  have ndP:ps.Nodup:=by rw[←S.pre];exact S.nd.sublist (List.take_sublist _ _)
  refine⟨u,rv,?_⟩
  rcases S.par y (List.mem_of_getElem? hp) with k|k
  ·exact .inl ⟨k,ZE ndP hp hu k⟩
  ·obtain⟨c,e⟩:=Wu (n:=s.heap.objs.size+1) k
   refine .inr ⟨.inl k,c,e,?_⟩
   have q:=x.cell y c e
   rw[Zo ndP hp hu (by show scope.names.lookup y≠_;rw[k];decide)] at q
   exact q
 ·exact e0.hok.fresh (Nat.le_of_lt (x.above y c (PySem.mem_of_lookup h)))
 ·unfold start
  show _=N.length
  rw[List.length_append,List.length_map,List.length_replicate]
  omega
theorem z1H{CX:CXT}{P:Program}{w:World}{K:PySem.W.Frag}{mg:Str->Option Value}{base:Heap}{k:Nat}{f:Addr}{name qual:Str}{params:Arguments}{body:List Stmt}{scope:Scope}{dV kV doc pm cdv ct oc:Value}{an od:Option Addr}
  {osl:Array (Option Value)} {N ps:List Str} {sp:Sp} (lk:K.lookup f=some ⟨oc,od,.func (PySem.W.fnOf name qual params body scope dV kV doc pm an cdv ct),osl⟩) (hcd:PySem.W.codeIn K cdv qual=true) (S:FnScope N ps scope)
  (len:∀vs H Q E,sp vs H Q E->vs.length=ps.length)
  (hbody:∀(A:Around) (outer:List Env) (s:Shared) (H:Hp) (vs:List V) (Q:VK) (E:XK),Room k (A.deeper (envOfC qual scope s.heap.objs.size f cdv))->sp vs H Q E->
   ∃t,PSs (WQ CX P w K mg base N qual scope f cdv A outer s H E) body t/\t {nx:=λ_ H'=>Q .non H',rt:=Q} (start N vs) H) :
  FnOk P w K mg base CX (k+1) f (PySem.W.fnOf name qual params body scope dV kV doc pm an cdv ct) ps sp:=by
 refine⟨len,λA outer s H args us vs Q E hr e0 hb r hsp=>?_⟩
 have hl:=len _ _ _ _ hsp
 have KX:K.In s.heap:=e0.mod.kin.keeps λb o e=>(e0.bs b o e).1
 have lim:s.heap.NoLimit:=e0.mod.nolimit.keeps λb o e=>(e0.bs b o e).1
 have hkind:∀y∈ps.zip us,scope.names.lookup y.1=some .local\/(scope.names.lookup y.1=some .cell/\((cellsFrom (s.heap.objs.size+1) scope.names []).lookup y.1).isSome=true):=λ⟨n,v⟩ hy=>by
  rcases S.par n (List.of_mem_zip hy).1 with q|q
  ·exact .inl q
  ·exact .inr ⟨q,PySem.W.cellsFrom_some _ _ _ (.inl q)⟩
 refine codeAny_call_function hr.depth (KX _ _ lk) rfl S.co S.gen rfl (PySem.W.codeRec_of KX hcd) (hb _ _ _ _ ?_)
 refine wpAny_newFunctionEnv_cells S.kind hkind λenv he s1 x=>?_
 subst he
 refine⟨lim.keeps x.toInCall.keep,codeAny_func ?_⟩
 obtain⟨t,ht,hq⟩:=hbody A outer s H vs Q E (hr.deeper _) hsp
 have I:Inv (WQ CX P w K mg base N qual scope f cdv A outer s H E) [] (start N vs) H s1:=k_ S hr.hd e0 hl r x
 refine wpAny_mono (ht [] s1 (start N vs) H _ I hq) (λfl s' hs=>?_) λe s' hs=>hs
 have fin:∀{σ':St} {H':Hp} {v:V} {u:Value},Inv (WQ CX P w K mg base N qual scope f cdv A outer s H E) [] σ' H' s'->RelV v u->Q v H'->CE outer P w H s Q u s':=
  λ{σ' H' v u} J rv q=>⟨v,H',J.os,J.bare,J.base,J.hok,rv,q⟩
 cases fl with
 |ret u=>
  obtain⟨v,σ',H',J,rv,q⟩:=hs
  exact fin J rv q
 |next=>
  obtain⟨σ',H',J,q⟩:=hs
  exact fin (v:=V.non) (u:=Value.none) J rfl q
 |brk=>
  obtain⟨_,_,_,q⟩:=hs
  exact False.elim q
 |cont=>
  obtain⟨_,_,_,q⟩:=hs
  exact False.elim q
end L2
namespace HT
open PySem PyProof.Rows
noncomputable def lexLt:List Int->List Int->Bool
 |[],[]=>false
 |[],_::_=>true
 |_::_,[]=>false
 |x::xs,y::ys=>if x=y then lexLt xs ys else decide (x<y)
theorem lexLt_cons(x y:Int)(xs ys:List Int):lexLt (x::xs) (y::ys)=if x=y then lexLt xs ys else decide (x<y):=rfl
theorem lexLt_nil_nil:lexLt [] []=false:=rfl
theorem yf(y:Int)(ys:List Int):lexLt [] (y::ys)=true:=rfl
theorem yO(x:Int)(xs:List Int):lexLt (x::xs) []=false:=rfl
theorem eqAt_int(A:Around)(s:Shared)(a:Int)(t:Tok)(c:Int)(u:Tok):∃e,SeqAt.EqAt A s (.int a t) (.int c u) e/\(e=true↔a=c):=
 ⟨(a == c),SeqAt.EqAt.int_int a t c u,by simp⟩
theorem Y_(A:Around)(s:Shared)(a:Int)(t:Tok)(c:Int)(u:Tok)(prog:Program)(w:World)(E:Value->Shared->Prop)(Q:Value->Shared->Prop)(h:Q (.bool (decide (a<c))) s) :
  wpAny (model prog w) A (richCompare .Lt (.int a t) (.int c u)) Q E s:=
 (PyProof.Rows.lt_int h:wpAny (model prog w) A (compareOp .Lt (.int a t) (.int c u)) Q E s)
section
open PySem.SeqAt
open PySem.AutoSeq1 (wpAny_loadPart')
open PySem.MeetsSeq PySem.MeetsSeq2 PySem.MeetsSeq3
theorem uN (l b : Addr) (items items2 : Array Value) (n n2 : Nat) (dd dd2 : Option Addr) (sl sl2 : Array (Option Value)) (ns ms : List Int) (hi : IntsAre items.toList ns) (hj : IntsAre items2.toList ms) :
    Meets (Builtin.«tuple.__lt__» ⟨[.ref l,.ref b],[]⟩)
      (fun _ R s => s.heap.get? l = some { cls := .type "tuple",dict := dd,data := .seq items n,slots := sl } /\ s.heap.get? b = some { cls := .type "tuple",dict := dd2,data := .seq items2 n2,slots := sl2 } /\
        R (.ok (.ret (.bool (lexLt ns ms)))) s) :=
  .of_wp fun prog w A R s h => by
    obtain ⟨hp,g,d,tk,os⟩ := s; obtain ⟨hl,hb,h⟩ := h
    have f2 := AutoSeq1.sub_tuple_tuple
    have z1 : items.size = ns.length := by rw [← hi.length]; simp
    have z2 : items2.size = ms.length := by rw [← hj.length]; simp
    wp_walk using wpAny_loadPart' hl,wpAny_loadPart' hb,wpAny_forIn_list _ (fun rest b s' => b.1 = none /\ s' = ⟨hp,g,d,tk,os⟩ /\ ∃ (vs ws : List Value) (ns' ms' : List Int),rest = vs.zip ws /\
      IntsAre vs ns' /\ IntsAre ws ms' /\ ns'.length + items2.size = ms'.length + items.size /\ R (.ok (.ret (.bool (lexLt ns' ms')))) ⟨hp,g,d,tk,os⟩) _
    case turn =>
      rintro ⟨y,x⟩ rest b s' ⟨hb',rfl,vs,ws,ns',ms',hz,hvi,hwi,hlen,hR⟩
      cases hvi with
      | nil => rw [List.zip_nil_left] at hz; cases hz
      | cons a t hvi' =>
        cases hwi with
        | nil => rw [List.zip_nil_right] at hz; cases hz
        | cons c u hwi' =>
          rw [List.zip_cons_cons] at hz
          injection hz with hyx hrest
          injection hyx with hy hx
          subst hy hx
          rw [lexLt_cons] at hR
          simp only [List.length_cons] at hlen
          obtain ⟨e,he,hiff⟩ := eqAt_int A.in1 ⟨hp,g,d,tk,os⟩ a t c u
          refine wpAny_bind (he prog w _ _ ?_)
          cases e with
          | true =>
            rw [if_pos (hiff.mp rfl)] at hR
            wp_walk
            exact ⟨rfl,rfl,_,_,_,_,hrest,hvi',hwi',by omega,hR⟩
          | false =>
            rw [if_neg (fun q => absurd (hiff.mpr q) Bool.false_ne_true)] at hR
            have hri := Y_ A.in1 ⟨hp,g,d,tk,os⟩ a t c u prog w
            wp_walk using hri
            exact ⟨_,rfl,by simpa using hR⟩
    case fin =>
      rintro ⟨b1,b2⟩ s' ⟨hb',rfl,vs,ws,ns',ms',hz,hvi,hwi,hlen,hR⟩
      simp only at hb'
      subst hb'
      have hv : lexLt ns' ms' = decide (items.size < items2.size) := by
        cases hvi with
        | nil =>
          cases hwi with
          | nil =>
            simp only [List.length_nil] at hlen
            rw [lexLt_nil_nil]
            exact (decide_eq_false (by omega)).symm
          | cons c u hw =>
            simp only [List.length_nil,List.length_cons] at hlen
            rw [yf]
            exact (decide_eq_true (by omega)).symm
        | cons a t hv =>
          cases hwi with
          | nil =>
            simp only [List.length_nil,List.length_cons] at hlen
            rw [yO]
            exact (decide_eq_false (by omega)).symm
          | cons c u hw =>
            rw [List.zip_cons_cons] at hz
            cases hz
      rw [hv] at hR
      wp_walk
      exact ⟨_,rfl,by simpa [Builtin.Tuple.tupleCompareSizes] using hR⟩
    case h =>
      exact ⟨rfl,rfl,items.toList,items2.toList,ns,ms,rfl,hi,hj,by omega,h⟩
end
section
variable {prog:Program}{w:World}{A:Around}{E:Value->Shared->Prop}{s:Shared}
theorem lt_tupInts{l b:Addr}{items items2:Array Value}{ns ms:List Int}{Q:Value->Shared->Prop}(hl:IsTup s.heap l items)(hb:IsTup s.heap b items2)(hi:IntsAre items.toList ns)(hj:IntsAre items2.toList ms)
  (hu:A.units<cLine) (h:Q (.bool (lexLt ns ms)) s):wpAny (model prog w) A (compareOp .Lt (.ref l) (.ref b)) Q E s:=by
 obtain⟨⟨cls,dd,data,sl⟩,ho,hc,n,hd⟩:=id hl
 obtain⟨⟨cls2,dd2,data2,sl2⟩,ho2,hc2,n2,hd2⟩:=id hb
 simp only at hc hd hc2 hd2
 subst hc hd hc2 hd2
 exact richCompare_meets_room (op:=.Lt) ⟨_,ho,rfl⟩ ⟨_,ho2,rfl⟩ PySem.F.slot_tuple_lt PySem.F.entry_tuple_lt (PySem.F.args_tuple_lt_2 _ _) (uN l b items items2 n n2 dd dd2 sl sl2 ns ms hi hj)
  ⟨ho,ho2,show Value.bool (lexLt ns ms)≠Value.notImplemented/\Q (.bool (lexLt ns ms)) s from ⟨(λx=>nomatch x),h⟩⟩ hu
theorem cat_tup{t b:Addr}{vs ws:List Value}{Q:Value->Shared->Prop}(ht:IsTup s.heap t vs.toArray)(hb:IsTup s.heap b ws.toArray)(hv:vs≠[])
  (h1:ws=[]->Q (.ref t) s) (h2:ws≠[]->Q (.ref s.heap.objs.size) {s with heap:=s.heap.push {cls:=.type "tuple",data:=.seq (vs++ws).toArray}})
  (hsz:vs.length+ws.length<=sizeLine):wpAny (model prog w) A (binaryOp .Add (.ref t) (.ref b)) Q E s:=by
 obtain⟨⟨cls,dd,data,sl⟩,ho,hc,n,hd⟩:=id ht
 obtain⟨⟨cls2,dd2,data2,sl2⟩,ho2,hc2,n2,hd2⟩:=id hb
 simp only at hc hd hc2 hd2
 subst hc hd hc2 hd2
 have e:vs.toArray++ws.toArray=(vs++ws).toArray:=by simp
 by_cases hw:ws=[]
 ·exact concat_meets ⟨_,ho,rfl⟩ ⟨_,ho2,rfl⟩ noFill_tuple_add seq_tuple_add PySem.F.slot_tuple_add PySem.F.entry_tuple_add (PySem.F.args_tuple_add_2 _ _)
   (tuple_addW1 t b vs.toArray ws.toArray n n2 dd dd2 sl sl2 (by simpa using hv) (by simp[hw])) ⟨ho,ho2,h1 hw⟩
 ·refine concat_meets ⟨_,ho,rfl⟩ ⟨_,ho2,rfl⟩ noFill_tuple_add seq_tuple_add PySem.F.slot_tuple_add PySem.F.entry_tuple_add (PySem.F.args_tuple_add_2 _ _)
   (tuple_addW2 t b vs.toArray ws.toArray n n2 dd dd2 sl sl2 (by simpa using hv) (by simpa using hw) (by rw[List.size_toArray,List.size_toArray];exact hsz)) ⟨ho,ho2,?_⟩
  rw[e]
  exact h2 hw
noncomputable def sIx(n d:Nat):Option Int->Nat
 |none=>d
 |some v=>if v<0 then (v+(n:Int)).toNat else min v.toNat n
theorem z35(n d:Nat)(hd:d<=n)(o:Option Int):sIx n d o<=n:=by
 cases o with
 |none=>exact hd
 |some v=>
  show (if v<0 then (v+(n:Int)).toNat else min v.toNat n)<=n
  by_cases hv:v<0
  ·rw[if_pos hv];omega
  ·rw[if_neg hv];exact Nat.min_le_right _ _
theorem Jv(v:Int)(n d:Nat):(if v<0 then max (v+(n:Int)) 0 else min v (n:Int))=((sIx n d (some v):Nat):Int):=by
 show (if v<0 then max (v+(n:Int)) 0 else min v (n:Int))=(((if v<0 then (v+(n:Int)).toNat else min v.toNat n):Nat):Int)
 by_cases hv:v<0
 ·simp only[if_pos hv];omega
 ·simp only[if_neg hv];omega
theorem Vu(lo hi:Option Int)(n:Nat):Builtin.Slice.sliceAdjust lo hi 1 (n:Int)=(((sIx n 0 lo:Nat):Int),((sIx n n hi:Nat):Int)):=by
 have h1:¬((1:Int)<0):=by omega
 unfold Builtin.Slice.sliceAdjust
 simp only[h1,if_false]
 refine Prod.ext ?_ ?_
 ·cases lo with
  |none=>rfl
  |some v=>exact Jv v n 0
 ·cases hi with
  |none=>rfl
  |some v=>exact Jv v n n
theorem VG(i j:Nat):Builtin.Slice.slicePlaces (i:Int) (j:Int) 1=j-i:=by
 unfold Builtin.Slice.slicePlaces
 have h1:(1:Int) > 0:=by omega
 simp only[h1,if_true,Int.ediv_one]
 split<;>omega
theorem yH{v:Value}{o:Option Int}{Q:Option Int->Shared->Prop}(p:IsPart v o)(h:Q o s):wpAny (model prog w) A (Builtin.Slice.slicePartIndex v) Q E s:=by
 cases p with
 |none=>exact slicePart_none h
 |int i t=>exact slicePart_int h
theorem sliceApplied_gen{sl:Addr}{vl vu:Value}{lo hi:Option Int}{n:Nat}{Q:Int×Int×Nat->Shared->Prop}(hs:s.heap.IsSliceOf sl vl vu .none)(pl:IsPart vl lo)(pu:IsPart vu hi)
  (h:Q (((sIx n 0 lo:Nat):Int),1,sIx n n hi-sIx n 0 lo) s):wpAny (model prog w) A (Builtin.Slice.sliceApplied (.ref sl) (pure (n:Int))) Q E s:=by
 obtain⟨os,hos,hcs,hds⟩:=id hs
 unfold Builtin.Slice.sliceApplied Builtin.Slice.sliceFields
 refine wpAny_bind (wpAny_bind (wpAny_field hos hds (x:=vl) rfl (wpAny_bind (wpAny_field hos hds (x:=vu) rfl (wpAny_bind (wpAny_field hos hds (x:=.none) rfl (wpAny_pure ?_)))))))
 refine wpAny_bind (slicePart_none ?_)
 show wpAny _ _ (if ((1:Int) == 0)=true then _ else _) _ _ s
 rw[if_neg (by decide)]
 refine wpAny_bind (yH pl (wpAny_bind (yH pu (wpAny_bind (wpAny_pure ?_)))))
 show wpAny _ _ (match Builtin.Slice.sliceAdjust lo hi 1 (n:Int) with|(lo,hi)=>pure (lo,(1:Int),Builtin.Slice.slicePlaces lo hi 1)) _ _ s
 rw[Vu lo hi n]
 show wpAny _ _ (pure (((sIx n 0 lo:Nat):Int),(1:Int),Builtin.Slice.slicePlaces ((sIx n 0 lo:Nat):Int) ((sIx n n hi:Nat):Int) 1)) _ _ s
 rw[VG]
 exact wpAny_pure h
theorem Y6(xs:Array Value)(i k:Nat):((List.range k).filterMap λ(m:Nat)=>xs[((i:Int)+(m:Int) * 1).toNat]?).toArray=((xs.toList.drop i).take k).toArray:=by
 have e:(λ(m:Nat)=>xs[((i:Int)+(m:Int) * 1).toNat]?)=λm=>xs[i+m]?:=by
  funext m
  have:((i:Int)+(m:Int) * 1).toNat=i+m:=by omega
  rw[this]
 rw[e]
 have:=pick_run xs i k
 rw[List.filterMap_map] at this
 have e2:((λx=>xs[x]?) ∘ λx=>i+x)=λm=>xs[i+m]?:=rfl
 rw[e2] at this
 rw[this]
theorem getItem_tuple_cut{t sl:Addr}{items:Array Value}{vl vu:Value}{lo hi:Option Int}{Q:Value->Shared->Prop}(ht:IsTup s.heap t items)(hs:s.heap.IsSliceOf sl vl vu .none)(pl:IsPart vl lo)(pu:IsPart vu hi)
  (hw:¬(sIx items.size 0 lo=0/\sIx items.size items.size hi=items.size))
  (h:Q (.ref s.heap.objs.size) {s with heap:=s.heap.push {cls:=.type "tuple",data:=.seq ((items.toList.drop (sIx items.size 0 lo)).take (sIx items.size items.size hi-sIx items.size 0 lo)).toArray}})
  (hsz:items.size<=sizeLine):wpAny (model prog w) A (getItem (.ref t) (.ref sl)) Q E s:=by
 have htake:sizeOk (.seq ((items.toList.drop (sIx items.size 0 lo)).take (sIx items.size items.size hi-sIx items.size 0 lo)).toArray):=by
  show ((items.toList.drop (sIx items.size 0 lo)).take (sIx items.size items.size hi-sIx items.size 0 lo)).toArray.size<=sizeLine
  rw[List.size_toArray,List.length_take,List.length_drop,Array.length_toList]
  omega
 have hj:sIx items.size items.size hi<=items.size:=z35 _ _ (Nat.le_refl _) hi
 obtain⟨os,hos,hcs,hds⟩:=id hs
 have hTs:s.TypeIs (.ref sl) "slice":=⟨os,hos,hcs⟩
 unfold getItem
 try with_reducible refine wpAny_holding ?_
 first|refine wpAny_bind (wpAny_pure ?_)|skip
 refine wpAny_bind (wpAny_sequenceKey ht.typeIs (by decide) ?_)
 refine wpAny_bind (wpAny_callSpecial?_slot (name:=Str.ofString "__getitem__") ht.typeIs PyProof.Rows.slot_tuple_getitem
  (wpAny_call_entry PyProof.Rows.slot_tuple_getitem ht.typeIs entry_tuple_getitem ?_ (args_tuple_getitem _ _)))
 show wpAny _ _ (Builtin.Tuple.tupleItemsOf (.ref t) >>= _) _ _ s
 refine wpAny_bind (tupleItemsOf_ ht ?_)
 refine wpAny_bind (wpAny_typeOf hTs ?_)
 rw[if_pos (by decide)]
 refine wpAny_bind (sliceApplied_gen hs pl pu ?_)
 have hno:¬((((sIx items.size 0 lo:Nat):Int) == 0&&(1:Int) == 1&&(sIx items.size items.size hi-sIx items.size 0 lo) == items.size)=true):=by
  intro q
  rw[Bool.and_eq_true,Bool.and_eq_true] at q
  have q1:((sIx items.size 0 lo:Nat):Int)=0:=eq_of_beq q.1.1
  have q2:sIx items.size items.size hi-sIx items.size 0 lo=items.size:=eq_of_beq q.2
  exact hw ⟨by omega,by omega⟩
 show wpAny _ _ (if (((sIx items.size 0 lo:Nat):Int) == 0&&(1:Int) == 1&&(sIx items.size items.size hi-sIx items.size 0 lo) == items.size)=true then _ else _) _ _ s
 rw[if_neg hno,Y6]
 first
  |exact wpAny_bind (m:=Builtin.Tuple.tupleExact _) (wpAny_newObj_type (wpAny_pure ⟨_,rfl,wpAny_pure h⟩) htake)
  |exact wpAny_bind (m:=Builtin.Tuple.tupleExact _) (wpAny_newObj_type (wpAny_bind (wpAny_pure (wpAny_pure ⟨_,rfl,wpAny_pure h⟩))) htake)
  |exact wpAny_bind (wpAny_bind (m:=Builtin.Tuple.tupleExact _) (wpAny_newObj_type (wpAny_pure (wpAny_pure ⟨_,rfl,wpAny_pure h⟩)) htake))
  |exact wpAny_bind (wpAny_bind (m:=Builtin.Tuple.tupleExact _) (wpAny_newObj_type (wpAny_pure ⟨_,rfl,wpAny_pure h⟩) htake))
end
end HT
namespace L2
open PySem PySem.Spec PyProof.Rows
noncomputable abbrev TO:=St->Hp->(Option Int->Hp->Prop)->Prop
noncomputable def PO (X:Cx)(e:Option Expr)(t:TO):Prop:=
 ∀(pins:List (Addr×Obj)) (s:Shared) (σ:St) (H:Hp) (Q:Option Int->Hp->Prop),Inv X pins σ H s->t σ H Q->
  wpAny (model X.prog X.w) X.A (evalPart e X.env) (λu s'=>∃o H',Inv X pins σ H' s'/\IsPart u o/\Q o H') X.xe s
noncomputable def z11:TO:=λ_ H Q=>Q none H
noncomputable def z5N(t:TE):TO:=λσ H Q=>t σ H λx H1=>∃i,x=.int i/\Q (some i) H1
theorem intsAre_of{ns:List Int}:∀{us:List Value},Vals (ns.map V.int) us->IntsAre us ns:=by
 induction ns with
 |nil=>intro us r;rw[List.map_nil] at r;cases r;exact .nil
 |cons n ns ih=>
  intro us r
  rw[List.map_cons] at r
  cases r with
  |cons r1 r2=>
   obtain⟨t,e⟩:=r1
   subst e
   exact .cons n t (ih r2)
section
variable {X:Cx}{e:Expr}{te:TE}{lo hi:Option Expr}{tl th:TO}{pos p2:Pos}
theorem UB:PO X none z11:=by
 intro pins s σ H Q I h
 rw[evalPart_none]
 exact wpAny_pure ⟨none,H,I,.none,h⟩
theorem z0X(h:PE X e te):PO X (some e) (z5N te):=by
 intro pins s σ H Q I hw
 rw[evalPart_some]
 refine thn (h pins s σ H _ I hw) λu s1 ⟨x,H1,I1,r1,q1⟩=>?_
 obtain⟨i,rfl,q⟩:=q1
 obtain⟨t,rfl⟩:=r1
 exact⟨some i,H1,I1,.int i t,q⟩
noncomputable def SlR (X:Cx)(r:V->Option Int->Option Int->Hp->VK->Prop):Prop:=
 ∀(pins:List (Addr×Obj)) (s:Shared) (σ:St) (H:Hp) (x:V) (v vl vu:Value) (lo hi:Option Int) (sl:Addr) (Q:VK),Inv X pins σ H s->RelV x v->s.heap.IsSliceOf sl vl vu .none->IsPart vl lo->IsPart vu hi->r x lo hi H Q->
  ∃T id,typeLookup (.type T) "__getitem__"=pure (some (.builtin id))/\s.TypeIs v T/\wpAny (model X.prog X.w) X.A (getItem v (.ref sl)) (EP X pins σ Q) X.xe s
theorem SlR.or{r r':V->Option Int->Option Int->Hp->VK->Prop}(h:SlR X r)(h':SlR X r'):SlR X (λx lo hi H Q=>r x lo hi H Q\/r' x lo hi H Q):=by
 intro pins s σ H x v vl vu lo hi sl Q I rx hs pl pu q
 rcases q with q|q
 ·exact h pins s σ H x v vl vu lo hi sl Q I rx hs pl pu q
 ·exact h' pins s σ H x v vl vu lo hi sl Q I rx hs pl pu q
noncomputable def tSl (r:V->Option Int->Option Int->Hp->VK->Prop)(te:TE)(tl th:TO):TE:=λσ H Q=>te σ H λx H1=>tl σ H1 λl H2=>th σ H2 λu H3=>r x l u H3 Q
theorem Xv{r:V->Option Int->Option Int->Hp->VK->Prop}(hr:SlR X r)(he:PE X e te)(hl:PO X lo tl)(hu:PO X hi th):PE X (.Subscript e (.Slice lo hi none p2) pos) (tSl r te tl th):=by
 intro pins s σ H Q I h
 refine Subscript_ (thn (he pins s σ H _ I h) λv s1 ⟨x,H1,I1,r1,q1⟩=>?_)
 refine wpAny_Slice (thn (hl pins s1 σ H1 _ I1 q1) λvl s2 ⟨l,H2,I2,pl,q2⟩=>thn (hu pins s2 σ H2 _ I2 q2) λvu s3 ⟨u,H3,I3,pu,q3⟩=>?_)
 rw[evalPart_none]
 refine wpAny_pure ?_
 have I4:Inv X pins σ H3 {s3 with heap:=s3.heap.push {cls:=.type "slice",data:=.fields #[vl,vu,.none]}}:=I3.kept (t':=s3.toks) λb ob q=>Heap.get?_push_of_some _ q
 obtain⟨T,id,hT,ht,hg⟩:=hr pins {s3 with heap:=s3.heap.push {cls:=.type "slice",data:=.fields #[vl,vu,.none]}} σ H3 x v vl vu l u s3.heap.objs.size Q I4 r1 (Heap.IsSliceOf.new ..) pl pu q3
 show wpAny (model X.prog X.w) X.A (subscriptTail e (.Slice lo hi none p2) v (.ref s3.heap.objs.size)) (EP X pins σ Q) X.xe {s3 with heap:=s3.heap.push {cls:=.type "slice",data:=.fields #[vl,vu,.none]}}
 exact tail_any (ops:=[.ref s3.heap.objs.size,v]) ht hT hg (by with_unfolding_all rfl)
noncomputable def Z6 (xs:List V)(lo hi:Option Int):List V:=(xs.drop (HT.sIx xs.length 0 lo)).take (HT.sIx xs.length xs.length hi-HT.sIx xs.length 0 lo)
theorem xE(xs:List V)(lo hi:Option Int):(Z6 xs lo hi).length<=xs.length:=by
 unfold Z6
 rw[List.length_take,List.length_drop]
 omega
noncomputable def z63 (K:PySem.W.Frag):V->Option Int->Option Int->Hp->VK->Prop:=λx lo hi H Q=>∃a xs,x=.ref a/\SqT K H a xs/\
 ¬(HT.sIx xs.length 0 lo=0/\HT.sIx xs.length xs.length hi=xs.length)/\∀p,H p=none->Q (.ref p) (upd H p (.tup (Z6 xs lo hi)))
theorem z2U:SlR X (z63 X.K):=by
 intro pins s σ H x v vl vu lo hi sl Q I rx hs pl pu h
 obtain⟨a,xs,rfl,hx,hw,q⟩:=h
 cases rx
 obtain⟨its,r,ht,hz⟩:=I.tuple hx
 have hlen:its.toArray.size=xs.length:=by rw[List.size_toArray];exact r.length.symm
 refine⟨"tuple",_,PyProof.Rows.slot_tuple_getitem.lookup,ht.typeIs,?_⟩
 refine HT.getItem_tuple_cut ht hs pl pu (by rw[hlen];exact hw) ?_ (by rw[hlen];exact hz)
 rw[hlen]
 refine⟨.ref s.heap.objs.size,_,I.laid (t':=s.toks) (o:=.tup (Z6 xs lo hi)) (λb ob q=>Heap.get?_push_of_some _ q) (Nat.le_refl _) ?_,rfl,q _ (I.hok.fresh (Nat.le_refl _))⟩
 exact⟨Nat.le_trans (xE xs lo hi) hz,_,(r.drop (HT.sIx xs.length 0 lo)).take (HT.sIx xs.length xs.length hi-HT.sIx xs.length 0 lo),IsTup.new _ _⟩
noncomputable def z5S (K:PySem.W.Frag):R2:=λx y H Q=>∃a b ns ms,x=.ref a/\y=.ref b/\SqT K H a (ns.map V.int)/\SqT K H b (ms.map V.int)/\Q (.bl (HT.lexLt ns ms)) H
theorem z3N(hu:X.A.units<cLine):OpR X (compareOp .Lt) (z5S X.K):=by
 intro pins s σ H x y v u Q I rx ry h
 obtain⟨a,b,ns,ms,rfl,rfl,ha,hb,q⟩:=h
 cases rx
 cases ry
 obtain⟨its,r1,p1,_⟩:=I.tuple ha
 obtain⟨its2,r2,p2,_⟩:=I.tuple hb
 have i1:IntsAre its.toArray.toList ns:=intsAre_of r1
 have i2:IntsAre its2.toArray.toList ms:=intsAre_of r2
 exact HT.lt_tupInts p1 p2 i1 i2 hu ⟨.bl (HT.lexLt ns ms),H,I,rfl,q⟩
noncomputable def z5h(K:PySem.W.Frag):R2:=λx y H Q=>∃a b xs ys,x=.ref a/\y=.ref b/\SqT K H a xs/\SqT K H b ys/\xs≠[]/\xs.length+ys.length<=sizeLine/\
 (ys=[]->Q (.ref a) H)/\(ys≠[]->∀p,H p=none->Q (.ref p) (upd H p (.tup (xs++ys))))
theorem Vals.nil_iff{xs:List V}{us:List Value}(r:Vals xs us):us=[]↔xs=[]:=by
 cases r with
 |nil=>simp
 |cons _ _=>simp
theorem z0f:OpR X (binaryOp .Add) (z5h X.K):=by
 intro pins s σ H x y v u Q I rx ry h
 obtain⟨a,b,xs,ys,rfl,rfl,ha,hb,hx,hz,q1,q2⟩:=h
 cases rx
 cases ry
 obtain⟨its,r1,p1,_⟩:=I.tuple ha
 obtain⟨its2,r2,p2,_⟩:=I.tuple hb
 refine HT.cat_tup p1 p2 (λz=>hx (r1.nil_iff.mp z)) (λz=>⟨.ref a,H,I,rfl,q1 (r2.nil_iff.mp z)⟩) (λz=>?_) (by rw[←r1.length,←r2.length];exact hz)
 refine⟨.ref s.heap.objs.size,_,I.laid (t':=s.toks) (o:=.tup (xs++ys)) (λb ob q=>Heap.get?_push_of_some _ q) (Nat.le_refl _) ?_,rfl,q2 (λw=>z (r2.nil_iff.mpr w)) _ (I.hok.fresh (Nat.le_refl _))⟩
 exact⟨by rw[List.length_append];exact hz,_,r1.append r2,IsTup.new _ _⟩
end
end L2
namespace L2
open PySem PySem.Spec PyProof.Rows
noncomputable def ixN(n:Nat)(i:Int):Option Nat:=if 0<=i then (if i<n then some i.toNat else none) else if -(n:Int)<=i then some (i+n).toNat else none
noncomputable def atI {α:Type}(xs:List α)(i:Int):Option α:=(ixN xs.length i).bind λj=>xs[j]?
theorem z0x{n:Nat}{i:Int}{j:Nat}(h:ixN n i=some j):seqIndex? i n=some j/\j<n /\ -(n:Int)<=i/\i<n:=by
 unfold ixN at h
 by_cases h0:0<=i
 ·rw[if_pos h0] at h
  by_cases h1:i<n
  ·rw[if_pos h1] at h
   have e:i.toNat=j:=Option.some.inj h
   exact⟨by rw[seqIndex_of h0 h1,e],by omega,by omega,h1⟩
  ·rw[if_neg h1] at h;cases h
 ·rw[if_neg h0] at h
  by_cases h1:-(n:Int)<=i
  ·rw[if_pos h1] at h
   have e:(i+n).toNat=j:=Option.some.inj h
   exact⟨by rw[seqIndex_neg (by omega) h1,e],by omega,h1,by omega⟩
  ·rw[if_neg h1] at h;cases h
theorem Qq{α:Type}{xs:List α}{i:Int}{v:α}(h:atI xs i=some v):∃j,seqIndex? i xs.length=some j/\xs[j]?=some v/\j<xs.length /\ -(xs.length:Int)<=i/\i<xs.length:=by
 unfold atI at h
 cases e:ixN xs.length i with
 |none=>rw[e] at h;cases h
 |some j=>
  rw[e] at h
  obtain⟨h1,h2,h3,h4⟩:=z0x e
  exact⟨j,h1,h,h2,h3,h4⟩
noncomputable def z0W(b:Expr):Prop:=∀o i,subscripted b false o i=operate [o,i] (getItem o i)
noncomputable def IxR (X:Cx)(r:R2):Prop:=
 ∀(value slice:Expr) (pins:List (Addr×Obj)) (s:Shared) (σ:St) (H:Hp) (x y:V) (v u:Value) (Q:VK),Inv X pins σ H s->RelV x v->RelV y u->r x y H Q->
  subscripted slice false v u=operate [v,u] (getItem v u)->wpAny (model X.prog X.w) X.A (subscriptTail value slice v u) (EP X pins σ Q) X.xe s
noncomputable def MtR (X:Cx)(id:String)(r:V->List V->Hp->VK->Prop):Prop:=
 ∀(pins:List (Addr×Obj)) (s:Shared) (σ:St) (H:Hp) (x:V) (xs:List V) (v:Value) (us:List Value) (Q:VK),Inv X pins σ H s->RelV x v->Vals xs us->r x xs H Q->
  wpAny (model X.prog X.w) X.A (call (.builtin id) (v::us)) (EP X pins σ Q) X.xe s
section
variable {X:Cx}{a b:Expr}{ta tb:TE}{pos:Pos}
noncomputable def z5Q (K:PySem.W.Frag):R2:=λx y H Q=>∃p xs i v,x=.ref p/\y=.int i/\SqL K H p xs/\atI xs i=some v/\Q v H
noncomputable def z6f (K:PySem.W.Frag):R2:=λx y H Q=>∃p xs i v,x=.ref p/\y=.int i/\SqT K H p xs/\atI xs i=some v/\Q v H
noncomputable def z5T:R2:=λx y H Q=>∃z i c,x=.str z/\y=.int i/\z.length<=sizeLine/\atI z.cps.toList i=some c/\Q (.str ⟨#[c]⟩) H
theorem Ja:IxR X (z5Q X.K):=by
 intro value slice pins s σ H x y v u Q I rx ry h hs
 obtain⟨p,xs,i,z,rfl,rfl,hq,he,q⟩:=h
 cases rx
 obtain⟨t,rfl⟩:=ry
 obtain⟨its,r,pl,hz⟩:=I.list hq
 obtain⟨j,h1,h2,h3,h4,h5⟩:=Qq he
 obtain⟨w,ew,rw'⟩:=r.get h2
 have hl:=r.length
 have hn:=ur
 have fin:EP X pins σ Q w s:=⟨z,H,I,rw',q⟩
 by_cases h0:0<=i
 ·have hj:i.toNat=j:=by
   rw[seqIndex_of h0 h5] at h1
   exact Option.some.inj h1
  exact item_listR pl.isList h0 (by omega) (by rw[hj];simpa using ew) fin hs
 ·have hj:(i+(its.toArray.size:Int)).toNat=j:=by
   rw[seqIndex_neg (by omega) h4] at h1
   rw[List.size_toArray,←hl]
   exact Option.some.inj h1
  exact subscriptTail_builtinR (x:=w) pl.isList.typeIs slot_list_getitem.lookup
   (wpAny_getItem_list_neg (Q:=λr s'=>r=w/\EP X pins σ Q r s') pl.isList (by omega) (by rw[List.size_toArray]<;>omega) (by omega) (by rw[hj];simpa using ew) ⟨rfl,fin⟩) hs
theorem z32:IxR X (z6f X.K):=by
 intro value slice pins s σ H x y v u Q I rx ry h hs
 obtain⟨p,xs,i,z,rfl,rfl,hq,he,q⟩:=h
 cases rx
 obtain⟨t,rfl⟩:=ry
 obtain⟨its,r,pl,hz⟩:=I.tuple hq
 obtain⟨j,h1,h2,h3,h4,h5⟩:=Qq he
 obtain⟨w,ew,rw'⟩:=r.get h2
 have hl:=r.length
 have hn:=ur
 have fin:EP X pins σ Q w s:=⟨z,H,I,rw',q⟩
 exact subscriptTail_builtinR (x:=w) pl.typeIs slot_tuple_getitem.lookup
  (getItem_tuple (j:=j) (Q:=λr s'=>r=w/\EP X pins σ Q r s') pl (by omega) (by omega) (by rw[List.size_toArray,←hl];exact h1) (by simpa using ew) ⟨rfl,fin⟩) hs
theorem z3y:IxR X z5T:=by
 intro value slice pins s σ H x y v u Q I rx ry h hs
 obtain⟨z,i,c,rfl,rfl,hz,he,q⟩:=h
 obtain⟨t,rfl⟩:=rx
 obtain⟨t',rfl⟩:=ry
 obtain⟨j,h1,h2,h3,h4,h5⟩:=Qq he
 have hl:z.cps.toList.length=z.length:=by simp[Str.length]
 rw[hl] at h1 h4 h5
 have hn:=ur
 exact tail_any (typeIs_str s z t) slot_str_getitem.lookup (getItem_str (c:=c) (by
  have e1:decide (i < -(2 ^ 63:Int))=false:=decide_eq_false (by omega)
  have e2:decide (i ≥ 2 ^ 63)=false:=decide_eq_false (by omega)
  rw[e1,e2,Bool.or_false]) (by rw[h1];simpa using h2) ⟨.str ⟨#[c]⟩,H,I.tok _,⟨_,rfl⟩,q⟩) hs
theorem QM(lo hi:Option Int)(n:Nat):(sliceBounds lo hi none n).1=((HT.sIx n 0 lo:Nat):Int)/\(sliceBounds lo hi none n).2.1=((HT.sIx n n hi:Nat):Int)/\(sliceBounds lo hi none n).2.2=1:=by
 refine⟨?_,?_,rfl⟩
 ·cases lo with
  |none=>simp[sliceBounds,HT.sIx]
  |some i=>
   simp only[sliceBounds,HT.sIx,Option.getD_none,show (1:Int) > 0 by decide,if_true]
   by_cases h:i<0
   ·simp only[h,if_true]<;>omega
   ·simp only[h,if_false]<;>omega
 ·cases hi with
  |none=>simp[sliceBounds,HT.sIx]
  |some i=>
   simp only[sliceBounds,HT.sIx,Option.getD_none,show (1:Int) > 0 by decide,if_true]
   by_cases h:i<0
   ·simp only[h,if_true]<;>omega
   ·simp only[h,if_false]<;>omega
theorem Z7(its:List Value)(lo hi:Option Int):slicePick its.toArray lo hi none=((its.drop (HT.sIx its.length 0 lo)).take (HT.sIx its.length its.length hi-HT.sIx its.length 0 lo)).toArray:=by
 obtain⟨h1,h2,h3⟩:=QM lo hi its.toArray.size
 unfold slicePick
 rw[h1,h2,h3]
 simp only[sliceRange_one,pick_run,List.size_toArray]<;>rfl
noncomputable def z69 (K:PySem.W.Frag):V->Option Int->Option Int->Hp->VK->Prop:=λx lo hi H Q=>∃a xs,x=.ref a/\SqL K H a xs/\∀p,H p=none->Q (.ref p) (upd H p (.lst (Z6 xs lo hi)))
theorem Uu:SlR X (z69 X.K):=by
 intro pins s σ H x v vl vu lo hi sl Q I rx hs pl pu h
 obtain⟨a,xs,rfl,hx,q⟩:=h
 cases rx
 obtain⟨its,r,ht,hz⟩:=I.list hx
 have hlen:=r.length
 refine⟨"list",_,slot_list_getitem.lookup,ht.isList.typeIs,?_⟩
 refine wpAny_getItem_list_slice ht.isList hs pl pu .none (by simp) ?_ (by rw[List.size_toArray]<;>omega)
 rw[Z7,←hlen]
 refine⟨.ref s.heap.objs.size,_,I.laid (t':=s.toks) (o:=.lst (Z6 xs lo hi)) (λb ob q=>Heap.get?_push_of_some _ q) (Nat.le_refl _) ?_,rfl,q _ (I.hok.fresh (Nat.le_refl _))⟩
 exact⟨Nat.le_trans (xE xs lo hi) hz,_,0,(r.drop (HT.sIx xs.length 0 lo)).take (HT.sIx xs.length xs.length hi-HT.sIx xs.length 0 lo),Heap.get?_push_size _ rfl⟩
theorem vp:Xk X (.builtin "len") (λxs H Q=>∃p ys,xs=[.ref p]/\(SqL X.K H p ys\/SqT X.K H p ys)/\Q (.int ys.length) H):=by
 intro pins s σ H xs us Q I r h
 obtain⟨p,ys,rfl,hq,q⟩:=h
 obtain⟨u,rfl,rx⟩:=vals1 r
 cases rx
 have hn:=ur
 rcases hq with hq|hq
 ·obtain⟨its,r',pl,hz⟩:=I.list hq
  have hlen:=r'.length
  exact Calls.call_len_list pl.isList (by simp only[List.size_toArray]<;>omega) ⟨.int ys.length,H,I.tok _,⟨s.toks+1,by rw[List.size_toArray,hlen]⟩,q⟩
 ·obtain⟨its,r',pl,hz⟩:=I.tuple hq
  have hlen:=r'.length
  exact len_tuple pl (by simp only[List.size_toArray]<;>omega) ⟨.int ys.length,H,I.tok _,⟨s.toks+1,by rw[List.size_toArray,hlen]⟩,q⟩
theorem ZR:Xk X (.builtin "len") (λxs H Q=>∃z,xs=[.str z]/\z.length<=sizeLine/\Q (.int z.length) H):=by
 intro pins s σ H xs us Q I r h
 obtain⟨z,rfl,hz,q⟩:=h
 obtain⟨u,rfl,t,rfl⟩:=vals1 r
 have hn:=ur
 exact len_str (by omega) ⟨.int z.length,H,I.tok _,⟨_,rfl⟩,q⟩
theorem vi:Xk X (.type "list") (λxs H Q=>∃p ys,xs=[.ref p]/\(SqL X.K H p ys\/SqT X.K H p ys)/\∀l,H l=none->Q (.ref l) (upd H l (.lst ys))):=by
 intro pins s σ H xs us Q I r h
 obtain⟨p,ys,rfl,hq,q⟩:=h
 obtain⟨u,rfl,rx⟩:=vals1 r
 cases rx
 have fin:∀(its:List Value),Vals ys its->ys.length<=sizeLine->∀(h':Heap) (c':Nat),(∀b o',s.heap.get? b=some o'->h'.get? b=some o')->
   h'.get? s.heap.objs.size=some {cls:=.type "list",dict:=none,data:=.seq its.toArray c',slots:=#[]}->EP X pins σ Q (.ref s.heap.objs.size) {s with heap:=h'}:=λits r' hz h' c' kp e=>
  ⟨.ref s.heap.objs.size,_,I.laid (t':=s.toks) kp (Nat.le_refl _) (show ObjOk X.prog X.w _ h' _ (.lst ys) from ⟨hz,its,c',r',e⟩),rfl,q _ (I.hok.fresh (Nat.le_refl _))⟩
 rcases hq with hq|hq
 ·obtain⟨its,r',pl,hz⟩:=I.list hq
  have hlen:=r'.length
  obtain⟨o,ho,hc,n,hd⟩:=pl.isList
  exact call_list_seq p (.inl rfl) ho hc hd (λh' c' kp e=>fin its r' hz h' c' kp e) (by simp only[List.size_toArray]<;>omega)
 ·obtain⟨its,r',pl,hz⟩:=I.tuple hq
  have hlen:=r'.length
  obtain⟨o,ho,hc,n,hd⟩:=pl
  exact call_list_seq p (.inr rfl) ho hc hd (λh' c' kp e=>fin its r' hz h' c' kp e) (by simp only[List.size_toArray]<;>omega)
noncomputable def tyV (K:PySem.W.Frag)(T:String)(x:V)(H:Hp):Prop:=match x with
 |.str _=>T="str"
 |.int _=>T="int"
 |.ref p=>(T="list"/\∃xs,SqL K H p xs)\/(T="tuple"/\∃o,K.lookup p=some o/\o.cls=.type "tuple"/\o.dict=none)\/
   (T="dict"/\((∃kvs,H p=some (.dK kvs))\/∃kvs,H p=some (.dT kvs)))\/(T="set"/\∃S n,H p=some (.set S n))
 |_=>False
theorem z4e{pins:List (Addr×Obj)}{σ:St}{H:Hp}{s:Shared}{T:String}{x:V}{v:Value}(I:Inv X pins σ H s)(r:RelV x v)(ty:tyV X.K T x H) :
  s.TypeIs v T/\∀a,v=.ref a->∃ob,s.heap.get? a=some ob/\ob.dict=none:=by
 cases x with
 |str z=>
  obtain⟨t,rfl⟩:=r
  cases (show T="str" from ty)
  exact⟨typeIs_str s z t,λ_ e=>nomatch e⟩
 |int i=>
  obtain⟨t,rfl⟩:=r
  cases (show T="int" from ty)
  exact⟨typeIs_int s i t,λ_ e=>nomatch e⟩
 |ref p=>
  cases r
  rcases ty with⟨rfl,xs,hq⟩|⟨rfl,o,hk,hc,hd⟩|⟨rfl,hk⟩|⟨rfl,S,n,hk⟩
  ·obtain⟨its,_,pl,_⟩:=I.list hq
   refine⟨pl.isList.typeIs,λa e=>?_⟩
   cases e
   obtain⟨o,n,e,c,hd,_⟩:=pl
   exact⟨o,e,hd⟩
  ·refine⟨⟨o,I.kIn p o hk,hc⟩,λa e=>?_⟩
   cases e
   exact⟨o,I.kIn _ o hk,hd⟩
  ·have z:∃o,s.heap.get? p=some o/\o.ExactDict:=by
    rcases hk with⟨kvs,hk⟩|⟨kvs,hk⟩
    ·obtain⟨_,_,_,_,o,_,_,e,ex,_⟩:=I.hok p _ hk
     exact⟨o,e,ex⟩
    ·obtain⟨_,_,_,_,o,_,_,e,ex,_⟩:=I.hok p _ hk
     exact⟨o,e,ex⟩
   obtain⟨o,e,ex⟩:=z
   refine⟨⟨o,e,ex.1⟩,λa e2=>?_⟩
   cases e2
   exact⟨o,e,ex.2.1⟩
  ·obtain⟨o,_,_,_,e,ex,_⟩:=I.hok p _ hk
   refine⟨⟨o,e,ex.1⟩,λa e2=>?_⟩
   cases e2
   exact⟨o,e,ex.2.1⟩
 |_=>exact False.elim ty
noncomputable def tBM (K:PySem.W.Frag)(T:String)(r:V->List V->Hp->VK->Prop)(to:TE)(t:TA):TE:=λσ H Q=>to σ H λx H1=>tyV K T x H1/\t σ H1 λxs H2=>r x xs H2 Q
variable {o e:Expr}{es:List Expr}{to:TE}{t:TA}{name:Str}{apos cpos:Pos}{T id:String}{r:V->List V->Hp->VK->Prop}
theorem z1B (pa:PlainAttrs T) (slot:Slot T name id) (hty:typeOf (.builtin id)=pure (.type "method_descriptor")) (hm:MtR X id r) (ho:PE X o to) (ha:PA X (e::es) t)
  (hbase:attributeBase o name X.env (eval o X.env)=eval o X.env:=by rfl)
  (hfew:((backTo cpos (starEach (e::es) X.env)).all (λx=>!x.1)&&(backToKw cpos (keywordEach [] X.env)).all (λx=>x.1.isSome)
   &&decide ((e::es).length+([]:List Keyword).length+(if ([]:List Keyword).isEmpty then 0 else 1)<30))=true:=by rfl)
  (hline:(apos.endLine == cpos.line)=true:=by rfl) (hs:starEach (e::es) X.env=(false,eval e X.env)::starEach es X.env:=by rfl) (hplain:(backTo cpos (starEach es X.env)).any (·.1)=false:=by rfl) :
  PE X (.Call (.Attribute o name apos) (e::es) [] cpos) (tBM X.K T r to t):=by
 intro pins s σ H Q I h
 refine wpAny_Call_method_late hbase hfew hline rfl (thn (ho pins s σ H _ I h) λv s1 ⟨x,H1,I1,r1,ty,q1⟩=>?_)
 obtain⟨h1,h2⟩:=z4e I1 r1 ty
 refine⟨T,id,pa,slot,hty,h1,h2,?_⟩
 have hA:=ha cpos pins s1 σ H1 _ I1 q1
 rw[hs] at hA ⊢
 refine Calls.callWith_builtin (by show (false || (backTo cpos (starEach es X.env)).any (·.1))=false;rw[hplain]<;>rfl) (Calls.evalArgs_plain ?_)
 exact thn hA λus s2 ⟨vs,H2,I2,r2,q2⟩=>hm pins s2 σ H2 x vs v us Q I2 r1 r2 q2
end
end L2
namespace L2
open PySem PySem.Spec PyProof.Rows
noncomputable def MtM (X:Cx)(id:String)(r:V->List V->Hp->VK->Prop):Prop:=
 ∀(pins:List (Addr×Obj)) (s:Shared) (σ:St) (H:Hp) (x:V) (xs:List V) (v:Value) (us:List Value) (Q:VK),Inv X pins σ H s->RelV x v->Vals xs us->r x xs H Q->
  wpAny (model X.prog X.w) X.A (call (.builtin id) (v::us)) (EP X pins σ Q) X.xe s
theorem Vals.one:∀{x:V} {us:List Value},Vals [x] us->∃u,us=[u]/\RelV x u
 |_,_,.cons r .nil=>⟨_,rfl,r⟩
section
variable {X:Cx}{pins:List (Addr×Obj)}{σ:St}{H:Hp}{s:Shared}{l b:Addr}{xs ys zs:List V}
theorem Inv.lset{its its':List Value}{n:Nat}{f:Array Value->Array Value}{t':Nat}(I:Inv X pins σ H s)(hH:H l=some (.lst xs))
  (e:s.heap.get? l=some {cls:=.type "list",data:=.seq its.toArray n}) (hf:f its.toArray=its'.toArray) (hv:Vals ys its') (hz:ys.length<=sizeLine) :
  Inv X pins σ (upd H l (.lst ys)) {s with heap:=s.heap.update l (Obj.mapSeq f),toks:=t'}:=by
 have q:=PySem.IsL.update e f
 rw[hf] at q
 refine I.write (x:=l) (e:=l) (by rw[hH];exact trivial) (.inl rfl) (λb' u hb hu=>(Heap.get?_update_other s.heap (Obj.mapSeq f) (Ne.symm hb)).trans hu) ⟨_,q⟩ ?_
 exact⟨hz,its',_,hv,q⟩
theorem Inv.lnew{its:List Value}{t':Nat}(I:Inv X pins σ H s)(hv:Vals ys its)(hz:ys.length<=sizeLine) :
  Inv X pins σ (upd H s.heap.objs.size (.lst ys)) {s with heap:=s.heap.push {cls:=.type "list",data:=.seq its.toArray},toks:=t'}:=
 I.laid (λ_ _ q=>Heap.get?_push_of_some _ q) (Nat.le_refl _) ⟨hz,its,0,hv,Heap.get?_push_size _ rfl⟩
theorem Inv.fresh(I:Inv X pins σ H s):H s.heap.objs.size=none:=I.hok.fresh (Nat.le_refl _)
theorem Inv.lstM(I:Inv X pins σ H s)(hH:H l=some (.lst xs)):xs.length<=sizeLine/\∃(its:List Value) (n:Nat),Vals xs its/\xs.length=its.length/\s.heap.get? l=some {cls:=.type "list",data:=.seq its.toArray n}:=by
 obtain⟨z,its,n,r,e⟩:=I.hok l _ hH
 exact⟨z,its,n,r,r.length,e⟩
theorem YL{n:Nat}(h:n<=sizeLine):Builtin.List.listTooLong n=false:=by
 unfold Builtin.List.listTooLong
 exact decide_eq_false (by omega)
end
section
variable {X:Cx}
noncomputable def UM:V->List V->Hp->VK->Prop:=λx vs H Q=>∃l xs y,x=.ref l/\vs=[y]/\H l=some (.lst xs)/\xs.length<sizeLine/\Q .non (upd H l (.lst (xs++[y])))
theorem Zt:MtM X "list.append" UM:=by
 intro pins s σ H x vs v us Q I rx rv h
 obtain⟨l,xs,y,rfl,rfl,hH,hz,q⟩:=h
 cases rx
 obtain⟨u,rfl,ru⟩:=rv.one
 obtain⟨z,its,n,r,hl,e⟩:=I.lstM hH
 refine call_meets F.slot_list_append ⟨_,e,rfl⟩ F.entry_list_append (F.args_list_append_2 _ _) (PySem.list_append l its.toArray n u (by rw[List.size_toArray];omega)) ⟨e,?_⟩
 refine⟨.non,_,I.lset (its':=its++[u]) hH e (by simp) (r.append (.cons ru .nil)) ?_,rfl,q⟩
 rw[List.length_append,List.length_singleton]
 omega
end
end L2
namespace Att
open PySem PySem.W PySem.Calls PyProof.Rows
theorem xV{P:Params}{h:Heap}:∀(ns:List Int) (vs:List Value),WellAll P h vs (ns.map WData.int)->IntsAre vs ns:=by
 intro ns
 induction ns with
 |nil=>
  intro vs w
  rw[List.map_nil] at w
  cases w
  exact .nil
 |cons n ns ih=>
  intro vs w
  rw[List.map_cons] at w
  cases w with
  |cons a b=>
   cases a
   exact .cons _ _ (ih _ b)
theorem K1{l:OpenLaw}{n:Nat}(hn:l.most=some n){P:Params}{h:Heap}{args:List WData}{vals:List Value}
  (hpre:l.row.toRowW.claim.pre args=true) (hwl:WellAll P h vals args) :
  ∃a vs ns,vals=[Value.ref a]/\args=[WData.list (ns.map WData.int)]/\h.get? a=some {cls:=.type "list",data:=.seq vs.toArray}/\IntsAre vs ns/\ns.length<=n:=by
 have hsh:WShape.hasAll [] args [.list .int]=true:=(pre_splitW hpre).1
 have hc:l.pre.holds [] {args:=args}=true:=(pre_splitW hpre).2
 obtain⟨d,r,rfl,h1,h2⟩:=hasAllW_cons hsh
 obtain rfl:=hasAllW_nil h2
 obtain⟨xs,rfl,h3⟩:=hasW_list h1
 obtain⟨ns,rfl⟩:=items_int h3
 have hlen:ns.length<=n:=by
  unfold OpenLaw.pre at hc
  have h4:(WTm.not (.lt (.lit (.int (n:Int))) (.len (.arg 0)))).holds [] {args:=[.list (ns.map .int)]}=true:=by
   have h4:=(holds_andW hc).1
   rw[hn] at h4
   exact h4
  have h5:=condW_of h4 (w_not (w_lt w_lit (w_len_list (w_arg rfl))))
  rw[List.length_map] at h5
  refine Nat.le_of_not_lt λq=>?_
  have q':(n:Int)<((ns.length:Nat):Int):=by omega
  first
   |(rw[decide_eq_true q'] at h5;exact absurd h5 (by decide))
   |(simp at h5;omega)
 cases hwl with
 |cons w1 w2=>
  cases w2
  cases w1 with
  |list ho hall=>exact⟨_,_,ns,rfl,rfl,ho,xV ns _ hall,hlen⟩
theorem Ko(l:OpenLaw)(args:List WData):l.row.toRowW.claim.post args (.bool true) args=true:=
 postW_of (r:=l.row.toRowW) (X:=(true == true))
  (show WShape.has [] (.bool true) .bool=true by first|rfl|decide|simp[WShape.has,WShape.arms,WShape.armsAll])
  (show (WTm.eq .res (.lit (.bool true))).value [] {args:=args,res:=some (.bool true),after:=args}=some (.bool (true == true)) from w_eq_bool (w_res rfl) w_lit) rfl
theorem attach_call{l:OpenLaw}{n:Nat}{q:Program}{loose:List Str}{XP:(Str->Option Value)->Heap->Prop}{YP:World->Heap->Prop}{d:DefRec}
  (hn:l.most=some n) (hdf:d.params.defaults=[])
  (call:∀(w:World) (s₀ s₁:Shared) (mg mb:Str->Option Value) (fa:Addr) (o:Obj) (pm cd doc:Value) (a:Addr) (vs:List Value) (ns:List Int),
   Ground q loose [] XP w s₀ mg mb s₁.heap->YP w s₁.heap->
   s₁.heap.get? fa=some o->o.data=.func (docDef d.name d.params d.body d.scope pm cd doc)->s₁.heap.CodeRec cd d.name->mg d.name=some (.ref fa)->
   s₁.heap.get? a=some {cls:=.type "list",data:=.seq vs.toArray}->IntsAre vs ns->ns.length<=n->s₁.gens=#[]->
   codeAny (model l.prog w) callerA (.call (.ref fa) ⟨[.ref a],[]⟩) (λr s'=>r=.ok (.ret (.bool true))/\OldK s₁.heap s'.heap/\s'.os=s₁.os/\AllBare s'.gens) s₁) :
  WalkO q loose XP YP l.row.toRowW d [] (λf vs=>PySem.call f vs):=by
 intro w s₀ s₁ mg mb G Y fa o pm cd doc dV kV ho hd hcd hD hmg hg args vals as hpre hlay hrd hwl hlo
 obtain rfl:dV=.none:=Dflts.none hD hdf
 obtain rfl:kV=.none:=Dflts.noKw hD
 obtain⟨a,vs,ns,rfl,rfl,hobj,hints,hlen⟩:=K1 hn hpre hwl
 refine enter_call (codeAny_mono (call w s₀ s₁ mg mb fa o pm cd doc a vs ns G Y ho (fd_plain hd) hcd hmg hobj hints hlen hg) λr s' hq=>?_)
 obtain⟨rfl,h2,h3,h4⟩:=hq
 exact⟨.inl ⟨.bool true,.bool true,[],rfl,λ_=>rfl,.bool true,Ko l _,λ_=>⟨List.Pairwise.nil,λ_ hm=>(nomatch hm)⟩⟩,h2,h3,h4⟩
section
variable {prog:Program}{w:World}{A:Around}{E:Value->Shared->Prop}{s:Shared}{K:Frag}
noncomputable def ledger(h:Heap)(L d:Addr):List (Addr×Obj):=(List.range h.objs.size).filterMap λa=>if a=L\/a=d then none else (h.get? a).map λo=>(a,o)
end
end Att
namespace L2
open PySem PySem.Spec PyProof.Rows
theorem vals_ints:∀{vs:List Value} {ns:List Int},IntsAre vs ns->Vals (ns.map V.int) vs
 |_,_,.nil=>.nil
 |_,_,.cons n t h=>.cons ⟨t,rfl⟩ (vals_ints h)
end L2
namespace L2
open PySem PySem.Spec PyProof.Rows
noncomputable abbrev KOf{K:PySem.W.Frag}{h:Heap}(_:K.In h):PySem.W.Frag:=K
end L2
namespace L2
open PySem PySem.Spec PyProof.Rows
noncomputable def inClass(s:Stmt)(j:Nat):Stmt:=match s with
 |.ClassDef _ _ _ body _ _ _ _ _ _ _=>body.getD j (.Pass ⟨0,0,0,0⟩)
 |_=>.Pass ⟨0,0,0,0⟩
noncomputable def zt(s:Stmt):Arguments:=match s with
 |.FunctionDef _ a _ _ _ _ _ _ _ _=>a
 |_=>{posonlyargs:=[],args:=[],vararg:=none,kwonlyargs:=[],kw_defaults:=[],kwarg:=none,defaults:=[]}
noncomputable def z3(s:Stmt):List Stmt:=match s with
 |.FunctionDef _ _ b _ _ _ _ _ _ _=>b
 |_=>[]
noncomputable def ze(s:Stmt):Scope:=match s with
 |.FunctionDef _ _ _ _ _ _ sc _ _ _=>sc
 |_=>{kind:=.function,names:=[],isGenerator:=false,isCoroutine:=false}
noncomputable abbrev E0:XK:=λ_ _ _=>False
structure Fun(K:PySem.W.Frag)(x qual:Str)(st:Stmt)(f:Addr)(fd:FuncData):Prop where
 ex:∃(oc:Value) (od:Option Addr) (kV doc pm:Value) (an:Option Addr) (cdv ct:Value) (osl:Array (Option Value)),
  fd=PySem.W.fnOf x qual (zt st) (z3 st) (ze st) .none kV doc pm an cdv ct/\K.lookup f=some ⟨oc,od,.func fd,osl⟩/\PySem.W.codeIn K cdv qual=true
 kp:PySem.W.keepIn K (.ref f)=true
section
variable {P:Program}{w:World}{K:PySem.W.Frag}{mg:Str->Option Value}{base:Heap}
theorem Fun.binds{x qual:Str}{st:Stmt}{f:Addr}{fd:FuncData}{ps:List Str}(F:Fun K x qual st f fd)
  (h:∀(kV doc pm:Value) (an:Option Addr) (cdv ct:Value) (us:List Value),us.length=ps.length->bindArgs (PySem.W.fnOf x qual (zt st) (z3 st) (ze st) .none kV doc pm an cdv ct) ⟨us,[]⟩=pure (ps.zip us)):Binds K fd ps []:=by
 obtain⟨oc,od,kV,doc,pm,an,cdv,ct,osl,rfl,lk,hcd⟩:=F.ex
 exact .all (h kV doc pm an cdv ct)
theorem jj{x qual:Str}{st:Stmt}{f:Addr}{oc:Value}{od an:Option Addr}{osl:Array (Option Value)}{kV doc pm cdv ct:Value}(l:K.lookup f=some ⟨oc,od,.func (PySem.W.fnOf x qual (zt st) (z3 st) (ze st) .none kV doc pm an cdv ct),osl⟩)
  (c:PySem.W.codeIn K cdv qual=true) (k:PySem.W.keepIn K (.ref f)=true):Fun K x qual st f (PySem.W.fnOf x qual (zt st) (z3 st) (ze st) .none kV doc pm an cdv ct):=⟨⟨oc,od,kV,doc,pm,an,cdv,ct,osl,rfl,l,c⟩,k⟩
end
noncomputable def xg (H H':Hp):Prop:=∀b o,H b=some o->H' b=some o
end L2
end
section
namespace NH
open PySem
noncomputable def z66 (h:Heap)(x:Addr)(cls:Value)(d:Option Addr):Prop:=∃oe vs a0,h.get? x=some oe/\(oe.cls=cls/\oe.dict=d)/\oe.data=.fields vs/\vs[0]?=some a0/\vs[1]?=some .none
noncomputable def XTr (h:Heap)(x T:Addr)(cls:Value)(d:Option Addr)(fl:Value):Prop:=∃oe vs a0 oT ts,h.get? x=some oe/\(oe.cls=cls/\oe.dict=d)/\oe.data=.fields vs/\vs[0]?=some a0/\vs[1]?=some (.ref T)/\T≠x/\h.get? T=some oT/\oT.data=.fields ts/\ts[3]?=some fl
noncomputable def z5p (h:Heap)(x:Addr)(cls:Value)(d:Option Addr):Option Addr->Value->Prop
 |none,fl=>z66 h x cls d/\fl=.none
 |some T,fl=>XTr h x T cls d fl
structure XMove(fs:List Addr)(x:Addr)(T T':Option Addr)(h h':Heap):Prop where
 keep:∀b o,h.get? b=some o->b∉fs->b≠x->b∉T.toList->h'.get? b=some o
 slot:∀b o,h.get? b=some o->b∈fs->b≠x->b∉T.toList->∃sl,h'.get? b=some {o with slots:=sl}
 newT:∀t∈T'.toList,t∈T.toList\/h.objs.size<=t
theorem XMove.refl(fs:List Addr)(x:Addr)(T:Option Addr)(h:Heap):XMove fs x T T h h:=⟨λ_ _ e _ _ _=>e,λ_ o e _ _ _=>⟨o.slots,e⟩,λ_ ht=>.inl ht⟩
theorem yJ(o:Obj)(f:Array Value->Array Value):(Obj.mapFields f o).dict=o.dict:=by
 obtain⟨c,d,dt,sl⟩:=o
 cases dt<;>rfl
section
variable {M:Model}{A:Around}{E:Value->Shared->Prop}{s:Shared}
theorem Uh{base:Heap}{env e0:Env}{outer:List Env}{L:Addr}{Q:Value->Shared->Prop}(hfr:A.frames=some (e0::outer))(hl:s.heap.FunFrames base (e0::outer))
  (hf:env.frame=some L) (h0:e0.frame=some L) (h:∀h',Heap.SlotsOnly ((e0::outer).filterMap (·.frame)) s.heap h'->Q (.ref L) {s with heap:=h'}):wpAny M A (frameOf env) Q E s:=by
 unfold frameOf
 refine wpAny_bind (wpAny_frameEnvs hfr ?_)
 have hw:((e0::outer).dropWhile λy=>y.frame != env.frame)=e0::outer:=by simp[List.dropWhile,hf,h0]
 rw[hw]
 unfold frameObject
 refine wpAny_bind (wpAny_bind (wpAny_readyFrames_fun hl λh1 q1=>wpAny_pure ?_))
 rw[h0]
 exact wpAny_pure (h h1 q1)
theorem ud{base:Heap}{env e0:Env}{outer:List Env}{L x:Addr}{cls head:Value}{d T:Option Addr}{had:Bool}{oe:Obj}{vs:Array Value}{a0:Value}{Q:Unit->Shared->Prop}
  (hfr:A.frames=some (e0::outer)) (hl:s.heap.FunFrames base (e0::outer)) (hf:env.frame=some L) (h0:e0.frame=some L)
  (ho:s.heap.get? x=some oe) (hc:oe.cls=cls/\oe.dict=d) (hd:oe.data=.fields vs) (hv0:vs[0]?=some a0) (hsz:1<vs.size)
  (h:∀h' t,XTr h' x t cls d (rawInt L)->XMove ((e0::outer).filterMap (·.frame)) x T (some t) s.heap h'->s.heap.objs.size<=t->Q () {s with heap:=h'}) :
  wpAny M A (do let a ←frameOf env;let pl ←entryPlaceOf L had;let b ←EntryCells.newEntry head a .none (rawInt L) .none pl;setField (.ref x) 1 b) Q E s:=by
 have nin:x∉(e0::outer).filterMap (·.frame):=λhm=>by
  obtain⟨_,o,ho',nf⟩:=hl.mem hm
  rw[ho] at ho';cases ho';exact nf vs hd
 refine wpAny_bind (Uh hfr hl hf h0 λh1 q1=>?_)
 refine wpAny_bind (wpAny_entryPlaceOf λpl hpl=>?_)
 unfold EntryCells.newEntry newFields
 refine wpAny_bind (wpAny_newObj_type ?_ (hpl.sizeOk5 _ _ _ _ _))
 have e1:h1.get? x=some oe:=(q1.2.1 x nin).trans ho
 generalize hob:({cls:=.type "traceback",dict:=none,data:=.fields ([head,.ref L,.none,rawInt L,.none]++(if pl.isEmpty then List.replicate 6 Value.none else pl)).toArray}:Obj)=ob
 have e2:=Heap.get?_push_of_some (h:=h1) ob e1
 have hdata:ob.data=.fields ([head,.ref L,.none,rawInt L,.none]++(if pl.isEmpty then List.replicate 6 Value.none else pl)).toArray:=by rw[←hob]
 have hfree:ob.isFreed=false:=by rw[←hob];rfl
 refine wpAny_setField e2 hd hsz ?_
 have tx:h1.objs.size≠x:=Nat.ne_of_gt (Heap.lt_size e1)
 have d3:=Obj.data_mapFields hd (·.setIfInBounds 1 (Value.ref h1.objs.size))
 have e3:=Heap.get?_update_self (Obj.mapFields (·.setIfInBounds 1 (Value.ref h1.objs.size))) e2 (Obj.isFreed_of_fields d3)
 have other:∀b o,b≠x->h1.get? b=some o->((h1.push ob).update x (Obj.mapFields (·.setIfInBounds 1 (Value.ref h1.objs.size)))).get? b=some o:=λb o hb e=>by
  rw[Heap.get?_update_other _ _ (Ne.symm hb)];exact Heap.get?_push_of_some _ e
 refine h _ h1.objs.size ⟨_,_,a0,ob,_,e3,⟨(Obj.cls_mapFields _ _).trans hc.1,(yJ _ _).trans hc.2⟩,d3,by rw[Array.getElem?_setIfInBounds_ne (by decide)];exact hv0,by simp[hsz],tx,?_,hdata,?_⟩ ⟨λb o e nb nx _=>?_,λb o e _ nx _=>?_,λt ht=>.inr ?_⟩ (Nat.le_of_eq q1.1.symm)
 ·rw[Heap.get?_update_other _ _ (Ne.symm tx)];exact Heap.get?_push_size _ hfree
 ·first|(simp;done)|(rcases hpl with rfl|⟨_,_,_,_,_,_,_,rfl⟩<;>simp)
 ·exact other b o nx ((q1.2.1 b nb).trans e)
 ·obtain⟨sl,e'⟩:=q1.2.2 b o e
  exact⟨sl,other b _ nx e'⟩
 ·have:t=h1.objs.size:=by simpa using ht
  rw[this];exact Nat.le_of_eq q1.1.symm
theorem YR{base:Heap}{env e0:Env}{outer:List Env}{L x:Addr}{cls:Value}{d T:Option Addr}{fl:Value}{Q:Unit->Shared->Prop}
  (hfr:A.frames=some (e0::outer)) (hl:s.heap.FunFrames base (e0::outer)) (hf:env.frame=some L) (h0:e0.frame=some L) (hx:z5p s.heap x cls d T fl) (hfl:fl=.none\/fl=rawInt L)
  (h:∀h' t,XTr h' x t cls d (rawInt L)->XMove ((e0::outer).filterMap (·.frame)) x T (some t) s.heap h'->Q () {s with heap:=h'}):wpAny M A (noteFrame (.ref x) env) Q E s:=by
 unfold noteFrame
 simp only[hf]
 cases T with
 |none=>
  obtain⟨⟨oe,vs,a0,ho,hc,hd,hv0,hv1⟩,_⟩:=hx
  refine wpAny_bind (wpAny_field ho hd hv1 ?_)
  rw[if_neg (by decide)]
  exact ud (T:=none) hfr hl hf h0 ho hc hd hv0 (Array.getElem?_eq_some_iff.mp hv1).1 λh' t a b _=>h h' t a b
 |some T=>
  obtain⟨oe,vs,a0,oT,ts,ho,hc,hd,hv0,hv1,hT,hoT,hdT,h3⟩:=hx
  refine wpAny_bind (wpAny_field ho hd hv1 ?_)
  rw[if_pos (show (Value.ref T != Value.none)=true from by simp)]
  refine wpAny_bind (wpAny_field hoT hdT h3 ?_)
  by_cases hq:fl=rawInt L
  ·subst hq
   rw[if_pos (show (rawInt L == rawInt L)=true from by simp)]
   exact wpAny_pure (h s.heap T ⟨oe,vs,a0,oT,ts,ho,hc,hd,hv0,hv1,hT,hoT,hdT,h3⟩ (XMove.refl _ _ _ _))
  ·obtain rfl:fl=.none:=hfl.resolve_right hq
   rw[if_neg (show ¬((Value.none == rawInt L)=true) from by simp[rawInt])]
   refine wpAny_bind (wpAny_setField hoT hdT (Array.getElem?_eq_some_iff.mp h3).1 ?_)
   have oth:∀b,b≠T->(s.heap.update T (Obj.mapFields (·.setIfInBounds 3 Value.none))).get? b=s.heap.get? b:=λb hb=>Heap.get?_update_other _ _ (Ne.symm hb)
   have fr:∀b∈(e0::outer).filterMap (·.frame),b≠T:=λb hb z=>by
    obtain⟨_,o,ho',nf⟩:=hl.mem hb
    rw[z,hoT] at ho';cases ho';exact nf ts hdT
   refine ud (T:=some T) (s:={s with heap:=s.heap.update T (Obj.mapFields (·.setIfInBounds 3 Value.none))}) (base:=base) hfr (hl.of_keeps λb o e nf=>⟨o,(oth b λz=>?_).trans e,rfl⟩) hf h0 ((oth x (Ne.symm hT)).trans ho) hc hd hv0 (Array.getElem?_eq_some_iff.mp hv1).1 λh' t a b c=>h h' t a ⟨?_,?_,?_⟩
   ·rw[z,hoT] at e;cases e;exact nf ts hdT
   ·exact λd o e n1 n2 n3=>b.keep d o ((oth d λz=>n3 (by simp[z])).trans e) n1 n2 n3
   ·exact λd o e n1 n2 n3=>b.slot d o ((oth d λz=>n3 (by simp[z])).trans e) n1 n2 n3
   ·intro t' ht'
    rcases b.newT t' ht' with z|z
    ·exact .inl z
    ·refine .inr (Nat.le_trans (Nat.le_of_eq ?_) z)
     exact (Heap.size_after_update ..).symm
theorem Vi{x T:Addr}{cls fl:Value}{d fr:Option Addr}{fs:List Addr}{Q:Unit->Shared->Prop}(hx:XTr s.heap x T cls d fl)
  (h:∀h',XTr h' x T cls d (fr.elim .none λf=>rawInt f)->XMove fs x (some T) (some T) s.heap h'->Q () {s with heap:=h'}):wpAny M A (setFlight (.ref x) fr) Q E s:=by
 obtain⟨oe,vs,a0,oT,ts,ho,hc,hd,hv0,hv1,hT,hoT,hdT,h3⟩:=hx
 have sz:3<ts.size:=(Array.getElem?_eq_some_iff.mp h3).1
 unfold setFlight
 refine wpAny_bind (wpAny_field ho hd hv1 ?_)
 rw[if_pos (show (Value.ref T != Value.none)=true from by simp)]
 refine wpAny_setField hoT hdT sz ?_
 have oth:∀b,b≠T->(s.heap.update T (Obj.mapFields (·.setIfInBounds 3 (fr.elim .none λf=>rawInt f)))).get? b=s.heap.get? b:=λb hb=>Heap.get?_update_other _ _ (Ne.symm hb)
 have dT:=Obj.data_mapFields hdT (·.setIfInBounds 3 (fr.elim Value.none λf=>rawInt f))
 exact h _ ⟨oe,vs,a0,_,_,(oth x (Ne.symm hT)).trans ho,hc,hd,hv0,hv1,hT,Heap.get?_update_self _ hoT (Obj.isFreed_of_fields dT),dT,by simp[sz]⟩
  ⟨λb o e _ _ n=>(oth b λz=>n (by simp[z])).trans e,λb o e _ _ n=>⟨o.slots,(oth b λz=>n (by simp[z])).trans e⟩,λt ht=>.inl ht⟩
end
end NH
end
section
namespace NH
open PySem PySem.Spec PyProof.Rows L2
noncomputable abbrev St:=L2.St
theorem ZM{P:Program}{w:World}{H:Hp}{h:Heap}{a:Addr}{o:HO}(x:ObjOk P w H h a o):∃ob,h.get? a=some ob:=by
 cases o with
 |lst xs=>obtain⟨_,_,_,_,e⟩:=x;exact⟨_,e⟩
 |tup xs=>obtain⟨_,_,_,ob,e,_⟩:=x;exact⟨ob,e⟩
 |dK kvs=>obtain⟨_,_,_,_,o,_,_,e,_⟩:=x;exact⟨o,e⟩
 |dT kvs=>obtain⟨_,_,_,_,o,_,_,e,_⟩:=x;exact⟨o,e⟩
 |set S n=>obtain⟨o,_,_,_,e,_⟩:=x;exact⟨o,e⟩
 |ins C dx fs=>obtain⟨_,_,_,e,_⟩:=x;exact⟨_,e⟩
 |own y=>obtain⟨o,e⟩:=x;exact⟨o,e⟩
 |xd fs=>obtain⟨_,⟨o,_,_,e,_⟩,_⟩:=x;exact⟨o,e⟩
 |rng lo hi=>obtain⟨_,_,_,e⟩:=x;exact⟨_,e⟩
 |frz ob u=>obtain⟨e,_⟩:=x;exact⟨_,e⟩
 |tbl ps=>exact⟨_,(show h.get? a=some _ from x)⟩
 |met f y=>exact⟨_,(show h.get? a=some _ from x)⟩
 |ext φ=>obtain⟨_,⟨o,e⟩,_⟩:=x;exact⟨o,e⟩
structure XOk(X:Cx)(H:Hp)(b:Addr):Prop where
 free:H b=none
 loc:b≠X.env.locals
 nfs:b∉X.fs
 new:b∈X.ex\/X.s₀.heap.get? b=none
 cel:∀x c,X.env.cells.lookup x=some c->c≠b
 pin:∀p∈X.pn,p.1≠b
section
variable {X:Cx}{pins:List (Addr×Obj)}{σ:St}{H H':Hp}{s:Shared}{h':Heap}
theorem Wo(I:Inv X pins σ H s){b:Addr}(e:s.heap.get? b=none):H b=none:=by
 cases q:H b with
 |none=>rfl
 |some o=>
  obtain⟨ob,z⟩:=ZM (I.hok b o q)
  rw[e] at z;cases z
theorem v7(I:Inv X pins σ H s){b:Addr}(e:s.heap.get? b=none):XOk X H b:=by
 refine⟨Wo I e,λz=>?_,λz=>?_,?_,λx c q z=>?_,λp hp z=>?_⟩
 ·obtain⟨m,⟨o,_,_,ho,_⟩,_⟩:=I.loc
  rw[←z,e] at ho;cases ho
 ·obtain⟨_,o,ho,_⟩:=I.funs.mem z
  rw[e] at ho;cases ho
 ·by_cases hx:b∈X.ex
  ·exact .inl hx
  ·refine .inr ?_
   cases q:X.s₀.heap.get? b with
   |none=>rfl
   |some o=>
    obtain⟨o',z⟩:=I.base.there b o q hx
    rw[e] at z;cases z
 ·obtain⟨v,o,ho,_⟩:=I.cell x c q
  rw[z,e] at ho;cases ho
 ·have:=(I.pin p (List.mem_append_left _ hp)).1
  rw[z,e] at this;cases this
theorem W6{ch:List Addr}(I:Inv X pins σ H s)(hch:∀b∈ch,XOk X H b/\∀p∈pins,p.1≠b)
  (keep:∀b o,b∉frs X.stack->b∉ch->s.heap.get? b=some o->h'.get? b=some o)
  (slot:∀b o,b∈frs X.stack->b∉ch->s.heap.get? b=some o->∃sl,h'.get? b=some {o with slots:=sl}) :
  Inv X pins σ H {s with heap:=h'}:=by
 have tr:∀b u,H b=some u->b∉ch:=λb u e z=>by rw[(hch b z).1.free] at e;cases e
 have trf:∀b u,H b=some u->b∉frs X.stack:=λb u e z=>by rw[I.stkFree b z] at e;cases e
 have any:∀b o,b∉ch->s.heap.get? b=some o->∃sl,h'.get? b=some {o with slots:=sl}:=λb o hb e=>by
  by_cases hf:b∈frs X.stack
  ·exact slot b o hf hb e
  ·exact⟨o.slots,keep b o hf hb e⟩
 have inf:∀b,b≠X.env.locals->b∉X.fs->b∉frs X.stack:=λb h1 h2 z=>(List.mem_cons.mp (I.stkSub b z)).elim h1 h2
 have nec:∀b o,X.s₀.heap.get? b=some o->b∉X.ex->b∉ch:=λb o e hx z=>by
  rcases (hch b z).1.new with q|q
  ·exact hx q
  ·rw[e] at q;cases q
 have neL:∀b o,X.s₀.heap.get? b=some o->b≠X.env.locals:=λb o e=>Nat.ne_of_lt (Nat.lt_of_lt_of_le (Heap.lt_size e) I.ok.above)
 have cellK:∀x c,X.env.cells.lookup x=some c->∀v,s.heap.IsCell c v->h'.IsCell c v:=λx c e v ⟨o,ho,hd⟩=>by
  obtain⟨sl,q⟩:=any c o (λz=>(hch c z).1.cel x c e rfl) ho
  exact⟨_,q,hd⟩
 refine⟨I.ok,I.os,I.bare,⟨λb o e n hb hx=>?_,λb o e n hb hx=>?_,λb o e n hx=>I.base.free b o e n hx,λb o e hx=>?_,λb xs e=>I.base.tups b xs e,λb o xs e=>I.base.frzs b o xs e,λb ps e=>I.base.tbls b ps e⟩,?_,λx c e=>?_,I.free,λx c e=>I.freeC x c e,λp hp=>?_,λb u e=>?_,I.len⟩
 ·exact keep b o (inf b (neL b o e) hb) (nec b o e hx) (I.base.keep b o e n hb hx)
 ·obtain⟨sl,e1⟩:=I.base.slot b o e n hb hx
  obtain⟨sl',e2⟩:=any b _ (nec b o e hx) e1
  exact⟨sl',e2⟩
 ·obtain⟨o',e1⟩:=I.base.there b o e hx
  obtain⟨sl,e2⟩:=any b o' (nec b o e hx) e1
  exact⟨_,e2⟩
 ·obtain⟨m,⟨o,es,ep,ho,r⟩,hl⟩:=I.loc
  obtain⟨sl,hL⟩:=any X.env.locals o (λz=>(hch _ z).1.loc rfl) ho
  refine⟨m,⟨_,es,ep,hL,r⟩,λi x v e1 e2 e3=>?_⟩
  obtain⟨u,ru,l⟩:=hl i x v e1 e2 e3
  refine⟨u,ru,?_⟩
  rcases l with l|⟨k,c,e,z⟩
  ·exact .inl l
  ·exact .inr ⟨k,c,e,cellK x c e _ z⟩
 ·obtain⟨v,z⟩:=I.cell x c e
  exact⟨v,cellK x c e v z⟩
 ·obtain⟨e,n,ne,nf,d⟩:=I.pin p hp
  have nch:p.1∉ch:=λz=>by
   rcases List.mem_append.mp hp with q|q
   ·exact (hch p.1 z).1.pin p q rfl
   ·exact (hch p.1 z).2 p q rfl
  exact⟨keep p.1 p.2 (inf p.1 ne nf) nch e,n,ne,nf,d⟩
 ·refine (I.hok b u e).stay (λc v hc q=>?_) (λ_ q=>q) λ_ _ q=>q
  rcases hc with z|z
  ·subst z;exact keep c v (trf c u e) (tr c u e) q
  ·exact keep c v (trf c _ z) (tr c _ z) q
structure Frm(X:Cx)(e0:Env)(out:List Env)(L:Addr):Prop where
 stk:X.stack=e0::out
 f0:e0.frame=some L
 fe:X.env.frame=some L
noncomputable abbrev XW:=Value->Option Addr->St->Hp->Prop
noncomputable def XP (X:Cx)(W:XW)(e:Value)(s:Shared):Prop:=
 ∃(x:Addr) (cls:Value) (d:Option Addr) (σ:St) (H:Hp) (T:Option Addr) (fl:Value),e=.ref x/\Inv X [] σ H s/\XOk X H x/\(∀t∈T.toList,XOk X H t)/\z5p s.heap x cls d T fl/\(fl=.none\/∃L,X.env.frame=some L/\fl=rawInt L)/\W cls d σ H
theorem JM{x:Addr}{T:Option Addr}{t:Addr}(I:Inv X [] σ H s)(ox:XOk X H x)(ot:∀t∈T.toList,XOk X H t)(mv:XMove (frs X.stack) x T (some t) s.heap h') :
  Inv X [] σ H {s with heap:=h'}/\XOk X H t:=by
 refine⟨W6 (ch:=x::T.toList) I (λb hb=>⟨?_,λp hp=>absurd hp (by simp)⟩) (λb o hf hc e=>?_) (λb o hf hc e=>?_),?_⟩
 ·rcases List.mem_cons.mp hb with z|z
  ·rw[z];exact ox
  ·exact ot b z
 ·exact mv.keep b o e hf (λz=>hc (by simp[z])) (λz=>hc (List.mem_cons_of_mem _ z))
 ·exact mv.slot b o e hf (λz=>hc (by simp[z])) (λz=>hc (List.mem_cons_of_mem _ z))
 ·rcases mv.newT t (by simp) with z|z
  ·exact ot t z
  ·exact v7 I (Heap.get?_none_of_le z)
theorem Qj{M:Model}{A:Around}{E:Value->Shared->Prop}{W:XW}{e:Value}{e0:Env}{out:List Env}{L:Addr}{Q:Unit->Shared->Prop}(F:Frm X e0 out L)(hfr:A.frames=some X.stack)(p:XP X W e s)
  (h:∀x cls d σ H T h',e=.ref x->Inv X [] σ H {s with heap:=h'}->XOk X H x->XOk X H T->XTr h' x T cls d (rawInt L)->W cls d σ H->Q () {s with heap:=h'}):wpAny M A (noteFrame e X.env) Q E s:=by
 obtain⟨x,cls,d,σ,H,T,fl,rfl,I,ox,ot,hr,hfl,w⟩:=p
 have hst:=I.stack
 rw[F.stk] at hfr hst
 refine YR hfr hst F.fe F.f0 hr (hfl.imp_right λ⟨L',e1,e2⟩=>by rw[F.fe] at e1;cases e1;exact e2) λh' t tr mv=>?_
 have mv':XMove (frs X.stack) x T (some t) s.heap h':=by rw[F.stk];exact mv
 obtain⟨I',o'⟩:=JM I ox ot mv'
 exact h x cls d σ H t h' rfl I' ox o' tr w
theorem xk{M:Model}{A:Around}{E:Value->Shared->Prop}{x T:Addr}{cls fl:Value}{d fr:Option Addr}{Q:Unit->Shared->Prop}(I:Inv X [] σ H s)(ox:XOk X H x)(oT:XOk X H T)(tr:XTr s.heap x T cls d fl)
  (h:∀h',Inv X [] σ H {s with heap:=h'}->XTr h' x T cls d (fr.elim .none λf=>rawInt f)->Q () {s with heap:=h'}):wpAny M A (setFlight (.ref x) fr) Q E s:=by
 refine Vi (fs:=frs X.stack) tr λh' tr' mv=>h h' (JM (T:=some T) I ox (λt ht=>?_) mv).1 tr'
 have:t=T:=by simpa using ht
 rw[this];exact oT
theorem Ks{W:XW}{M:Model}{e0:Env}{out:List Env}{L:Addr}(F:Frm X e0 out L)(hfr:X.A.frames=some X.stack):PassesOwn M X.A X.env (XP X W):=by
 intro e s p
 unfold notedBy
 refine Qj F hfr p λx cls d σ H T h' ee I ox oT tr w=>?_
 subst ee
 unfold cameBackBy
 obtain⟨oe,vs,a0,oT',ts,ho,hc,hd,hv0,hv1,hT,hoT,hdT,h3⟩:=id tr
 refine wpAny_bind (wpAny_field ho hd hv1 ?_)
 rw[if_neg (show ¬((Value.ref T == Value.none)=true) from by simp)]
 rw[F.fe]
 have go:wpAny M X.A (setFlight (.ref x) (some L)) (λ_ s''=>XP X W (.ref x) s'') (XP X W) {s with heap:=h'}:=
  xk (s:={s with heap:=h'}) I ox oT tr λh2 I2 tr2=>⟨x,cls,d,σ,H,some T,rawInt L,rfl,I2,ox,λt ht=>by
   have:t=T:=by simpa using ht
   rw[this];exact oT,tr2,.inr ⟨L,F.fe,rfl⟩,w⟩
 first|exact go|exact wpAny_bind (wpAny_pure go)
noncomputable def CX1 (P:Program)(w:World):CXT:=λouter H s E e s'=>
 ∃(x T:Addr) (cls:Value) (d:Option Addr) (H':Hp),e=.ref x/\s'.os=s.os/\AllBare s'.gens/\Un (frs outer) [] H H' s.heap s'.heap/\HOk P w H' s'.heap/\s.heap.get? x=none/\s.heap.get? T=none/\H' x=none/\H' T=none/\XTr s'.heap x T cls d .none/\E cls d H'
noncomputable def wOf (E:XK):XW:=λc d _ H=>E c d H
theorem U1{M:Model}{E:XK}{e:Value}{e0:Env}{out:List Env}{L:Addr}{F2:Value->Shared->Prop}(F:Frm X e0 out L)(hfr:X.A.frames=some X.stack)(hex:X.ex=[])(p:XP X (wOf E) e s) :
  wpAny M X.A (leaving X.env e) (λ_ s''=>CX1 X.prog X.w X.outer X.H₀ X.s₀ E e s'') F2 s:=by
 unfold leaving
 refine wpAny_bind (Qj F hfr p λx cls d σ H T h' ee I ox oT tr w=>?_)
 subst ee
 refine xk (s:={s with heap:=h'}) I ox oT tr λh2 I2 tr2=>?_
 have nw:∀b,XOk X H b->X.s₀.heap.get? b=none:=λb o=>o.new.resolve_left (by rw[hex];simp)
 refine⟨x,T,cls,d,H,rfl,I2.os,I2.bare,?_,I2.hok,nw x ox,nw T oT,ox.free,oT.free,tr2,w⟩
 have:=I2.base
 rw[hex] at this
 exact this
theorem y0{E:XK}{W:XW}{e:Value}{s':Shared}(I:Inv X pins σ H s)(c:CX1 X.prog X.w X.stack H s E e s')(h:∀cls d H',E cls d H'->W cls d σ H'):XP X W e s':=by
 obtain⟨x,T,cls,d,H',rfl,os,bare,un,hok,nx,nT,fx,fT,tr,w⟩:=c
 have J:Inv X pins σ H' s':=I.call' (ch:=[]) os un hok bare λb z=>absurd z (by simp)
 have k:∀b,s.heap.get? b=none->H' b=none->XOk X H' b:=λb e f=>by
  have o:=v7 I e
  exact⟨f,o.loc,o.nfs,o.new,o.cel,o.pin⟩
 refine⟨x,cls,d,σ,H',some T,.none,rfl,J.pins_of (λp hp=>absurd hp (by simp)),k x nx fx,λt ht=>?_,tr,.inl rfl,h cls d H' w⟩
 have:t=T:=by simpa using ht
 rw[this];exact k T nT fT
theorem z0C{W:XW}{x:Addr}{cls:Value}{args:List Value}{h2:Heap}(I:Inv X pins σ H s)(mk:Heap.MadeExcOf s.heap h2 x cls args)(w:W cls none σ H):XP X W (.ref x) {s with heap:=h2}:=by
 have J:Inv X pins σ H {s with heap:=h2,toks:=s.toks}:=I.kept mk.keeps
 obtain⟨t,ho,_,_⟩:=mk.there
 exact⟨x,cls,none,σ,H,none,.none,rfl,J.pins_of (λp hp=>absurd hp (by simp)),v7 I mk.new,λt ht=>absurd ht (by simp),⟨⟨_,_,.ref t,ho,⟨rfl,rfl⟩,rfl,rfl,rfl⟩,rfl⟩,.inl rfl,w⟩
noncomputable abbrev Cx.pin'(X:Cx)(pins:List (Addr×Obj)):Cx:={X with pn:=X.pn++pins}
theorem z1T(ok:X.Ok):(Cx.pin' X pins).Ok:=⟨ok.mod,ok.kind,ok.glob,ok.blt,ok.above,ok.inj,ok.has,ok.cab,ok.hd,ok.frames,ok.stk,ok.exf,ok.bs,ok.bsz,ok.noex,ok.exfs,ok.funs,ok.frf⟩
theorem Uo(ok:(Cx.pin' X pins).Ok):X.Ok:=⟨ok.mod,ok.kind,ok.glob,ok.blt,ok.above,ok.inj,ok.has,ok.cab,ok.hd,ok.frames,ok.stk,ok.exf,ok.bs,ok.bsz,ok.noex,ok.exfs,ok.funs,ok.frf⟩
theorem Y3(I:Inv X pins σ H s):Inv (Cx.pin' X pins) [] σ H s:=⟨z1T I.ok,I.os,I.bare,I.base,I.loc,I.cell,I.free,I.freeC,λp hp=>I.pin p (by simpa using hp),I.hok,I.len⟩
theorem yX(I:Inv (Cx.pin' X pins) [] σ H s):Inv X pins σ H s:=⟨Uo I.ok,I.os,I.bare,I.base,I.loc,I.cell,I.free,I.freeC,λp hp=>I.pin p (by simpa using hp),I.hok,I.len⟩
theorem Zq{E:Value->Shared->Prop}{W:XW}{e:Value}(p:XP (X.wish E) W e s):XP X W e s:=by
 obtain⟨x,cls,d,σ,H,T,fl,a,I,b,c,r⟩:=p
 exact⟨x,cls,d,σ,H,T,fl,a,I.unwish,⟨b.free,b.loc,b.nfs,b.new,b.cel,b.pin⟩,λt ht=>let b:=c t ht;⟨b.free,b.loc,b.nfs,b.new,b.cel,b.pin⟩,r⟩
end
end NH
end
section
namespace NH
open PySem
inductive T where
 |non|bl (b:Bool)|int (i:Int)|str (x:Str)
 |tup (ts:List T)|lst (ts:List T)|obj (c:Nat) (fs:List (Nat×T))
 |mut (i:Nat)
 |exc (c:Nat) (fs:List (Nat×T))
 |dic (kvs:List (L2.Key×T))
 |clo (j:Nat) (cs:List T)
inductive MO where
 |lst (ts:List T)|obj (c:Nat) (fs:List (Nat×T))|dic (kvs:List (L2.Key×T))
 |tab (j:Nat)
noncomputable abbrev z1p:MO->Bool
 |.tab _=>true
 |_=>false
noncomputable abbrev Mem:=List MO
noncomputable abbrev Sl:=List (Option T)
mutual
def vy:T->Bool
 |.mut _=>false
 |.tup ts=>yp ts
 |.lst ts=>yp ts
 |.obj _ fs=>xF fs
 |.exc _ fs=>xF fs
 |.dic kvs=>JI kvs
 |.clo _ cs=>yp cs
 |_=>true
def yp:List T->Bool
 |[]=>true
 |t::r=>vy t&&yp r
def xF:List (Nat×T)->Bool
 |[]=>true
 |p::r=>vy p.2&&xF r
def JI:List (L2.Key×T)->Bool
 |[]=>true
 |p::r=>vy p.2&&JI r
end
noncomputable abbrev Xp:=Nat->List (Nat×T)->Mem->Prop
noncomputable abbrev RE(β:Type):=(β->Mem->Prop)->Xp->Prop
noncomputable abbrev RE.ok{β:Type}(a:β)(μ:Mem):RE β:=λK _=>K a μ
noncomputable abbrev RE.st{β:Type}:RE β:=λ_ _=>False
noncomputable abbrev RE.bind{β γ:Type}(r:RE γ)(k:γ->Mem->RE β):RE β:=λK Z=>r (λa μ=>k a μ K Z) Z
noncomputable abbrev RE.grd{β:Type}(p:Prop)(r:RE β):RE β:=λK Z=>p/\r K Z
noncomputable abbrev RE.som{β γ:Type}(o:Option γ)(k:γ->RE β):RE β:=λK Z=>∃a,o=some a/\k a K Z
@[reducible] noncomputable def brW(b:Bool)(A B:Prop):Prop:=match b with
 |true=>A
 |false=>B
noncomputable abbrev RE.br{β:Type}(b:Bool)(r s:RE β):RE β:=λK Z=>brW b (r K Z) (s K Z)
structure En where
 nx:Sl->Mem->Prop
 rt:T->Mem->Prop
 bk:Sl->Mem->Prop
 ct:Sl->Mem->Prop
 ex:Nat->List (Nat×T)->Sl->Mem->Prop
noncomputable abbrev Out:=En->Prop
noncomputable abbrev En.nxt(E:En)(f:Sl->Mem->Prop):En:=⟨f,E.rt,E.bk,E.ct,E.ex⟩
noncomputable abbrev En.turn(E:En)(N:Sl->Mem->Prop):En:=⟨N,E.rt,E.nx,N,E.ex⟩
noncomputable abbrev En.fn(K:T->Mem->Prop)(Z:Xp):En:=⟨λ_ μ1=>K .non μ1,K,λ_ _=>False,λ_ _=>False,λc fs _ μ1=>Z c fs μ1⟩
noncomputable abbrev Out.nx(τ:Sl)(μ:Mem):Out:=λE=>E.nx τ μ
noncomputable abbrev Out.rt(t:T)(μ:Mem):Out:=λE=>E.rt t μ
noncomputable abbrev Out.ex(c:Nat)(fs:List (Nat×T))(τ:Sl)(μ:Mem):Out:=λE=>E.ex c fs τ μ
noncomputable abbrev Out.st:Out:=λ_=>False
noncomputable abbrev Out.grd(p:Prop)(o:Out):Out:=λE=>p/\o E
noncomputable abbrev Out.som{γ:Type}(o:Option γ)(k:γ->Out):Out:=λE=>∃a,o=some a/\k a E
noncomputable abbrev Out.br(b:Bool)(r s:Out):Out:=λE=>brW b (r E) (s E)
noncomputable abbrev Out.seq(o:Out)(f:Sl->Mem->Out):Out:=λE=>o (E.nxt λτ μ=>f τ μ E)
noncomputable abbrev RE.out{β:Type}(r:RE β)(τ:Sl)(f:β->Mem->Out):Out:=λE=>r (λa μ=>f a μ E) (λc fs μ=>E.ex c fs τ μ)
noncomputable abbrev Fn:=List T->Mem->RE T
noncomputable abbrev De:=Sl->Mem->RE T
noncomputable abbrev Dt:=Sl->Mem->RE Bool
noncomputable abbrev Da:=Sl->Mem->RE (List T)
noncomputable abbrev Ds:=Sl->Mem->Out
noncomputable abbrev RI:=(List T->(Mem->Prop)->Mem->Prop)->Xp->Prop
noncomputable abbrev RI.ok(xs:List T)(o:Mem->Prop)(μ:Mem):RI:=λK _=>K xs o μ
noncomputable abbrev RI.st:RI:=λ_ _=>False
noncomputable abbrev RI.grd(p:Prop)(r:RI):RI:=λK Z=>p/\r K Z
noncomputable abbrev RI.go{β:Type}(r:RI)(k:List T->(Mem->Prop)->Mem->RE β):RE β:=λK Z=>r (λxs o μ=>k xs o μ K Z) Z
noncomputable abbrev RI.out(r:RI)(τ:Sl)(f:List T->(Mem->Prop)->Mem->Out):Out:=λE=>r (λxs o μ=>f xs o μ E) (λc fs μ=>E.ex c fs τ μ)
noncomputable abbrev RI.re(r:RI):RE (List T×(Mem->Prop)):=λK Z=>r (λxs o μ=>K (xs,o) μ) Z
noncomputable abbrev RE.it{β:Type}(r:RE β)(k:β->Mem->RI):RI:=λK Z=>r (λa μ=>k a μ K Z) Z
noncomputable abbrev Di:=Sl->Mem->RI
abbrev lvT:Mem->Prop:=λ_=>True
abbrev lvM(i:Nat)(xs:List T):Mem->Prop:=λμ=>μ[i]?=some (.lst xs)
inductive GM where
 |fn (f:Fn)
 |fnh (nm:Str) (f:Fn)
 |met (c:Nat) (nm:Str) (f:Fn)
 |mk (c:Nat) (frozen:Bool) (f:Fn)
 |cst (t:T)
 |xcl (c:Nat)
 |xcf (c:Nat) (f:Nat)
 |xin (c f:Nat) (nm fl:Str)
 |mkd (c:Nat) (nm:Str) (n:Nat) (f:Fn)
 |metd (c:Nat) (nm:Str) (n:Nat) (d:T) (f:Fn)
 |kpr
 |none
 |bad
noncomputable abbrev KR(τ:Sl):Nat->Option T:=List.rec (motive:=λ_=>Nat->Option T) (λ_=>none) (λo _ ih i=>Nat.rec (motive:=λ_=>Option T) o (λn _=>ih n) i) τ
noncomputable abbrev xW(τ:Sl):Nat->Option T->Sl:=List.rec (motive:=λ_=>Nat->Option T->Sl) (λ_ _=>[]) (λo r ih i t=>Nat.rec (motive:=λ_=>Sl) (t::r) (λn _=>o::ih n t) i) τ
theorem J8:∀{τ:Sl} {i:Nat} {t:T},KR τ i=some t↔τ[i]?=some (some t)
 |[],_,_=>by simp
 |o::r,0,t=>by show o=some t↔_;simp
 |o::r,n+1,t=>by
  show KR r n=some t↔_
  rw[J8 (τ:=r) (i:=n)];simp
theorem Q0:∀{τ:Sl} {i:Nat} {t:Option T},xW τ i t=τ.set i t
 |[],_,_=>by simp
 |o::r,0,t=>rfl
 |o::r,n+1,t=>by
  show o::xW r n t=_
  rw[Q0 (τ:=r) (i:=n)];simp
noncomputable abbrev WW(fs:List (Nat×T)):Nat->Option T:=List.rec (motive:=λ_=>Nat->Option T) (λ_=>none) (λp _ ih i=>Bool.rec (motive:=λ_=>Option T) (ih i) (some p.2) (Nat.beq p.1 i)) fs
noncomputable abbrev Kh(f:Nat)(v:T)(fs:List (Nat×T)):List (Nat×T):=List.rec (motive:=λ_=>List (Nat×T)) [(f,v)] (λp r ih=>Bool.rec (motive:=λ_=>List (Nat×T)) (p::ih) ((p.1,v)::r) (Nat.beq p.1 f)) fs
theorem KU{p:Nat×T}{r:List (Nat×T)}{i:Nat}:WW (p::r) i=match Nat.beq p.1 i with
  |true=>some p.2
  |false=>WW r i:=by
 show (Bool.rec (WW r i) (some p.2) (Nat.beq p.1 i):Option T)=_
 cases Nat.beq p.1 i<;>rfl
theorem KQ{f:Nat}{v:T}{p:Nat×T}{r:List (Nat×T)}:Kh f v (p::r)=match Nat.beq p.1 f with
  |true=>(p.1,v)::r
  |false=>p::Kh f v r:=by
 show (Bool.rec (p::Kh f v r) ((p.1,v)::r) (Nat.beq p.1 f):List (Nat×T))=_
 cases Nat.beq p.1 f<;>rfl
noncomputable def idx:List Str->Str->Option Nat
 |[],_=>none
 |y::r,x=>if y=x then some 0 else (idx r x).map (·+1)
noncomputable abbrev tyN:T->Mem->Option Nat
 |.non,_=>some 0
 |.bl _,_=>some 1
 |.int _,_=>some 2
 |.str _,_=>some 3
 |.tup _,_=>some 4
 |.lst _,_=>some 5
 |.dic _,_=>some 6
 |.exc c _,_=>some c
 |.obj c _,_=>some c
 |_,_=>none
noncomputable abbrev tyO:MO->Nat
 |.lst _=>5
 |.obj c _=>c
 |.dic _=>6
 |.tab _=>99
noncomputable abbrev UJ(a b:Bool):Bool:=match a with
 |true=>b
 |false=>false
noncomputable abbrev bOr(a b:Bool):Bool:=match a with
 |true=>true
 |false=>b
noncomputable abbrev jT(a c:Nat):Bool:=bOr (Nat.beq a c) (bOr (UJ (Nat.beq a 1) (Nat.beq c 2)) (UJ (Nat.ble 10 a) (UJ (Nat.ble a 39) (bOr (Nat.beq c 11) (UJ (Nat.beq c 10) (Nat.ble 12 a))))))
noncomputable abbrev isAny(t:Nat)(cs:List Nat):Bool:=List.rec (motive:=λ_=>Bool) false (λc _ ih=>bOr (jT t c) ih) cs
theorem V7{t c:Nat}{r:List Nat}:isAny t (c::r)=bOr (jT t c) (isAny t r):=rfl
noncomputable def big:Int:=18446744073709551616
noncomputable def room:Nat:=1000000
noncomputable abbrev z2B:T->T->Mem->RE T
 |.int i,.int j,μ=>.ok (.int (i+j)) μ
 |.str x,.str y,μ=>.grd (x.length+y.length<=room) (.ok (.str (x++y)) μ)
 |.lst xs,.lst ys,μ=>.grd (xs.length+ys.length<=room) (.ok (.lst (xs++ys)) μ)
 |.tup xs,.tup ys,μ=>.grd (xs.length+ys.length<=room) (.ok (.tup (xs++ys)) μ)
 |.mut i,.lst ys,μ=>λK _=>∃xs,μ[i]?=some (.lst xs)/\xs.length+ys.length<=room/\K (.lst (xs++ys)) μ
 |.lst xs,.mut j,μ=>λK _=>∃ys,μ[j]?=some (.lst ys)/\xs.length+ys.length<=room/\K (.lst (xs++ys)) μ
 |.mut i,.mut j,μ=>λK _=>∃p:List T×List T,(μ[i]?=some (.lst p.1)/\μ[j]?=some (.lst p.2))/\p.1.length+p.2.length<=room/\K (.lst (p.1++p.2)) μ
 |_,_,_=>.st
noncomputable abbrev Qv(f:Int->Int->Mem->RE T):T->T->Mem->RE T
 |.int i,.int j,μ=>f i j μ
 |_,_,_=>.st
noncomputable abbrev z4C:Operator->T->T->Mem->RE T
 |.Add=>z2B
 |.Sub=>Qv λi j μ=>.ok (.int (i-j)) μ
 |.Mult=>Qv λi j μ=>.grd ((-big<i/\i<big)\/(-big<j/\j<big)) (.ok (.int (i * j)) μ)
 |.FloorDiv=>Qv λi j μ=>.grd (0<j/\j<1606938044258990275541962092341162602522202993782792835301376) (.ok (.int (i / j)) μ)
 |.Mod=>Qv λi j μ=>.grd (0<j) (.ok (.int (i % j)) μ)
 |.Pow=>Qv λi j μ=>.grd (0<=j/\j<=1000000/\i.natAbs<18446744073709551616) (.ok (.int (i ^ j.toNat)) μ)
 |.RShift=>Qv λi j μ=>.grd (0<=j) (.ok (.int (i / 2 ^ j.toNat)) μ)
 |.BitAnd=>Qv λi j μ=>.ok (.int (Builtin.bitAnd i j)) μ
 |_=>λ_ _ _=>.st
mutual
def eqT:T->T->Option Bool
 |.int i,b=>match b with
  |.int j=>some (i == j)
  |.bl k=>some (i == (if k then 1 else 0))
  |.str _=>some false
  |.non=>some false
  |.tup _=>some false
  |.lst _=>some false
  |_=>none
 |.bl k,b=>match b with
  |.int j=>some ((if k then 1 else 0) == j)
  |.bl j=>some (k == j)
  |.str _=>some false
  |.non=>some false
  |.tup _=>some false
  |.lst _=>some false
  |_=>none
 |.str x,b=>match b with
  |.str y=>some (x == y)
  |.int _=>some false
  |.bl _=>some false
  |.non=>some false
  |.tup _=>some false
  |.lst _=>some false
  |_=>none
 |.non,b=>match b with
  |.non=>some true
  |.int _=>some false
  |.bl _=>some false
  |.str _=>some false
  |.tup _=>some false
  |.lst _=>some false
  |_=>none
 |.tup xs,b=>match b with
  |.tup ys=>eqL xs ys
  |.non=>some false
  |.int _=>some false
  |.bl _=>some false
  |.str _=>some false
  |.lst _=>some false
  |_=>none
 |.lst xs,b=>match b with
  |.lst ys=>eqL xs ys
  |.non=>some false
  |.int _=>some false
  |.bl _=>some false
  |.str _=>some false
  |.tup _=>some false
  |_=>none
 |_,_=>none
def eqL:List T->List T->Option Bool
 |[],[]=>some true
 |[],_::_=>some false
 |_::_,[]=>some false
 |x::xs,y::ys=>match eqT x y,eqL xs ys with
  |some a,some b=>some (a&&b)
  |_,_=>none
end
mutual
def jn:T->Nat
 |.tup ts=>qH ts+1
 |.lst ts=>qH ts+1
 |_=>0
def qH:List T->Nat
 |[]=>0
 |t::r=>max (jn t) (qH r)
end
noncomputable abbrev scT:T->T->Option Bool
 |.non,.non=>some true
 |.non,.int _=>some false|.int _,.non=>some false|.non,.bl _=>some false|.bl _,.non=>some false|.non,.str _=>some false|.str _,.non=>some false
 |.int i,.int j=>some (decide (i=j))|.bl i,.bl j=>some (decide (i=j))|.str i,.str j=>some (decide (i=j))
 |.int _,.str _=>some false|.str _,.int _=>some false|.bl _,.str _=>some false|.str _,.bl _=>some false
 |_,_=>none
noncomputable abbrev eqW(x y:T)(μ:Mem)(k:Bool->RE T):RE T:=match x,y with
 |.tup xs,.tup ys=>.grd (qH xs<=40) (.som (eqL xs ys) k)
 |.lst xs,.lst ys=>.grd (qH xs<=40) (.som (eqL xs ys) k)
 |.mut i,.lst ys=>λK Z=>∃xs,μ[i]?=some (.lst xs)/\RE.grd (qH xs<=40) (.som (eqL xs ys) k) K Z
 |.lst xs,.mut j=>λK Z=>∃ys,μ[j]?=some (.lst ys)/\RE.grd (qH xs<=40) (.som (eqL xs ys) k) K Z
 |.mut i,.mut j=>λK Z=>∃p:List T×List T,(μ[i]?=some (.lst p.1)/\μ[j]?=some (.lst p.2))/\RE.grd (qH p.1<=40) (.som (eqL p.1 p.2) k) K Z
 |x,y=>match scT x y with
  |some b=>k b
  |none=>.st
noncomputable def intsOf:List T->Option (List Int)
 |[]=>some []
 |.int i::r=>(intsOf r).map (i::·)
 |_::_=>none
noncomputable abbrev ltW(x y:T)(k:Bool->RE T):RE T:=match x,y with
 |.int i,.int j=>k (decide (i<j))
 |.tup xs,.tup ys=>.som (intsOf xs) λns=>.som (intsOf ys) λms=>k (HT.lexLt ns ms)
 |.str a,.str b=>k (decide (a.cps.toList<b.cps.toList))
 |_,_=>.st
noncomputable abbrev uS(op:CmpOp)(x y:T)(μ:Mem):RE T:=
 match op with
 |.Eq=>eqW x y μ λb=>.ok (.bl b) μ
 |.NotEq=>eqW x y μ λb=>.ok (.bl (!b)) μ
 |.Lt=>ltW x y λb=>.ok (.bl b) μ
 |.LtE=>match x,y with|.int i,.int j=>.ok (.bl (decide (i<=j))) μ|_,_=>.st
 |.Gt=>match x,y with|.int i,.int j=>.ok (.bl (decide (j<i))) μ|_,_=>.st
 |.GtE=>match x,y with|.int i,.int j=>.ok (.bl (decide (j<=i))) μ|_,_=>.st
 |.Is=>(match y with
  |.non=>.ok (.bl (match x with|.non=>true|_=>false)) μ
  |.bl b=>(match x with|.bl a=>.ok (.bl (decide (a=b))) μ|_=>.st)
  |_=>.st)
 |.IsNot=>(match y with
  |.non=>.ok (.bl (match x with|.non=>false|_=>true)) μ
  |.bl b=>(match x with|.bl a=>.ok (.bl (!decide (a=b))) μ|_=>.st)
  |_=>.st)
 |.In=>(match x,y with|.str i,.str j=>.ok (.bl (!(Builtin.Str.occurrences j i 0 j.length 1).isEmpty)) μ|_,_=>.st)
 |.NotIn=>(match x,y with|.str i,.str j=>.ok (.bl (!(!(Builtin.Str.occurrences j i 0 j.length 1).isEmpty))) μ|_,_=>.st)
noncomputable abbrev jU:T->Mem->RE Bool
 |.bl b,μ=>.ok b μ
 |_,_=>.st
noncomputable abbrev eC(t:T):De:=λ_ μ=>.ok t μ
noncomputable abbrev eV(i:Nat):De:=λτ μ=>match KR τ i with
 |some t=>.ok t μ
 |none=>.st
noncomputable abbrev za(op:Operator)(f g:De):De:=λτ μ=>(f τ μ).bind λx μ1=>(g τ μ1).bind λy μ2=>z4C op x y μ2
noncomputable abbrev z4A(f:De):De:=λτ μ=>(f τ μ).bind λx μ1=>match x with|.int i=>.ok (.int (-i)) μ1|_=>.st
noncomputable abbrev z0m(f:De):De:=λτ μ=>(f τ μ).bind λx μ1=>match x with|.bl b=>.ok (.bl (!b)) μ1|_=>.st
noncomputable abbrev QJ(f g:De):De:=λτ μ=>(f τ μ).bind λx μ1=>match x with|.bl b=>.br b (g τ μ1) (.ok (.bl false) μ1)|_=>.st
noncomputable abbrev eOr(f g:De):De:=λτ μ=>(f τ μ).bind λx μ1=>match x with|.bl b=>.br b (.ok (.bl true) μ1) (g τ μ1)|_=>.st
noncomputable abbrev zu(op:CmpOp)(f g:De):De:=λτ μ=>(f τ μ).bind λx μ1=>(g τ μ1).bind λy μ2=>uS op x y μ2
noncomputable abbrev chS(op:CmpOp)(last:Bool)(ih:T->Sl->Mem->RE T)(x y:T)(τ:Sl)(μ1:Mem):RE T:=match last with
 |true=>uS op x y μ1
 |false=>(uS op x y μ1).bind λk μ2=>match k with
  |.bl b=>.br b (ih y τ μ2) (.ok (.bl false) μ2)
  |_=>.st
noncomputable abbrev YB(ps:List (CmpOp×De)):T->Sl->Mem->RE T:=List.rec (motive:=λ_=>T->Sl->Mem->RE T) (λ_ _ _=>.st) (λp r ih x τ μ=>(p.2 τ μ).bind λy μ1=>chS p.1 r.isEmpty ih x y τ μ1) ps
noncomputable abbrev eCh(f:De)(ps:List (CmpOp×De)):De:=λτ μ=>(f τ μ).bind λx μ1=>YB ps x τ μ1
noncomputable abbrev tE(f:De):Dt:=λτ μ=>(f τ μ).bind jU
noncomputable abbrev vj(f g:Dt):Dt:=λτ μ=>(f τ μ).bind λb μ1=>.br b (g τ μ1) (.ok false μ1)
noncomputable abbrev tOr(f g:Dt):Dt:=λτ μ=>(f τ μ).bind λb μ1=>.br b (.ok true μ1) (g τ μ1)
noncomputable abbrev zQ(f:Dt):Dt:=λτ μ=>(f τ μ).bind λb μ1=>.ok (!b) μ1
noncomputable abbrev eIf(c:Dt)(f g:De):De:=λτ μ=>(c τ μ).bind λb μ1=>.br b (f τ μ1) (g τ μ1)
noncomputable abbrev Qb(t:T)(f:Nat)(μ:Mem):RE T:=match t with
 |.obj _ fs=>(match WW fs f with|some v=>.ok v μ|none=>.st)
 |.mut i=>λK _=>∃c fs v,μ[i]?=some (.obj c fs)/\WW fs f=some v/\K v μ
 |_=>.st
noncomputable abbrev z9(f:De)(n:Nat):De:=λτ μ=>(f τ μ).bind λt μ1=>Qb t n μ1
noncomputable def Y5(n:Nat)(i:Int):Option Nat:=if 0<=i then (if i<n then some i.toNat else none) else if -(n:Int)<=i then some (i+n).toNat else none
noncomputable def xa {α:Type}(xs:List α)(i:Int):Option α:=(Y5 xs.length i).bind λj=>xs[j]?
noncomputable abbrev z1G(t i:T)(μ:Mem):RE T:=match i with
 |.int k=>(match t with
  |.lst ts=>.som (xa ts k) λv=>.ok v μ
  |.tup ts=>.som (xa ts k) λv=>.ok v μ
  |.mut j=>λK _=>∃ts v,μ[j]?=some (.lst ts)/\xa ts k=some v/\K v μ
  |.str z=>.grd (z.length<=room) (.som (xa z.cps.toList k) λc=>.ok (.str ⟨#[c]⟩) μ)
  |_=>.st)
 |_=>.st
noncomputable abbrev eIx(f g:De):De:=λτ μ=>(f τ μ).bind λx μ1=>(g τ μ1).bind λy μ2=>z1G x y μ2
noncomputable def K6(n d:Nat):Option Int->Nat
 |none=>d
 |some v=>if v<0 then (v+(n:Int)).toNat else min v.toNat n
noncomputable def xm {α:Type}(xs:List α)(lo hi:Option Int):List α:=(xs.drop (K6 xs.length 0 lo)).take (K6 xs.length xs.length hi-K6 xs.length 0 lo)
noncomputable abbrev Dp:=Sl->Mem->RE (Option Int)
noncomputable abbrev pN:Dp:=λ_ μ=>.ok none μ
noncomputable abbrev pS(f:De):Dp:=λτ μ=>(f τ μ).bind λt μ1=>match t with|.int i=>.ok (some i) μ1|_=>.st
noncomputable abbrev z5w(x:T)(l h:Option Int)(μ:Mem):RE T:=match x with
 |.lst xs=>.ok (.lst (xm xs l h)) μ
 |.tup xs=>.ok (.tup (xm xs l h)) μ
 |.str z=>.grd (z.length<=room) (.ok (.str (Txt.slice z l h)) μ)
 |.mut i=>λK _=>∃ts,μ[i]?=some (.lst ts)/\K (.lst (xm ts l h)) μ
 |_=>.st
noncomputable abbrev eSl(f:De)(lo hi:Dp):De:=λτ μ=>(f τ μ).bind λx μ1=>(lo τ μ1).bind λl μ2=>(hi τ μ2).bind λh μ3=>z5w x l h μ3
noncomputable abbrev evs(fs:List De):Da:=List.rec (motive:=λ_=>Da) (λ_ μ=>.ok [] μ) (λf _ ih τ μ=>(f τ μ).bind λt μ1=>(ih τ μ1).bind λts μ2=>.ok (t::ts) μ2) fs
noncomputable abbrev Z8(fs:List De):De:=λτ μ=>(evs fs τ μ).bind λts μ1=>.ok (.lst ts) μ1
noncomputable abbrev qP(fs:List De):De:=λτ μ=>(evs fs τ μ).bind λts μ1=>.ok (.tup ts) μ1
noncomputable abbrev KD(fs:List De):De:=λτ μ=>(evs fs τ μ).bind λts μ1=>.ok (.mut μ1.length) (μ1++[.lst ts])
noncomputable abbrev z8(g:Fn)(fs:List De):De:=λτ μ=>(evs fs τ μ).bind g
noncomputable abbrev QO(c:Nat)(g:Fn)(ts:List T)(μ:Mem):RE T:=λK Z=>
 yp ts=true/\g (.mut 0::ts) [.obj c []] (λr μ1=>r=.non/\∃fs,μ1[0]?=some (.obj c fs)/\xF fs=true/\K (.obj c fs) μ) (λk fs _=>xF fs=true/\Z k fs μ)
noncomputable abbrev eMk(c:Nat)(g:Fn)(fs:List De):De:=λτ μ=>(evs fs τ μ).bind (QO c g)
noncomputable abbrev X5(cs:List Nat)(x:T)(μ:Mem):RE T:=match x with
 |.mut i=>.som μ[i]? λo=>.br (z1p o) .st (.ok (.bl (isAny (tyO o) cs)) μ)
 |x=>match tyN x μ with
  |some t=>.ok (.bl (isAny t cs)) μ
  |none=>.st
noncomputable abbrev vW(cs:List Nat)(f:De):De:=λτ μ=>(f τ μ).bind (X5 cs)
noncomputable abbrev eB1(op:T->Mem->RE T)(f:De):De:=λτ μ=>(f τ μ).bind op
noncomputable abbrev vF(t:T)(μ:Mem):RE T:=match t with
 |.lst xs=>.ok (.int xs.length) μ
 |.tup xs=>.ok (.int xs.length) μ
 |.str s=>.grd (s.length<=room) (.ok (.int s.length) μ)
 |.mut i=>λK _=>∃xs,μ[i]?=some (.lst xs)/\K (.int xs.length) μ
 |_=>.st
noncomputable abbrev Jq(t:T)(μ:Mem):RE T:=match t with
 |.lst xs=>.ok (.lst xs) μ
 |.tup xs=>.ok (.lst xs) μ
 |.mut i=>λK _=>∃xs,μ[i]?=some (.lst xs)/\K (.lst xs) μ
 |_=>.st
noncomputable def bools:List T->Option (List Bool)
 |[]=>some []
 |.bl b::r=>(bools r).map (b::·)
 |_::_=>none
noncomputable abbrev K4(t:T)(μ:Mem):RE T:=match t with
 |.lst xs=>.som (bools xs) λbs=>.ok (.bl (bs.all id)) μ
 |_=>.st
noncomputable abbrev We(o f:De):De:=λτ μ=>(o τ μ).bind λot μ1=>match ot with
 |.mut i=>λK Z=>(∃ts,μ1[i]?=some (.lst ts))/\f τ μ1 (λt μ2=>∃ts,μ2[i]?=some (.lst ts)/\ts.length<room/\K .non (μ2.set i (.lst (ts++[t])))) Z
 |_=>.st
noncomputable abbrev yg(z:Str):List T:=z.cps.toList.map λc=>T.str ⟨#[c]⟩
noncomputable abbrev z2k(t:T)(μ:Mem):RI:=match t with
 |.lst xs=>.ok xs lvT μ
 |.tup xs=>.ok xs lvT μ
 |.str z=>.ok (yg z) lvT μ
 |.mut i=>λK _=>∃xs,μ[i]?=some (.lst xs)/\K xs (lvM i xs) μ
 |_=>.st
noncomputable abbrev iE(f:De):Di:=λτ μ=>(f τ μ).it z2k
noncomputable def rangeT(n:Int):List T:=(List.range n.toNat).map λ(i:Nat)=>T.int i
noncomputable def kM(a b c:Int):List T:=(List.range (if a<b then (b-a-1) / c+1 else 0:Int).toNat).map λ(i:Nat)=>T.int (a+i * c)
noncomputable abbrev inL(a:Int):Prop := -1606938044258990275541962092341162602522202993782792835301376<=a/\a<1606938044258990275541962092341162602522202993782792835301376
noncomputable abbrev Kt(f:De):Di:=λτ μ=>(f τ μ).it λt μ1=>match t with
 |.int n=>.grd (inL n) (.ok (rangeT n) lvT μ1)
 |_=>.st
noncomputable abbrev Xt(x y z:T)(μ:Mem):RI:=match x,y,z with
 |.int a,.int b,.int c=>.grd (inL a/\inL b/\0<c/\c<1073741824) (.ok (kM a b c) lvT μ)
 |_,_,_=>.st
noncomputable abbrev z1x(f g h:De):Di:=λτ μ=>(f τ μ).it λx μ1=>(g τ μ1).it λy μ2=>(h τ μ2).it λz μ3=>Xt x y z μ3
noncomputable abbrev V_(f g:De):Di:=λτ μ=>(f τ μ).it λx μ1=>(g τ μ1).it λy μ2=>match x,y with
 |.int a,.int b=>.grd (inL a/\inL b) (.ok (kM a b 1) lvT μ2)
 |_,_=>.st
inductive Tg where
 |one (i:Nat)|tup (is:List Nat)
noncomputable abbrev Wt(is:List Nat):List T->Sl->Option Sl:=List.rec (motive:=λ_=>List T->Sl->Option Sl) (λts τ=>List.rec (motive:=λ_=>Option Sl) (some τ) (λ_ _ _=>none) ts) (λi _ ih ts τ=>List.rec (motive:=λ_=>Option Sl) none (λt ts' _=>ih ts' (xW τ i (some t))) ts) is
noncomputable abbrev asg:Tg->T->Sl->Option Sl
 |.one i,t,τ=>some (xW τ i (some t))
 |.tup is,.tup ts,τ=>Wt is ts τ
 |_,_,_=>none
noncomputable def zA(tg:Tg)(g:Sl->Mem->RE (Option T))(lv:Mem->Prop)(τ:Sl):List T->Mem->RE (List T)
 |[],μ=>.ok [] μ
 |x::r,μ=>.som (asg tg x τ) λτ'=>(g τ' μ).bind λo μ1=>.grd (lv μ1) (match o with
  |some y=>(zA tg g lv τ r μ1).bind λys μ2=>.ok (y::ys) μ2
  |none=>zA tg g lv τ r μ1)
noncomputable abbrev js(cs:List Dt)(f:De):Sl->Mem->RE (Option T):=List.rec (motive:=λ_=>Sl->Mem->RE (Option T)) (λτ μ=>(f τ μ).bind λy μ1=>.ok (some y) μ1) (λc _ ih τ μ=>(c τ μ).bind λb μ1=>.br b (ih τ μ1) (.ok none μ1)) cs
noncomputable abbrev VR(is:List Nat)(τ:Sl):Sl:=List.rec (motive:=λ_=>Sl) [] (λi _ ih=>KR τ i::ih) is
noncomputable abbrev blk(n:Nat)(fs:List Nat)(τ:Sl):Sl:=Nat.rec (motive:=λ_=>Sl) (VR fs τ) (λ_ ih=>none::ih) n
noncomputable abbrev qL(n:Nat)(fs:List Nat)(tg:Tg)(it:Di)(cs:List Dt)(f:De):De:=λτ μ=>(it τ μ).go λxs o μ1=>.grd (xs.length<=room) ((zA tg (js cs f) o (blk n fs τ) xs μ1).bind λys μ2=>.ok (.lst ys) μ2)
noncomputable abbrev kO(n:Nat)(fs:List Nat)(tg:Tg)(it:Di)(cs:List Dt)(f:De):De:=λτ μ=>(it τ μ).go λxs o μ1=>.grd (xs.length<=room) ((zA tg (js cs f) o (blk n fs τ) xs μ1).bind λys μ2=>.ok (.mut μ2.length) (μ2++[.lst ys]))
noncomputable abbrev zj(f:De):Ds:=λτ μ=>(f τ μ).out τ λt μ1=>.rt t μ1
noncomputable abbrev YK:Ds:=λ_ μ=>.rt .non μ
noncomputable abbrev zI(f:De):Ds:=λτ μ=>(f τ μ).out τ λ_ μ1=>.nx τ μ1
noncomputable abbrev w4(ss:List Ds):Ds:=List.rec (motive:=λ_=>Ds) (λτ μ=>.nx τ μ) (λs _ ih τ μ=>(s τ μ).seq ih) ss
noncomputable abbrev sIf(c:Dt)(a b:List Ds):Ds:=λτ μ=>(c τ μ).out τ λk μ1=>.br k (w4 a τ μ1) (w4 b τ μ1)
noncomputable abbrev zq(i:Nat)(f:De):Ds:=λτ μ=>(f τ μ).out τ λt μ1=>.nx (xW τ i (some t)) μ1
noncomputable abbrev z2Z(is:List Nat)(f:De):Ds:=λτ μ=>(f τ μ).out τ λt μ1=>.som (asg (.tup is) t τ) λτ'=>.nx τ' μ1
noncomputable abbrev qb(o:De)(n:Nat)(f:De):Ds:=λτ μ=>(f τ μ).out τ λt μ1=>(o τ μ1).out τ λot μ2=>match ot with
 |.mut i=>λE=>∃c fs,μ2[i]?=some (.obj c fs)/\fs.length<900/\E.nx τ (μ2.set i (.obj c (Kh n t fs)))
 |_=>.st
noncomputable abbrev z5j(o b f:De):Ds:=λτ μ=>(f τ μ).out τ λt μ1=>(o τ μ1).out τ λot μ2=>(b τ μ2).out τ λit μ3=>match ot,it with
 |.mut i,.int k=>λE=>∃ts,μ3[i]?=some (.lst ts)/\(0<=k/\k<ts.length/\k<9223372036854775808)/\E.nx τ (μ3.set i (.lst (ts.set k.toNat t)))
 |_,_=>.st
noncomputable def forM(tg:Tg)(body:Ds)(lv:Mem->Prop):List T->Ds
 |[],τ,μ=>.nx τ μ
 |x::r,τ,μ=>.som (asg tg x τ) λτ'=>λE=>body τ' μ (E.turn λτ2 μ2=>lv μ2/\forM tg body lv r τ2 μ2 E)
noncomputable abbrev kR(tg:Tg)(it:Di)(body:List Ds):Ds:=λτ μ=>(it τ μ).out τ λxs o μ1=>forM tg (w4 body) o xs τ μ1
noncomputable def Qk(c:Dt)(body:List Ds):Ds:=λτ μ E=>∃I:Nat->Sl->Mem->Prop,(∃n,I n τ μ)/\∀n τ μ,I n τ μ->
 c τ μ (λb μ1=>brW b (w4 body τ μ1 (E.turn λτ2 μ2=>∃m,m<n/\I m τ2 μ2)) (E.nx τ μ1)) (λk fs μ1=>E.ex k fs τ μ1)
noncomputable abbrev zy(c:Nat)(fs:List De):Ds:=λτ μ=>(evs fs τ μ).out τ λts μ1=>.grd (ts.length<=room) (.ex c [] τ μ1)
noncomputable abbrev ZU(c f:Nat)(g:De):Ds:=λτ μ=>(g τ μ).out τ λt μ1=>match t with
 |.int i=>.grd (i.natAbs.log2<1920) (.ex c [(f,.int i)] τ μ1)
 |_=>.st
noncomputable abbrev pad(n:Nat):Sl:=Nat.rec (motive:=λ_=>Sl) [] (λ_ ih=>none::ih) n
noncomputable abbrev z1f(ts:List T)(n:Nat):Sl:=List.rec (motive:=λ_=>Sl) (pad n) (λt _ ih=>some t::ih) ts
noncomputable abbrev fnW(n m:Nat)(body:List Ds):Fn:=λts μ K Z=>ts.length=n/\w4 body (z1f ts m) μ (En.fn K Z)
end NH
end
section
namespace NH
open PySem PySem.Spec PyProof.Rows L2
structure DP where
 K:PySem.W.Frag
 adr:Nat->Option Addr
 cad:Nat->Option Addr
 fn:Nat->Option Str
 inj:∀i j x,fn i=some x->fn j=some x->i=j
 clo:Nat->Addr->Option HO->List V->Prop
 tabs:Nat->Option (Addr×List Pos×Str)
noncomputable def z1M (a C:Addr)(d:Option Addr):Heap->Prop:=λh=>∃oe vs,h.get? a=some oe/\oe.cls=.ref C/\oe.data=.fields vs/\oe.dict=d
noncomputable def wk(c:Addr)(qn:Str):Heap->Prop:=λh=>h.CodeRec (.ref c) qn
mutual
def Den (D:DP)(φ α:List Addr)(H:Hp):T->V->Prop
 |.non,v=>v=.non
 |.bl b,v=>v=.bl b
 |.int i,v=>v=.int i
 |.str x,v=>v=.str x
 |.mut i,v=>∃a,α[i]?=some a/\v=.ref a
 |.tup ts,v=>∃a xs,v=.ref a/\a∉φ/\a∉α/\Rd H a (.tup xs)/\DenL D φ α H ts xs
 |.lst ts,v=>∃a xs,v=.ref a/\a∉φ/\a∉α/\Rd H a (.lst xs)/\DenL D φ α H ts xs
 |.obj c fs,v=>∃a C dx gs,v=.ref a/\a∉φ/\a∉α/\D.cad c=some C/\H a=some (.ins C dx gs)/\DenF D φ α H fs gs
 |.exc c fs,v=>∃a C d,v=.ref a/\a∉φ/\a∉α/\D.adr c=some C/\H a=some (.ext (z1M a C d))/\(match d with
  |none=>fs=[]
  |some dx=>∃gs,dx∉φ/\dx∉α/\H dx=some (.xd gs)/\DenF D φ α H fs gs)
 |.dic kvs,v=>∃a gs,v=.ref a/\a∉φ/\a∉α/\H a=some (.dK gs)/\DenK D φ α H kvs gs
 |.clo j cs,v=>∃a ob xs,v=.ref a/\D.clo j a ob xs/\(∀o,ob=some o->a∉φ/\a∉α/\H a=some o)/\DenL D φ α H cs xs
def DenL (D:DP)(φ α:List Addr)(H:Hp):List T->List V->Prop
 |[],vs=>vs=[]
 |t::ts,vs=>∃v r,vs=v::r/\Den D φ α H t v/\DenL D φ α H ts r
def DenF (D:DP)(φ α:List Addr)(H:Hp):List (Nat×T)->List (Str×V)->Prop
 |[],gs=>gs=[]
 |p::fs,gs=>∃x v r,D.fn p.1=some x/\gs=(x,v)::r/\Den D φ α H p.2 v/\DenF D φ α H fs r
def DenK (D:DP)(φ α:List Addr)(H:Hp):List (Key×T)->List (Key×V)->Prop
 |[],gs=>gs=[]
 |p::fs,gs=>∃v r,gs=(p.1,v)::r/\Den D φ α H p.2 v/\DenK D φ α H fs r
end
noncomputable def XDict(D:DP)(φ α:List Addr)(H:Hp)(fs:List (Nat×T)):Option Addr->Prop
 |none=>fs=[]
 |some dx=>∃gs,dx∉φ/\dx∉α/\H dx=some (.xd gs)/\DenF D φ α H fs gs
noncomputable def DenO (D:DP)(φ α:List Addr)(H:Hp):MO->Addr->Prop
 |.lst ts,a=>∃xs,H a=some (.lst xs)/\DenL D φ α H ts xs
 |.obj c fs,a=>∃C dx gs,D.cad c=some C/\H a=some (.ins C dx gs)/\DenF D φ α H fs gs
 |.dic kvs,a=>∃gs,H a=some (.dK gs)/\DenK D φ α H kvs gs
 |.tab j,a=>∃poss qn ps,D.tabs j=some (a,poss,qn)/\H a=some (.tbl ps)/\TriplesOk ps.toList/\∀pos∈poss,codeAmong pos ps.toList=none\/∃c,codeAmong pos ps.toList=some (.ref c)/\c∉φ/\c∉α/\H c=some (.ext (wk c qn))
structure Stp(α:List Addr)(H:Hp)(α':List Addr)(H':Hp):Prop where
 ext:∃β,α'=α++β/\∀b∈β,H b=none
 keep:∀b o,b∉α->H b=some o->H' b=some o
 live:∀b,H' b=none->H b=none
theorem Stp.refl(α:List Addr)(H:Hp):Stp α H α H:=⟨⟨[],by simp,by simp⟩,λ_ _ _ e=>e,λ_ e=>e⟩
theorem Stp.trans{α α1 α2:List Addr}{H H1 H2:Hp}(a:Stp α H α1 H1)(b:Stp α1 H1 α2 H2):Stp α H α2 H2:=by
 obtain⟨β,rfl,hβ⟩:=a.ext
 obtain⟨γ,rfl,hγ⟩:=b.ext
 refine⟨⟨β++γ,by simp,λc hc=>?_⟩,λc o n e=>?_,λc e=>a.live c (b.live c e)⟩
 ·rcases List.mem_append.mp hc with h|h
  ·exact hβ c h
  ·exact a.live c (hγ c h)
 ·refine b.keep c o (λh=>?_) (a.keep c o n e)
  rcases List.mem_append.mp h with h|h
  ·exact n h
  ·rw[hβ c h] at e;cases e
theorem Stp.new{α:List Addr}{H H':Hp}(s:xg H H'):Stp α H α H':=⟨⟨[],by simp,by simp⟩,λb o _ e=>s b o e,λb e=>by
 cases q:H b with
 |none=>rfl
 |some o=>rw[s b o q] at e;cases e⟩
theorem zb{H:Hp}{p:Addr}{o:HO}(h:H p=none):xg H (upd H p o):=λb u e=>by rw[z7 (zF e h)];exact e
theorem Stp.out{α α':List Addr}{H H':Hp}(s:Stp α H α' H'){a:Addr}{o:HO}(n:a∉α)(e:H a=some o):a∉α':=by
 obtain⟨β,rfl,hβ⟩:=s.ext
 intro h
 rcases List.mem_append.mp h with h|h
 ·exact n h
 ·rw[hβ a h] at e;cases e
section
variable {D:DP}{φ φ' α α':List Addr}{H H':Hp}
structure Lk(φ α:List Addr)(H:Hp)(φ' α':List Addr)(H':Hp):Prop where
 ob:∀a o,a∉φ->a∉α->H a=some o->a∉φ'/\a∉α'/\H' a=some o
 st:∀(i:Nat) (a:Addr),α[i]?=some a->α'[i]?=some a
mutual
theorem Den.lk(h:Lk φ α H φ' α' H'):∀{t:T} {v:V},Den D φ α H t v->Den D φ' α' H' t v
 |.non,_,d=>d
 |.bl _,_,d=>d
 |.int _,_,d=>d
 |.str _,_,d=>d
 |.mut i,_,d=>by obtain⟨a,e,q⟩:=d;exact⟨a,h.st i a e,q⟩
 |.tup ts,_,d=>by
  obtain⟨a,xs,rfl,n1,n2,r,l⟩:=d
  rcases r with r|⟨o,r⟩
  ·obtain⟨m1,m2,e⟩:=h.ob a _ n1 n2 r
   exact⟨a,xs,rfl,m1,m2,.inl e,DenL.lk h l⟩
  ·obtain⟨m1,m2,e⟩:=h.ob a _ n1 n2 r
   exact⟨a,xs,rfl,m1,m2,.inr ⟨o,e⟩,DenL.lk h l⟩
 |.lst ts,_,d=>by
  obtain⟨a,xs,rfl,n1,n2,r,l⟩:=d
  rcases r with r|⟨o,r⟩
  ·obtain⟨m1,m2,e⟩:=h.ob a _ n1 n2 r
   exact⟨a,xs,rfl,m1,m2,.inl e,DenL.lk h l⟩
  ·obtain⟨m1,m2,e⟩:=h.ob a _ n1 n2 r
   exact⟨a,xs,rfl,m1,m2,.inr ⟨o,e⟩,DenL.lk h l⟩
 |.obj c fs,_,d=>by
  obtain⟨a,C,dx,gs,rfl,n1,n2,ad,e,l⟩:=d
  obtain⟨m1,m2,e⟩:=h.ob a _ n1 n2 e
  exact⟨a,C,dx,gs,rfl,m1,m2,ad,e,DenF.lk h l⟩
 |.exc c fs,_,d=>by
  obtain⟨a,C,d,rfl,n1,n2,ad,e,l⟩:=d
  obtain⟨m1,m2,e⟩:=h.ob a _ n1 n2 e
  refine⟨a,C,d,rfl,m1,m2,ad,e,?_⟩
  cases d with
  |none=>exact l
  |some dx=>
   obtain⟨gs,k1,k2,e2,l⟩:=l
   obtain⟨k1,k2,e2⟩:=h.ob dx _ k1 k2 e2
   exact⟨gs,k1,k2,e2,DenF.lk h l⟩
 |.dic kvs,_,d=>by
  obtain⟨a,gs,rfl,n1,n2,e,l⟩:=d
  obtain⟨m1,m2,e⟩:=h.ob a _ n1 n2 e
  exact⟨a,gs,rfl,m1,m2,e,DenK.lk h l⟩
 |.clo j cs,_,d=>by
  obtain⟨a,ob,xs,rfl,c,e,l⟩:=d
  exact⟨a,ob,xs,rfl,c,λo z=>let ⟨n1,n2,q⟩:=e o z;h.ob a o n1 n2 q,DenL.lk h l⟩
theorem DenL.lk(h:Lk φ α H φ' α' H'):∀{ts:List T} {vs:List V},DenL D φ α H ts vs->DenL D φ' α' H' ts vs
 |[],_,l=>l
 |t::ts,_,l=>by
  obtain⟨v,r,rfl,a,b⟩:=l
  exact⟨v,r,rfl,Den.lk h a,DenL.lk h b⟩
theorem DenF.lk(h:Lk φ α H φ' α' H'):∀{fs:List (Nat×T)} {gs:List (Str×V)},DenF D φ α H fs gs->DenF D φ' α' H' fs gs
 |[],_,l=>l
 |p::fs,_,l=>by
  obtain⟨x,v,r,e,rfl,a,b⟩:=l
  exact⟨x,v,r,e,rfl,Den.lk h a,DenF.lk h b⟩
theorem DenK.lk(h:Lk φ α H φ' α' H'):∀{fs:List (Key×T)} {gs:List (Key×V)},DenK D φ α H fs gs->DenK D φ' α' H' fs gs
 |[],_,l=>l
 |p::fs,_,l=>by
  obtain⟨v,r,rfl,a,b⟩:=l
  exact⟨v,r,rfl,Den.lk h a,DenK.lk h b⟩
end
theorem Stp.lk(s:Stp α H α' H'):Lk φ α H φ α' H':=⟨λa o n1 n2 e=>⟨n1,s.out n2 e,s.keep a o n2 e⟩,λi a e=>by
 obtain⟨β,rfl,_⟩:=s.ext
 rw[List.getElem?_append_left (List.getElem?_eq_some_iff.mp e).1];exact e⟩
theorem Den.step(s:Stp α H α' H'){t:T}{v:V}(d:Den D φ α H t v):Den D φ α' H' t v:=d.lk s.lk
theorem DenL.step(s:Stp α H α' H'){t:List T}{v:List V}(d:DenL D φ α H t v):DenL D φ α' H' t v:=d.lk s.lk
theorem DenF.step(s:Stp α H α' H'){t:List (Nat×T)}{v:List (Str×V)}(d:DenF D φ α H t v):DenF D φ α' H' t v:=d.lk s.lk
theorem DenK.step(s:Stp α H α' H'){t:List (Key×T)}{v:List (Key×V)}(d:DenK D φ α H t v):DenK D φ α' H' t v:=d.lk s.lk
theorem XDict.lk{fs:List (Nat×T)}{d:Option Addr}(h:Lk φ α H φ' α' H')(x:XDict D φ α H fs d):XDict D φ' α' H' fs d:=by
 cases d with
 |none=>exact x
 |some dx=>
  obtain⟨gs,k1,k2,e2,l⟩:=x
  obtain⟨k1,k2,e2⟩:=h.ob dx _ k1 k2 e2
  exact⟨gs,k1,k2,e2,DenF.lk h l⟩
mutual
theorem Den.hide{β:List Addr}:∀{t:T} {v:V},vy t=true->Den D φ α H t v->(∀a,a∉φ->a∉α->a∉φ'/\a∉β)->Den D φ' β H t v
 |.non,_,_,h,_=>h
 |.bl _,_,_,h,_=>h
 |.int _,_,_,h,_=>h
 |.str _,_,_,h,_=>h
 |.mut i,_,p,_,_=>by simp[vy] at p
 |.tup ts,_,p,h,k=>by
  obtain⟨a,xs,rfl,n1,n2,r,l⟩:=h
  exact⟨a,xs,rfl,(k a n1 n2).1,(k a n1 n2).2,r,DenL.hide (by simpa[vy] using p) l k⟩
 |.lst ts,_,p,h,k=>by
  obtain⟨a,xs,rfl,n1,n2,r,l⟩:=h
  exact⟨a,xs,rfl,(k a n1 n2).1,(k a n1 n2).2,r,DenL.hide (by simpa[vy] using p) l k⟩
 |.obj c fs,_,p,h,k=>by
  obtain⟨a,C,dx,gs,rfl,n1,n2,ad,e,l⟩:=h
  exact⟨a,C,dx,gs,rfl,(k a n1 n2).1,(k a n1 n2).2,ad,e,DenF.hide (by simpa[vy] using p) l k⟩
 |.exc c fs,_,p,h,k=>by
  obtain⟨a,C,d,rfl,n1,n2,ad,e,l⟩:=h
  refine⟨a,C,d,rfl,(k a n1 n2).1,(k a n1 n2).2,ad,e,?_⟩
  cases d with
  |none=>exact l
  |some dx=>
   obtain⟨gs,k1,k2,e2,l⟩:=l
   exact⟨gs,(k dx k1 k2).1,(k dx k1 k2).2,e2,DenF.hide (by simpa[vy] using p) l k⟩
 |.dic kvs,_,p,h,k=>by
  obtain⟨a,gs,rfl,n1,n2,e,l⟩:=h
  exact⟨a,gs,rfl,(k a n1 n2).1,(k a n1 n2).2,e,DenK.hide (by simpa[vy] using p) l k⟩
 |.clo j cs,_,p,h,k=>by
  obtain⟨a,ob,xs,rfl,c,e,l⟩:=h
  exact⟨a,ob,xs,rfl,c,λo z=>let ⟨n1,n2,q⟩:=e o z;⟨(k a n1 n2).1,(k a n1 n2).2,q⟩,DenL.hide (by simpa[vy] using p) l k⟩
theorem DenL.hide{β:List Addr}:∀{ts:List T} {vs:List V},yp ts=true->DenL D φ α H ts vs->(∀a,a∉φ->a∉α->a∉φ'/\a∉β)->DenL D φ' β H ts vs
 |[],_,_,h,_=>h
 |t::ts,_,p,h,k=>by
  obtain⟨v,r,rfl,a,b⟩:=h
  simp only[yp,Bool.and_eq_true] at p
  exact⟨v,r,rfl,Den.hide p.1 a k,DenL.hide p.2 b k⟩
theorem DenF.hide{β:List Addr}:∀{fs:List (Nat×T)} {gs:List (Str×V)},xF fs=true->DenF D φ α H fs gs->(∀a,a∉φ->a∉α->a∉φ'/\a∉β)->DenF D φ' β H fs gs
 |[],_,_,h,_=>h
 |q::fs,_,p,h,k=>by
  obtain⟨x,v,r,e,rfl,a,b⟩:=h
  simp only[xF,Bool.and_eq_true] at p
  exact⟨x,v,r,e,rfl,Den.hide p.1 a k,DenF.hide p.2 b k⟩
theorem DenK.hide{β:List Addr}:∀{fs:List (Key×T)} {gs:List (Key×V)},JI fs=true->DenK D φ α H fs gs->(∀a,a∉φ->a∉α->a∉φ'/\a∉β)->DenK D φ' β H fs gs
 |[],_,_,h,_=>h
 |q::fs,_,p,h,k=>by
  obtain⟨v,r,rfl,a,b⟩:=h
  simp only[JI,Bool.and_eq_true] at p
  exact⟨v,r,rfl,Den.hide p.1 a k,DenK.hide p.2 b k⟩
end
theorem XDict.hide{fs:List (Nat×T)}{d:Option Addr}{β:List Addr}(p:xF fs=true)(x:XDict D φ α H fs d)(k:∀a,a∉φ->a∉α->a∉φ'/\a∉β):XDict D φ' β H fs d:=by
 cases d with
 |none=>exact x
 |some dx=>
  obtain⟨gs,k1,k2,e2,l⟩:=x
  exact⟨gs,(k dx k1 k2).1,(k dx k1 k2).2,e2,DenF.hide p l k⟩
theorem z0J:∀a:Addr,a∉φ->a∉α->a∉φ++α/\a∉([]:List Addr):=λa n1 n2=>⟨λz=>(List.mem_append.mp z).elim n1 n2,by simp⟩
theorem WD{β:List Addr}:∀a:Addr,a∉φ++α->a∉β->a∉φ/\a∉α:=λa n1 _=>⟨λz=>n1 (List.mem_append_left _ z),λz=>n1 (List.mem_append_right _ z)⟩
theorem DenL.length:∀{ts:List T} {vs:List V},DenL D φ α H ts vs->ts.length=vs.length
 |[],_,h=>by have:_=[]:=h;subst this;rfl
 |t::ts,_,h=>by
  obtain⟨v,r,rfl,_,b⟩:=h
  simp[DenL.length b]
theorem DenL.get:∀{ts:List T} {vs:List V} {i:Nat} {t:T},DenL D φ α H ts vs->ts[i]?=some t->∃v,vs[i]?=some v/\Den D φ α H t v
 |[],_,_,_,_,e=>by simp at e
 |t::ts,_,0,_,h,e=>by
  obtain⟨v,r,rfl,a,b⟩:=h
  simp at e;subst e
  exact⟨v,rfl,a⟩
 |t::ts,_,i+1,u,h,e=>by
  obtain⟨v,r,rfl,a,b⟩:=h
  obtain⟨w,e',d⟩:=DenL.get (i:=i) (t:=u) b (by simpa using e)
  exact⟨w,by simpa using e',d⟩
theorem DenL.append:∀{ts us:List T} {vs ws:List V},DenL D φ α H ts vs->DenL D φ α H us ws->DenL D φ α H (ts++us) (vs++ws)
 |[],us,_,ws,h,k=>by have:_=[]:=h;subst this;exact k
 |t::ts,us,_,ws,h,k=>by
  obtain⟨v,r,rfl,a,b⟩:=h
  exact⟨v,r++ws,rfl,a,DenL.append b k⟩
theorem DenL.drop:∀(n:Nat) {ts:List T} {vs:List V},DenL D φ α H ts vs->DenL D φ α H (ts.drop n) (vs.drop n)
 |0,_,_,h=>h
 |n+1,[],_,h=>by have:_=[]:=h;subst this;exact rfl
 |n+1,t::ts,_,h=>by
  obtain⟨v,r,rfl,a,b⟩:=h
  exact DenL.drop n b
theorem DenL.take:∀(n:Nat) {ts:List T} {vs:List V},DenL D φ α H ts vs->DenL D φ α H (ts.take n) (vs.take n)
 |0,_,_,h=>by simp[DenL]
 |n+1,[],_,h=>by have:_=[]:=h;subst this;exact rfl
 |n+1,t::ts,_,h=>by
  obtain⟨v,r,rfl,a,b⟩:=h
  exact⟨v,r.take n,rfl,a,DenL.take n b⟩
theorem DenL.set:∀{ts:List T} {vs:List V} {i:Nat} {t:T} {v:V},DenL D φ α H ts vs->Den D φ α H t v->DenL D φ α H (ts.set i t) (vs.set i v)
 |[],vs,i,t,v,l,d=>by have l:vs=[]:=l;subst l;exact rfl
 |x::ts,_,0,t,v,l,d=>by
  obtain⟨w,r,rfl,dw,l⟩:=l
  exact⟨v,r,rfl,d,l⟩
 |x::ts,_,i+1,t,v,l,d=>by
  obtain⟨w,r,rfl,dw,l⟩:=l
  exact⟨w,r.set i v,rfl,dw,DenL.set l d⟩
theorem DenF.look:∀{fs:List (Nat×T)} {gs:List (Str×V)} {f:Nat} {t:T},DenF D φ α H fs gs->WW fs f=some t->∃x v,D.fn f=some x/\gs.lookup x=some v/\Den D φ α H t v
 |[],_,_,_,_,e=>by simp[WW] at e
 |p::fs,_,f,t,h,e=>by
  obtain⟨x,v,r,ex,rfl,a,b⟩:=h
  rw[KU] at e
  cases q:Nat.beq p.1 f with
  |true=>
   have q':=Nat.eq_of_beq_eq_true q
   rw[q] at e
   have e:some p.2=some t:=e
   cases e
   exact⟨x,v,by rw[←q'];exact ex,by simp[List.lookup_cons],a⟩
  |false=>
   rw[q] at e
   obtain⟨y,w,h1,h2,h3⟩:=DenF.look b e
   refine⟨y,w,h1,?_,h3⟩
   rw[List.lookup_cons]
   have ne:(y == x)=false:=by
    refine beq_eq_false_iff_ne.mpr λz=>?_
    subst z
    have:=D.inj _ _ _ ex h1
    rw[this] at q
    simp at q
   rw[ne];exact h2
theorem DenF.put{f:Nat}{x:Str}{t:T}{w:V}(hx:D.fn f=some x):∀{fs:List (Nat×T)} {gs:List (Str×V)},DenF D φ α H fs gs->Den D φ α H t w->DenF D φ α H (Kh f t fs) (wU x w gs)
 |[],gs,h,d=>by
  have:gs=[]:=h
  subst this
  exact⟨x,w,[],hx,rfl,d,rfl⟩
 |p::fs,gs,h,d=>by
  obtain⟨z,y,r,ez,rfl,dy,l⟩:=h
  rw[KQ]
  show DenF D φ α H _ (if z=x then (z,w)::r else (z,y)::wU x w r)
  cases q:Nat.beq p.1 f with
  |true=>
   have q':=Nat.eq_of_beq_eq_true q
   have:z=x:=by rw[q',hx] at ez;exact (Option.some.inj ez).symm
   rw[if_pos this]
   exact⟨z,w,r,ez,rfl,d,l⟩
  |false=>
   have:z≠x:=λe=>by
    subst e
    have:=D.inj _ _ _ ez hx
    rw[this] at q
    simp at q
   rw[if_neg this]
   exact⟨z,y,wU x w r,ez,rfl,dy,DenF.put hx l d⟩
theorem DenF.length:∀{fs:List (Nat×T)} {gs:List (Str×V)},DenF D φ α H fs gs->fs.length=gs.length
 |[],_,h=>by have:_=[]:=h;subst this;rfl
 |p::fs,_,h=>by
  obtain⟨x,v,r,_,rfl,_,b⟩:=h
  simp[DenF.length b]
structure MRel(D:DP)(φ α:List Addr)(H:Hp)(μ:Mem):Prop where
 len:α.length=μ.length
 nd:α.Nodup
 dis:∀b∈α,b∉φ
 phi:∀b∈φ,∃o,H b=some o
 ob:∀(i:Nat) (a:Addr) (o:MO),α[i]?=some a->μ[i]?=some o->DenO D φ α H o a
theorem DenO.lk{o:MO}{a:Addr}(s:Lk φ α H φ' α' H')(e:H' a=H a)(h:DenO D φ α H o a):DenO D φ' α' H' o a:=by
 cases o with
 |lst ts=>
  obtain⟨xs,q,l⟩:=h
  exact⟨xs,e.trans q,DenL.lk s l⟩
 |obj c fs=>
  obtain⟨C,dx,gs,ad,q,l⟩:=h
  exact⟨C,dx,gs,ad,e.trans q,DenF.lk s l⟩
 |dic kvs=>
  obtain⟨xs,q,l⟩:=h
  exact⟨xs,e.trans q,DenK.lk s l⟩
 |tab j=>
  obtain⟨pos,qn,ps,h1,h2,h3,h4⟩:=h
  refine⟨pos,qn,ps,h1,e.trans h2,h3,λp hp=>(h4 p hp).imp id λ⟨c,k1,k2,k3,k4⟩=>?_⟩
  obtain⟨m1,m2,m3⟩:=s.ob c _ k2 k3 k4
  exact⟨c,k1,m1,m2,m3⟩
theorem DenO.step{o:MO}{a:Addr}(s:Stp α H α' H')(e:H' a=H a)(h:DenO D φ α H o a):DenO D φ α' H' o a:=h.lk s.lk e
theorem DenO.some{o:MO}{a:Addr}(h:DenO D φ α H o a):∃u,H a=Option.some u:=by
 cases o with
 |lst ts=>obtain⟨xs,q,_⟩:=h;exact⟨_,q⟩
 |obj c fs=>obtain⟨C,dx,gs,_,q,_⟩:=h;exact⟨_,q⟩
 |dic ts=>obtain⟨xs,q,_⟩:=h;exact⟨_,q⟩
 |tab j=>obtain⟨_,_,ps,_,q,_⟩:=h;exact⟨_,q⟩
theorem MRel.new{μ:Mem}(m:MRel D φ α H μ)(s:xg H H'):MRel D φ α H' μ:=
 ⟨m.len,m.nd,m.dis,λb hb=>let ⟨o,e⟩:=m.phi b hb;⟨o,s b o e⟩,λi a o e1 e2=>by
  have d:=m.ob i a o e1 e2
  obtain⟨u,q⟩:=d.some
  exact d.step (Stp.new s) ((s _ _ q).trans q.symm)⟩
theorem MRel.lk{μ:Mem}(h:Lk φ α H φ' α H')(hα:∀a∈α,H' a=H a/\a∉φ')(hφ:∀b∈φ',∃o,H' b=some o)(m:MRel D φ α H μ):MRel D φ' α H' μ:=
 ⟨m.len,m.nd,λb hb=>(hα b hb).2,hφ,λi a o e1 e2=>(m.ob i a o e1 e2).lk h (hα a (List.mem_of_getElem? e1)).1⟩
structure SRel(D:DP)(φ α:List Addr)(H:Hp)(τ:Sl)(σ:St):Prop where
 len:τ.length=σ.length
 val:∀(i:Nat) (t:T),τ[i]?=some (some t)->∃v,σ[i]?=some (some v)/\Den D φ α H t v
theorem SRel.lk{τ:Sl}{σ:St}(r:SRel D φ α H τ σ)(s:Lk φ α H φ' α' H'):SRel D φ' α' H' τ σ:=⟨r.len,λi t e=>by
 obtain⟨v,q,d⟩:=r.val i t e
 exact⟨v,q,d.lk s⟩⟩
theorem SRel.step{τ:Sl}{σ:St}(r:SRel D φ α H τ σ)(s:Stp α H α' H'):SRel D φ α' H' τ σ:=r.lk s.lk
theorem SRel.set{τ:Sl}{σ:St}(r:SRel D φ α H τ σ){i:Nat}{t:T}{v:V}(d:Den D φ α H t v):SRel D φ α H (xW τ i (some t)) (σ.set i (some v)):=by
 rw[Q0]
 refine⟨by simp[r.len],λj u e=>?_⟩
 by_cases h:i=j
 ·subst h
  rw[List.getElem?_set_self'] at e
  cases q:τ[i]? with
  |none=>rw[q] at e;cases e
  |some o=>
   rw[q] at e
   simp at e
   subst e
   have hl:i<σ.length:=by rw[←r.len];exact (List.getElem?_eq_some_iff.mp q).1
   exact⟨v,by simp[hl],d⟩
 ·rw[List.getElem?_set_ne h] at e ⊢
  exact r.val j u e
theorem SRel.get{τ:Sl}{σ:St}(r:SRel D φ α H τ σ){i:Nat}{t:T}(e:KR τ i=some t):∃v,σ[i]?=some (some v)/\Den D φ α H t v:=r.val i t (J8.mp e)
end
theorem kK{φ α:List Addr}{H:Hp}{b:Addr}(hb:H b=none):Lk φ α H (φ++[b]) α H:=by
 refine⟨λa o n1 n2 e=>⟨λz=>?_,n2,e⟩,λ_ _ e=>e⟩
 rcases List.mem_append.mp z with z|z
 ·exact n1 z
 ·rw[List.mem_singleton.mp z,hb] at e
  cases e
theorem WJ{φ α:List Addr}{H H':Hp}{b:Addr}(hb:H b=none)(s:xg H H'):Lk φ α H (φ++[b]) α H':=⟨λa o n1 n2 e=>let ⟨q1,q2,q3⟩:=(kK hb).ob a o n1 n2 e;⟨q1,q2,s a o e⟩,λ_ _ e=>e⟩
theorem wJ{φ α:List Addr}{H:Hp}{b:Addr}:Lk (φ++[b]) α H φ α H:=⟨λa o n1 n2 e=>⟨λz=>n1 (List.mem_append_left _ z),n2,e⟩,λ_ _ e=>e⟩
theorem yB{φ α:List Addr}{H:Hp}{b:Addr}{u:HO}(hb:b∈φ):Lk φ α H φ α (upd H b u):=⟨λa o n1 n2 e=>⟨n1,n2,by rw[z7 (λz:a=b=>n1 (by rw[z];exact hb))];exact e⟩,λ_ _ e=>e⟩
end NH
end
section
namespace NH
open PySem PySem.Spec PyProof.Rows L2
noncomputable def Post (D:DP)(W:XW)(φ α:List Addr)(H:Hp)(σ:St){β:Type}(R:β->Mem->List Addr->Hp->Prop)(r:RE β):Prop:=
 ∃K Z,r K Z/\(∀a μ',K a μ'->∀α' H',Stp α H α' H'->MRel D φ α' H' μ'->R a μ' α' H')/\
  ∀c fs μ',Z c fs μ'->∀α' H' C d,Stp α H α' H'->MRel D φ α' H' μ'->D.adr c=some C->XDict D φ α' H' fs d->W (.ref C) d σ H'
section
variable {D:DP}{W:XW}{φ α α':List Addr}{H H':Hp}{σ:St}{β γ:Type}{R R':β->Mem->List Addr->Hp->Prop}{S:γ->Mem->List Addr->Hp->Prop}
theorem Post.mono{r:RE β}(p:Post D W φ α H σ R r)(h:∀a μ' α' H',Stp α H α' H'->MRel D φ α' H' μ'->R a μ' α' H'->R' a μ' α' H'):Post D W φ α H σ R' r:=by
 obtain⟨K,Z,q,k,z⟩:=p
 exact⟨K,Z,q,λa μ' e α' H' s m=>h a μ' α' H' s m (k a μ' e α' H' s m),z⟩
theorem Post.bind{r:RE γ}{k:γ->Mem->RE β}(p:Post D W φ α H σ R (r.bind k)):Post D W φ α H σ (λa μ' α' H'=>Post D W φ α' H' σ R (k a μ')) r:=by
 obtain⟨K,Z,q,h,z⟩:=p
 exact⟨λa μ=>k a μ K Z,Z,q,λa μ' e α' H' s m=>⟨K,Z,e,λb μ2 e2 α2 H2 s2 m2=>h b μ2 e2 α2 H2 (s.trans s2) m2,λc fs μ2 e2 α2 H2 C d s2 m2=>z c fs μ2 e2 α2 H2 C d (s.trans s2) m2⟩,z⟩
theorem Post.elim{C:Prop}(p:Post D W φ α H σ R RE.st):C:=by obtain⟨_,_,q,_⟩:=p;exact q.elim
theorem Post.grd{c:Prop}{r:RE β}(p:Post D W φ α H σ R (RE.grd c r)):c/\Post D W φ α H σ R r:=by
 obtain⟨K,Z,q,h⟩:=p
 exact⟨q.1,K,Z,q.2,h⟩
theorem Post.som{o:Option γ}{k:γ->RE β}(p:Post D W φ α H σ R (RE.som o k)):∃a,o=some a/\Post D W φ α H σ R (k a):=by
 obtain⟨K,Z,⟨a,e,q⟩,h⟩:=p
 exact⟨a,e,K,Z,q,h⟩
theorem Post.br{b:Bool}{r s:RE β}(p:Post D W φ α H σ R (RE.br b r s)):(b=true/\Post D W φ α H σ R r)\/(b=false/\Post D W φ α H σ R s):=by
 obtain⟨K,Z,q,h⟩:=p
 cases b with
 |true=>exact .inl ⟨rfl,K,Z,q,h⟩
 |false=>exact .inr ⟨rfl,K,Z,q,h⟩
theorem Post.ok{a:β}{μ:Mem}(p:Post D W φ α H σ R (RE.ok a μ)){α':List Addr}{H':Hp}(s:Stp α H α' H')(m:MRel D φ α' H' μ):R a μ α' H':=by
 obtain⟨K,Z,q,h,_⟩:=p
 exact h a μ q α' H' s m
theorem Post.step{r:RE β}(p:Post D W φ α H σ R r)(st:Stp α H α' H'):Post D W φ α' H' σ R r:=by
 obtain⟨K,Z,q,h,z⟩:=p
 exact⟨K,Z,q,λb μ2 e2 α2 H2 s2 m2=>h b μ2 e2 α2 H2 (st.trans s2) m2,λc fs μ2 e2 α2 H2 C d s2 m2=>z c fs μ2 e2 α2 H2 C d (st.trans s2) m2⟩
theorem Post.ex1{δ:Type}{P:δ->Prop}{k:δ->RE β}(p:Post D W φ α H σ R (λK Z=>∃x,P x/\k x K Z)):∃x,P x/\Post D W φ α H σ R (k x):=by
 obtain⟨K,Z,⟨x,hx,q⟩,h⟩:=p
 exact⟨x,hx,K,Z,q,h⟩
end
noncomputable def rdE (D:DP)(W:XW)(f:De):TE:=λσ H Q=>∃φ α τ μ,SRel D φ α H τ σ/\MRel D φ α H μ/\Post D W φ α H σ (λt _ α' H'=>∀v,Den D φ α' H' t v->Q v H') (f τ μ)
noncomputable def rdT (D:DP)(W:XW)(f:Dt):TT:=λσ H Q=>∃φ α τ μ,SRel D φ α H τ σ/\MRel D φ α H μ/\Post D W φ α H σ (λb _ _ H'=>Q b H') (f τ μ)
noncomputable def rdA (D:DP)(W:XW)(n:Nat)(f:Da):TA:=λσ H Q=>∃φ α τ μ,SRel D φ α H τ σ/\MRel D φ α H μ/\Post D W φ α H σ (λts _ α' H'=>∀vs,DenL D φ α' H' ts vs->vs.length=n->Q vs H') (f τ μ)
section
variable {X:Cx}{D:DP}{W:XW}{pins:List (Addr×Obj)}{s:Shared}{σ:St}{H:Hp}{φ α:List Addr}{τ:Sl}{μ:Mem}{β:Type}{R:β->Mem->List Addr->Hp->Prop}
theorem sub{a:Expr}{f:Sl->Mem->RE T}{k:T->Mem->RE β}(ha:PE X a (rdE D W f))(I:Inv X pins σ H s)(sr:SRel D φ α H τ σ)(mr:MRel D φ α H μ)(p:Post D W φ α H σ R ((f τ μ).bind k)) :
  wpAny (model X.prog X.w) X.A (eval a X.env) (λu s1=>∃v H1 t μ1 α1,Inv X pins σ H1 s1/\RelV v u/\Stp α H α1 H1/\SRel D φ α1 H1 τ σ/\MRel D φ α1 H1 μ1/\Den D φ α1 H1 t v/\Post D W φ α1 H1 σ R (k t μ1)) X.xe s:=by
 refine thn (ha pins s σ H (λv H1=>∃t μ1 α1,Stp α H α1 H1/\SRel D φ α1 H1 τ σ/\MRel D φ α1 H1 μ1/\Den D φ α1 H1 t v/\Post D W φ α1 H1 σ R (k t μ1)) I ⟨φ,α,τ,μ,sr,mr,p.bind.mono λt μ' α' H' st m q v d=>⟨t,μ',α',st,sr.step st,m,d,q⟩⟩) ?_
 rintro u s1 ⟨v,H1,I1,r,t,μ1,α1,h⟩
 exact⟨v,H1,t,μ1,α1,I1,r,h⟩
theorem z4F{a:Expr}{f:Sl->Mem->RE Bool}{k:Bool->Mem->RE β}(ha:PT X a (rdT D W f))(I:Inv X pins σ H s)(sr:SRel D φ α H τ σ)(mr:MRel D φ α H μ)(p:Post D W φ α H σ R ((f τ μ).bind k)) :
  wpAny (model X.prog X.w) X.A (isTrue a X.env (eval a X.env)) (λb s1=>∃H1 μ1 α1,Inv X pins σ H1 s1/\Stp α H α1 H1/\SRel D φ α1 H1 τ σ/\MRel D φ α1 H1 μ1/\Post D W φ α1 H1 σ R (k b μ1)) X.xe s:=by
 refine thn (ha pins s σ H (λb H1=>∃μ1 α1,Stp α H α1 H1/\SRel D φ α1 H1 τ σ/\MRel D φ α1 H1 μ1/\Post D W φ α1 H1 σ R (k b μ1)) I ⟨φ,α,τ,μ,sr,mr,p.bind.mono λb μ' α' H' st m q=>⟨μ',α',st,sr.step st,m,q⟩⟩) ?_
 rintro b s1 ⟨H1,I1,μ1,α1,h⟩
 exact⟨H1,μ1,α1,I1,h⟩
theorem XF{es:List Expr}{n:Nat}{pos:Pos}{f:Da}{k:List T->Mem->RE β}(ha:PA X es (rdA D W n f))(I:Inv X pins σ H s)(sr:SRel D φ α H τ σ)(mr:MRel D φ α H μ)(p:Post D W φ α H σ R ((f τ μ).bind k)) :
  wpAny (model X.prog X.w) X.A (spliced (backTo pos (starEach es X.env))) (λus s1=>∃vs H1 ts μ1 α1,Inv X pins σ H1 s1/\Vals vs us/\Stp α H α1 H1/\SRel D φ α1 H1 τ σ/\MRel D φ α1 H1 μ1/\DenL D φ α1 H1 ts vs/\vs.length=n/\Post D W φ α1 H1 σ R (k ts μ1)) X.xe s:=by
 refine thn (ha pos pins s σ H (λvs H1=>∃ts μ1 α1,Stp α H α1 H1/\SRel D φ α1 H1 τ σ/\MRel D φ α1 H1 μ1/\DenL D φ α1 H1 ts vs/\vs.length=n/\Post D W φ α1 H1 σ R (k ts μ1)) I ⟨φ,α,τ,μ,sr,mr,p.bind.mono λts μ' α' H' st m q vs d hn=>⟨ts,μ',α',st,sr.step st,m,d,hn,q⟩⟩) ?_
 rintro us s1 ⟨vs,H1,I1,r,ts,μ1,α1,h⟩
 exact⟨vs,H1,ts,μ1,α1,I1,r,h⟩
abbrev RV(D:DP)(φ:List Addr)(Q:VK):T->Mem->List Addr->Hp->Prop:=λt _ α' H'=>∀v,Den D φ α' H' t v->Q v H'
theorem Post.here{Q:VK}{t:T}{v:V}(p:Post D W φ α H σ (RV D φ Q) (.ok t μ))(mr:MRel D φ α H μ)(d:Den D φ α H t v):Q v H:=p.ok (Stp.refl _ _) mr v d
theorem Post.fresh{Q:VK}{t:T}{v:V}{H':Hp}(p:Post D W φ α H σ (RV D φ Q) (.ok t μ))(mr:MRel D φ α H μ)(sm:xg H H')(d:Den D φ α H' t v):Q v H':=p.ok (Stp.new sm) (mr.new sm) v d
theorem zp{n:Nat}(h:n<=room):n<=sizeLine:=Nat.le_trans h (by unfold room;decide)
theorem zh{α:List Addr}(mr:MRel D φ α H μ){p:Addr}(h:H p=none):p∉φ:=λz=>by
 obtain⟨o,e⟩:=mr.phi p z
 rw[h] at e;cases e
theorem zi{α:List Addr}(mr:MRel D φ α H μ){p:Addr}(h:H p=none):p∉α:=λz=>by
 obtain⟨i,hi⟩:=List.mem_iff_getElem?.mp z
 have hl:i<μ.length:=by rw[←mr.len];exact (List.getElem?_eq_some_iff.mp hi).1
 obtain⟨u,e⟩:=(mr.ob i p μ[i] hi (by simp[hl])).some
 rw[h] at e;cases e
theorem qz:∀{ts:List T} {ns:List Int} {vs:List V},intsOf ts=some ns->DenL D φ α H ts vs->vs=ns.map V.int
 |[],ns,vs,h,l=>by
  simp[intsOf] at h;subst h
  exact l
 |t::ts,ns,vs,h,l=>by
  obtain⟨v,r,rfl,d,l⟩:=l
  cases t with
  |int i=>
   simp only[intsOf] at h
   cases q:intsOf ts with
   |none=>rw[q] at h;cases h
   |some ms=>
    rw[q] at h;cases h
    rw[qz q l]
    have d:v=.int i:=d
    rw[d];rfl
  |_=>simp[intsOf] at h
theorem JJ:OpR X (binaryOp .Add) (λx y H Q=>∃l b xs zs,x=.ref l/\y=.ref b/\Rd H l (.lst xs)/\Rd H b (.lst zs)/\xs.length+zs.length<=sizeLine/\∀p,H p=none->Q (.ref p) (upd H p (.lst (xs++zs)))):=by
 intro pins s σ H x y v u Q I rx ry h
 obtain⟨l,b,xs,zs,rfl,rfl,hH,hB,hz,q⟩:=h
 cases rx
 cases ry
 obtain⟨z,its,n,r,e⟩:=hH.ok I.hok
 obtain⟨z2,its2,n2,r2,e2⟩:=hB.ok I.hok
 refine PySem.P.add_list e e2 ?_ (by rw[List.size_toArray,List.size_toArray,←r.length,←r2.length];exact hz)
 rw[show its.toArray++its2.toArray=(its++its2).toArray by simp]
 exact⟨.ref _,_,I.lnew (t':=s.toks) (r.append r2) (by rw[List.length_append];exact hz),rfl,q _ I.fresh⟩
theorem Yb:OpR X (binaryOp .Add) (λx y H Q=>∃a b ys,x=.ref a/\y=.ref b/\SqT X.K H a []/\SqT X.K H b ys/\Q (.ref b) H):=by
 intro pins s σ H x y v u Q I rx ry h
 obtain⟨a,b,ys,rfl,rfl,ha,hb,q⟩:=h
 cases rx
 cases ry
 obtain⟨its,r1,p1,_⟩:=I.tuple ha
 obtain⟨its2,r2,p2,_⟩:=I.tuple hb
 cases r1
 obtain⟨⟨cls,dd,data,sl⟩,ho,hc,n,hd⟩:=id p1
 obtain⟨⟨cls2,dd2,data2,sl2⟩,ho2,hc2,n2,hd2⟩:=id p2
 simp only at hc hd hc2 hd2
 subst hc hd hc2 hd2
 exact concat_meets ⟨_,ho,rfl⟩ ⟨_,ho2,rfl⟩ noFill_tuple_add seq_tuple_add PySem.F.slot_tuple_add PySem.F.entry_tuple_add (PySem.F.args_tuple_add_2 _ _)
  (tuple_addW0 a b #[] its2.toArray n n2 dd dd2 sl sl2 rfl) ⟨ho,ho2,⟨.ref b,H,I,rfl,q⟩⟩
theorem Yj:OpR X (binaryOp .FloorDiv) (rI (λ_ j=>0<j/\j<1606938044258990275541962092341162602522202993782792835301376) λi j=>.int (i / j)):=opI λi j _ _ _ _ _ hc q=>by
 have h1:(0:Int)<j:=hc.1
 have h2:j<1606938044258990275541962092341162602522202993782792835301376:=hc.2
 refine floordiv_int (by omega) (by rw[Int.fdiv_eq_ediv_of_nonneg i (by omega)];exact q) (.inl (PyProof.noPylong_of_log2 ?_))
 refine Nat.lt_of_lt_of_le ((Nat.log2_lt (by omega)).2 (show j.natAbs<2 ^ 200 by omega)) (by decide)
theorem vh{f:Int->Int->Mem->RE T}{x y:T}{Q:VK}(p:Post D W φ α H σ (RV D φ Q) (Qv f x y μ)):∃i j,x=.int i/\y=.int j/\Post D W φ α H σ (RV D φ Q) (f i j μ):=by
 unfold Qv at p
 split at p
 ·exact⟨_,_,rfl,rfl,p⟩
 ·exact p.elim
theorem z4x{op:Operator}{x y:T}{v1 v2:V}{u1 u2:Value}{Q:VK}(I:Inv X pins σ H s)(mr:MRel D φ α H μ)(d1:Den D φ α H x v1)(d2:Den D φ α H y v2)(r1:RelV v1 u1)(r2:RelV v2 u2)
  (p:Post D W φ α H σ (RV D φ Q) (z4C op x y μ)):wpAny (model X.prog X.w) X.A (binaryOp op u1 u2) (EP X pins σ Q) X.xe s:=by
 have cat:∀{a b:Addr} {vs ws:List V} {xs ys:List T},Rd H a (.lst vs)->Rd H b (.lst ws)->DenL D φ α H xs vs->DenL D φ α H ys ws->v1=.ref a->v2=.ref b->xs.length+ys.length<=room->Post D W φ α H σ (RV D φ Q) (RE.ok (.lst (xs++ys)) μ)->wpAny (model X.prog X.w) X.A (binaryOp .Add u1 u2) (EP X pins σ Q) X.xe s:=λ{a b vs ws xs ys} q1 q2 l1 l2 e1 e2 h p=>by
  subst e1 e2
  refine JJ pins s σ H _ _ _ _ Q I r1 r2 ⟨a,b,vs,ws,rfl,rfl,q1,q2,by rw[←l1.length,←l2.length];exact zp h,λz hz=>?_⟩
  have sm:=zb (o:=.lst (vs++ws)) hz
  exact p.fresh mr sm ⟨z,_,rfl,zh mr hz,zi mr hz,.inl z6,(l1.step (Stp.new sm)).append (l2.step (Stp.new sm))⟩
 cases op with
 |Add=>
  replace p:Post D W φ α H σ (RV D φ Q) (z2B x y μ):=p
  unfold z2B at p
  split at p
  ·cases d1;cases d2
   exact z3s pins s σ H _ _ _ _ Q I r1 r2 ⟨_,_,rfl,rfl,p.here mr rfl⟩
  ·cases d1;cases d2
   obtain⟨h,p⟩:=p.grd
   exact V8 pins s σ H _ _ _ _ Q I r1 r2 ⟨_,_,rfl,rfl,zp h,p.here mr rfl⟩
  ·obtain⟨h,p⟩:=p.grd
   obtain⟨a,vs,rfl,n1,n2,q1,l1⟩:=d1
   obtain⟨b,ws,rfl,m1,m2,q2,l2⟩:=d2
   refine JJ pins s σ H _ _ _ _ Q I r1 r2 ⟨a,b,vs,ws,rfl,rfl,q1,q2,by rw[←l1.length,←l2.length];exact zp h,λz hz=>?_⟩
   have sm:=zb (o:=.lst (vs++ws)) hz
   exact p.fresh mr sm ⟨z,_,rfl,zh mr hz,zi mr hz,.inl z6,(l1.step (Stp.new sm)).append (l2.step (Stp.new sm))⟩
  ·rename_i xs ys
   obtain⟨h,p⟩:=p.grd
   ·obtain⟨a,vs,rfl,n1,n2,q1,l1⟩:=d1
    obtain⟨b,ws,rfl,m1,m2,q2,l2⟩:=d2
    cases vs with
    |nil=>
     cases xs with
     |cons x xs=>obtain⟨_,_,e,_⟩:=l1;cases e
     |nil=>exact Yb pins s σ H _ _ _ _ Q I r1 r2 ⟨a,b,ws,rfl,rfl,.inl q1,.inl q2,p.here mr ⟨b,ws,rfl,m1,m2,q2,l2⟩⟩
    |cons v vs=>
     refine z0f pins s σ H _ _ _ _ Q I r1 r2 ⟨a,b,v::vs,ws,rfl,rfl,.inl q1,.inl q2,by simp,by rw[←l1.length,←l2.length];exact zp h,λhw=>?_,λhw z hz=>?_⟩
     ·subst hw
      cases ys with
      |cons y ys=>obtain⟨_,_,e,_⟩:=l2;cases e
      |nil=>
       rw[List.append_nil] at p
       exact p.here mr ⟨a,v::vs,rfl,n1,n2,q1,l1⟩
     ·have sm:=zb (o:=.tup (v::vs++ws)) hz
      exact p.fresh mr sm ⟨z,_,rfl,zh mr hz,zi mr hz,.inl z6,(l1.step (Stp.new sm)).append (l2.step (Stp.new sm))⟩
  ·obtain⟨xs,hi,p⟩:=p.ex1
   obtain⟨h,p⟩:=Post.grd p
   obtain⟨a,hi',rfl⟩:=d1
   obtain⟨vs,q1,l1⟩:=mr.ob _ a _ hi' hi
   obtain⟨b,ws,rfl,m1,m2,q2,l2⟩:=d2
   exact cat (.inl q1) q2 l1 l2 rfl rfl h p
  ·obtain⟨ys,hi,p⟩:=p.ex1
   obtain⟨h,p⟩:=Post.grd p
   obtain⟨a,hi',rfl⟩:=d2
   obtain⟨vs,q1,l1⟩:=mr.ob _ a _ hi' hi
   obtain⟨b,ws,rfl,m1,m2,q2,l2⟩:=d1
   exact cat q2 (.inl q1) l2 l1 rfl rfl h p
  ·obtain⟨pr,hi,p⟩:=p.ex1
   obtain⟨h,p⟩:=Post.grd p
   obtain⟨a,hi',rfl⟩:=d1
   obtain⟨vs,q1,l1⟩:=mr.ob _ a _ hi' hi.1
   obtain⟨b,hj',rfl⟩:=d2
   obtain⟨ws,q2,l2⟩:=mr.ob _ b _ hj' hi.2
   exact cat (.inl q1) (.inl q2) l1 l2 rfl rfl h p
  ·exact p.elim
 |Sub=>
  obtain⟨i,j,rfl,rfl,p⟩:=vh p
  cases d1;cases d2
  exact z43 pins s σ H _ _ _ _ Q I r1 r2 ⟨_,_,rfl,rfl,p.here mr rfl⟩
 |Mult=>
  obtain⟨i,j,rfl,rfl,p⟩:=vh p
  cases d1;cases d2
  obtain⟨h,p⟩:=p.grd
  exact z4m pins s σ H _ _ _ _ Q I r1 r2 ⟨_,_,rfl,rfl,by simpa[CMul,big] using h,p.here mr rfl⟩
 |FloorDiv=>
  obtain⟨i,j,rfl,rfl,p⟩:=vh p
  cases d1;cases d2
  obtain⟨h,p⟩:=p.grd
  exact Yj pins s σ H _ _ _ _ Q I r1 r2 ⟨_,_,rfl,rfl,h,p.here mr rfl⟩
 |Mod=>
  obtain⟨i,j,rfl,rfl,p⟩:=vh p
  cases d1;cases d2
  obtain⟨h,p⟩:=p.grd
  exact z3H pins s σ H _ _ _ _ Q I r1 r2 ⟨_,_,rfl,rfl,h,p.here mr rfl⟩
 |Pow=>
  obtain⟨i,j,rfl,rfl,p⟩:=vh p
  cases d1;cases d2
  obtain⟨h,p⟩:=p.grd
  exact z3R pins s σ H _ _ _ _ Q I r1 r2 ⟨_,_,rfl,rfl,⟨h.1,h.2.1,by simpa using h.2.2⟩,p.here mr rfl⟩
 |RShift=>
  obtain⟨i,j,rfl,rfl,p⟩:=vh p
  cases d1;cases d2
  obtain⟨h,p⟩:=p.grd
  exact z4t pins s σ H _ _ _ _ Q I r1 r2 ⟨_,_,rfl,rfl,h,p.here mr rfl⟩
 |BitAnd=>
  obtain⟨i,j,rfl,rfl,p⟩:=vh p
  cases d1;cases d2
  exact z3Y pins s σ H _ _ _ _ Q I r1 r2 ⟨_,_,rfl,rfl,p.here mr rfl⟩
 |_=>exact (show Post D W φ α H σ (RV D φ Q) .st from p).elim
end
end NH
end
section
namespace NH
open PySem PySem.Spec PyProof.Rows L2
section
variable {D:DP}{φ α:List Addr}{H:Hp}
theorem Rd.inj{a:Addr}{u w:HO}(hu:∀o z,u≠.frz o z)(hw:∀o z,w≠.frz o z)(r:Rd H a u)(q:Rd H a w):u=w:=by
 rcases r with r|⟨o,r⟩<;>rcases q with q|⟨o',q⟩<;>rw[r] at q
 ·exact Option.some.inj q
 ·exact absurd (Option.some.inj q) (hu _ _)
 ·exact absurd (Option.some.inj q).symm (hw _ _)
 ·injection Option.some.inj q
mutual
theorem uj:∀{t u:T} {v:V} {k:Bool},Den D φ α H t v->Den D φ α H u v->eqT t u=some k->k=true
 |.int i,u,_,k,h1,h2,e=>by
  have h1:_=V.int i:=h1
  subst h1
  cases u with
  |int j=>have h2:V.int i=V.int j:=h2;injection h2 with h2;subst h2;rw[←Option.some.inj e];simp
  |bl b=>have h2:V.int i=V.bl b:=h2;cases h2
  |str b=>have h2:V.int i=V.str b:=h2;cases h2
  |non=>have h2:V.int i=V.non:=h2;cases h2
  |tup b=>obtain⟨_,_,h2,_⟩:=h2;cases h2
  |lst b=>obtain⟨_,_,h2,_⟩:=h2;cases h2
  |_=>cases e
 |.bl i,u,_,k,h1,h2,e=>by
  have h1:_=V.bl i:=h1
  subst h1
  cases u with
  |bl j=>have h2:V.bl i=V.bl j:=h2;injection h2 with h2;subst h2;rw[←Option.some.inj e];simp
  |int b=>have h2:V.bl i=V.int b:=h2;cases h2
  |str b=>have h2:V.bl i=V.str b:=h2;cases h2
  |non=>have h2:V.bl i=V.non:=h2;cases h2
  |tup b=>obtain⟨_,_,h2,_⟩:=h2;cases h2
  |lst b=>obtain⟨_,_,h2,_⟩:=h2;cases h2
  |_=>cases e
 |.str i,u,_,k,h1,h2,e=>by
  have h1:_=V.str i:=h1
  subst h1
  cases u with
  |str j=>have h2:V.str i=V.str j:=h2;injection h2 with h2;subst h2;rw[←Option.some.inj e];simp
  |int b=>have h2:V.str i=V.int b:=h2;cases h2
  |bl b=>have h2:V.str i=V.bl b:=h2;cases h2
  |non=>have h2:V.str i=V.non:=h2;cases h2
  |tup b=>obtain⟨_,_,h2,_⟩:=h2;cases h2
  |lst b=>obtain⟨_,_,h2,_⟩:=h2;cases h2
  |_=>cases e
 |.non,u,_,k,h1,h2,e=>by
  have h1:_=V.non:=h1
  subst h1
  cases u with
  |non=>exact (Option.some.inj e).symm
  |int b=>have h2:V.non=V.int b:=h2;cases h2
  |bl b=>have h2:V.non=V.bl b:=h2;cases h2
  |str b=>have h2:V.non=V.str b:=h2;cases h2
  |tup b=>obtain⟨_,_,h2,_⟩:=h2;cases h2
  |lst b=>obtain⟨_,_,h2,_⟩:=h2;cases h2
  |_=>cases e
 |.tup ts,u,_,k,h1,h2,e=>by
  obtain⟨a,xs,rfl,_,_,r,l⟩:=h1
  cases u with
  |tup us=>
   obtain⟨b,ys,e2,_,_,r',l'⟩:=h2
   cases e2
   have:=Rd.inj (by intro _ _ z;cases z) (by intro _ _ z;cases z) r r'
   injection this with this
   subst this
   exact kP l l' e
  |lst us=>
   obtain⟨b,ys,e2,_,_,r',l'⟩:=h2
   cases e2
   have:=Rd.inj (by intro _ _ z;cases z) (by intro _ _ z;cases z) r r'
   cases this
  |int b=>have h2:V.ref a=V.int b:=h2;cases h2
  |bl b=>have h2:V.ref a=V.bl b:=h2;cases h2
  |str b=>have h2:V.ref a=V.str b:=h2;cases h2
  |non=>have h2:V.ref a=V.non:=h2;cases h2
  |_=>cases e
 |.lst ts,u,_,k,h1,h2,e=>by
  obtain⟨a,xs,rfl,_,_,r,l⟩:=h1
  cases u with
  |lst us=>
   obtain⟨b,ys,e2,_,_,r',l'⟩:=h2
   cases e2
   have:=Rd.inj (by intro _ _ z;cases z) (by intro _ _ z;cases z) r r'
   injection this with this
   subst this
   exact kP l l' e
  |tup us=>
   obtain⟨b,ys,e2,_,_,r',l'⟩:=h2
   cases e2
   have:=Rd.inj (by intro _ _ z;cases z) (by intro _ _ z;cases z) r r'
   cases this
  |int b=>have h2:V.ref a=V.int b:=h2;cases h2
  |bl b=>have h2:V.ref a=V.bl b:=h2;cases h2
  |str b=>have h2:V.ref a=V.str b:=h2;cases h2
  |non=>have h2:V.ref a=V.non:=h2;cases h2
  |_=>cases e
 |.obj _ _,_,_,_,_,_,e=>by cases e
 |.mut _,_,_,_,_,_,e=>by cases e
 |.exc _ _,_,_,_,_,_,e=>by cases e
 |.dic _,_,_,_,_,_,e=>by cases e
 |.clo _ _,_,_,_,_,_,e=>by cases e
theorem kP:∀{ts us:List T} {vs:List V} {k:Bool},DenL D φ α H ts vs->DenL D φ α H us vs->eqL ts us=some k->k=true
 |[],[],_,k,_,_,e=>by simpa[eqL] using e.symm
 |[],_::_,_,k,h1,h2,e=>by
  have h1:_=[]:=h1
  obtain⟨_,_,h2,_⟩:=h2
  rw[h1] at h2;cases h2
 |_::_,[],_,k,h1,h2,e=>by
  have h2:_=[]:=h2
  obtain⟨_,_,h1,_⟩:=h1
  rw[h2] at h1;cases h1
 |t::ts,u::us,_,k,h1,h2,e=>by
  obtain⟨v,r,rfl,a1,b1⟩:=h1
  obtain⟨v',r',q,a2,b2⟩:=h2
  injection q with q1 q2
  subst q1 q2
  cases h:eqT t u with
  |none=>simp[eqL,h] at e
  |some x=>
   cases h':eqL ts us with
   |none=>simp[eqL,h,h'] at e
   |some y=>
    have e1:=uj a1 a2 h
    have e2:=kP b1 b2 h'
    subst e1 e2
    simpa[eqL,h,h'] using e.symm
end
end
section
variable {X:Cx}{D:DP}{pins:List (Addr×Obj)}{s:Shared}{σ:St}{H:Hp}{φ α:List Addr}
theorem uu:∀{ts us:List T} {k:Bool},eqL ts us=some k->(∀j (h1:j<ts.length) (h2:j<us.length),∃b,eqT ts[j] us[j]=some b)/\
  k=((List.range (min ts.length us.length)).all (λj=>match ts[j]?,us[j]? with|some t,some u=>(eqT t u).getD false|_,_=>false)&&ts.length == us.length)
 |[],[],k,e=>by
  simp[eqL] at e;subst e
  exact⟨λj h1=>by simp at h1,by simp⟩
 |[],u::us,k,e=>by
  simp[eqL] at e;subst e
  exact⟨λj h1=>by simp at h1,by simp⟩
 |t::ts,[],k,e=>by
  simp[eqL] at e;subst e
  exact⟨λj h1 h2=>by simp at h2,by simp⟩
 |t::ts,u::us,k,e=>by
  cases h:eqT t u with
  |none=>simp[eqL,h] at e
  |some x=>
   cases h':eqL ts us with
   |none=>simp[eqL,h,h'] at e
   |some y=>
    obtain⟨g,ih⟩:=uu h'
    simp[eqL,h,h'] at e
    subst e
    refine⟨λj h1 h2=>?_,?_⟩
    ·cases j with
     |zero=>exact⟨x,h⟩
     |succ j=>exact g j (by simpa using h1) (by simpa using h2)
    ·rw[ih]
     have e1:min (t::ts).length (u::us).length=min ts.length us.length+1:=by simp[Nat.succ_min_succ]
     rw[e1,List.range_succ_eq_map,List.all_cons,List.all_map]
     simp only[List.getElem?_cons_zero,h,Option.getD_some,Function.comp_def,List.getElem?_cons_succ,List.length_cons]
     rw[Bool.and_assoc]
     congr 2
     simp
theorem in1_units(A:Around):A.in1.units=A.units+1:=by first|rfl|simp[Around.in1,Around.units]
theorem eqAt_int(I:Inv X pins σ H s){i:Int}{u:T}{v w:V}{a b:Value}{k:Bool}{A:Around}(h1:Den D φ α H (.int i) v)(h2:Den D φ α H u w)(r1:RelV v a)(r2:RelV w b)(e:eqT (.int i) u=some k)(hu:A.units+jn (.int i)+1<cLine):SeqAt.EqAt A s a b k:=by
 have h1:_=V.int i:=h1
 subst h1
 obtain⟨t1,rfl⟩:=r1
 cases u with
 |int j=>have h2:w=V.int j:=h2;subst h2;obtain⟨t2,rfl⟩:=r2;cases Option.some.inj e;exact SeqAt.EqAt.int_int _ _ _ _
 |bl j=>have h2:w=V.bl j:=h2;subst h2;cases r2;cases Option.some.inj e;exact SeqAt.EqAt.int_bool _ _ _
 |str j=>have h2:w=V.str j:=h2;subst h2;obtain⟨t2,rfl⟩:=r2;cases Option.some.inj e;exact SeqAt.EqAt.int_str _ _ _ _
 |non=>have h2:w=V.non:=h2;subst h2;cases r2;cases Option.some.inj e;exact SeqAt.EqAt.int_none _ _
 |tup ys=>obtain⟨c,xs,rfl,_,_,r,_⟩:=h2;cases r2;obtain⟨its,_,p,_⟩:=I.tuple (.inl r);cases Option.some.inj e;exact SeqAt.EqAt.int_tuple _ _ p (by omega)
 |lst ys=>obtain⟨c,xs,rfl,_,_,r,_⟩:=h2;cases r2;obtain⟨its,_,p,_⟩:=I.list (.inl r);cases Option.some.inj e;exact SeqAt.EqAt.int_list _ _ p.isList (by omega)
 |_=>cases e
theorem z0j(I:Inv X pins σ H s){i:Bool}{u:T}{v w:V}{a b:Value}{k:Bool}{A:Around}(h1:Den D φ α H (.bl i) v)(h2:Den D φ α H u w)(r1:RelV v a)(r2:RelV w b)(e:eqT (.bl i) u=some k)(hu:A.units+jn (.bl i)+1<cLine):SeqAt.EqAt A s a b k:=by
 have h1:_=V.bl i:=h1
 subst h1
 cases r1
 cases u with
 |int j=>have h2:w=V.int j:=h2;subst h2;obtain⟨t2,rfl⟩:=r2;cases Option.some.inj e;exact SeqAt.EqAt.bool_int _ _ _
 |bl j=>have h2:w=V.bl j:=h2;subst h2;cases r2;cases Option.some.inj e;exact SeqAt.EqAt.bool_bool _ _
 |str j=>have h2:w=V.str j:=h2;subst h2;obtain⟨t2,rfl⟩:=r2;cases Option.some.inj e;exact SeqAt.EqAt.bool_str _ _ _
 |non=>have h2:w=V.non:=h2;subst h2;cases r2;cases Option.some.inj e;exact SeqAt.EqAt.bool_none _
 |tup ys=>obtain⟨c,xs,rfl,_,_,r,_⟩:=h2;cases r2;obtain⟨its,_,p,_⟩:=I.tuple (.inl r);cases Option.some.inj e;exact SeqAt.EqAt.bool_tuple _ p (by omega)
 |lst ys=>obtain⟨c,xs,rfl,_,_,r,_⟩:=h2;cases r2;obtain⟨its,_,p,_⟩:=I.list (.inl r);cases Option.some.inj e;exact SeqAt.EqAt.bool_list _ p.isList (by omega)
 |_=>cases e
theorem XE(I:Inv X pins σ H s){i:Str}{u:T}{v w:V}{a b:Value}{k:Bool}{A:Around}(h1:Den D φ α H (.str i) v)(h2:Den D φ α H u w)(r1:RelV v a)(r2:RelV w b)(e:eqT (.str i) u=some k)(hu:A.units+jn (.str i)+1<cLine):SeqAt.EqAt A s a b k:=by
 have h1:_=V.str i:=h1
 subst h1
 obtain⟨t1,rfl⟩:=r1
 cases u with
 |int j=>have h2:w=V.int j:=h2;subst h2;obtain⟨t2,rfl⟩:=r2;cases Option.some.inj e;exact SeqAt.EqAt.str_int _ _ _ _
 |bl j=>have h2:w=V.bl j:=h2;subst h2;cases r2;cases Option.some.inj e;exact SeqAt.EqAt.str_bool _ _ _
 |str j=>have h2:w=V.str j:=h2;subst h2;obtain⟨t2,rfl⟩:=r2;cases Option.some.inj e;exact SeqAt.EqAt.str_str _ _ _ _
 |non=>have h2:w=V.non:=h2;subst h2;cases r2;cases Option.some.inj e;exact SeqAt.EqAt.str_none _ _
 |tup ys=>obtain⟨c,xs,rfl,_,_,r,_⟩:=h2;cases r2;obtain⟨its,_,p,_⟩:=I.tuple (.inl r);cases Option.some.inj e;exact SeqAt.EqAt.str_tuple _ _ p (by omega)
 |lst ys=>obtain⟨c,xs,rfl,_,_,r,_⟩:=h2;cases r2;obtain⟨its,_,p,_⟩:=I.list (.inl r);cases Option.some.inj e;exact SeqAt.EqAt.str_list _ _ p.isList (by omega)
 |_=>cases e
theorem YI(I:Inv X pins σ H s){u:T}{v w:V}{a b:Value}{k:Bool}{A:Around}(h1:Den D φ α H .non v)(h2:Den D φ α H u w)(r1:RelV v a)(r2:RelV w b)(e:eqT .non u=some k)(hu:A.units+jn .non+1<cLine):SeqAt.EqAt A s a b k:=by
 have h1:_=V.non:=h1
 subst h1
 cases r1
 cases u with
 |int j=>have h2:w=V.int j:=h2;subst h2;obtain⟨t2,rfl⟩:=r2;cases Option.some.inj e;exact SeqAt.EqAt.none_int _ _
 |bl j=>have h2:w=V.bl j:=h2;subst h2;cases r2;cases Option.some.inj e;exact SeqAt.EqAt.none_bool _
 |str j=>have h2:w=V.str j:=h2;subst h2;obtain⟨t2,rfl⟩:=r2;cases Option.some.inj e;exact SeqAt.EqAt.none_str _ _
 |non=>have h2:w=V.non:=h2;subst h2;cases r2;cases Option.some.inj e;exact SeqAt.EqAt.same _
 |tup ys=>obtain⟨c,xs,rfl,_,_,r,_⟩:=h2;cases r2;obtain⟨its,_,p,_⟩:=I.tuple (.inl r);cases Option.some.inj e;exact SeqAt.EqAt.none_tuple p (by omega)
 |lst ys=>obtain⟨c,xs,rfl,_,_,r,_⟩:=h2;cases r2;obtain⟨its,_,p,_⟩:=I.list (.inl r);cases Option.some.inj e;exact SeqAt.EqAt.none_list p.isList (by omega)
 |_=>cases e
theorem VM(I:Inv X pins σ H s){ts:List T}{u:T}{v0 w:V}{a b:Value}{k:Bool}{A:Around}(hn:∀us,u≠.tup us)(h1:Den D φ α H (.tup ts) v0)(h2:Den D φ α H u w)(r1:RelV v0 a)(r2:RelV w b)(e:eqT (.tup ts) u=some k)(hu:A.units+jn (.tup ts)+1<cLine):SeqAt.EqAt A s a b k:=by
 cases u with
 |tup us=>exact absurd rfl (hn us)
 |lst us=>
  obtain⟨c,xs,rfl,_,_,r,l⟩:=h1
  obtain⟨d,ys,rfl,_,_,r',l'⟩:=h2
  cases r1;cases r2
  obtain⟨_,_,p,_⟩:=I.tuple (.inl r)
  obtain⟨_,_,p',_⟩:=I.list (.inl r')
  cases Option.some.inj e
  exact SeqAt.EqAt.tuple_list p p'.isList (by omega)
 |int j=>have h2:w=V.int j:=h2;subst h2;obtain⟨t2,rfl⟩:=r2;obtain⟨c,xs,rfl,_,_,r,_⟩:=h1;cases r1;obtain⟨its,_,p,_⟩:=I.tuple (.inl r);cases Option.some.inj e;exact SeqAt.EqAt.tuple_int _ _ p (by omega)
 |bl j=>have h2:w=V.bl j:=h2;subst h2;cases r2;obtain⟨c,xs,rfl,_,_,r,_⟩:=h1;cases r1;obtain⟨its,_,p,_⟩:=I.tuple (.inl r);cases Option.some.inj e;exact SeqAt.EqAt.tuple_bool _ p (by omega)
 |str j=>have h2:w=V.str j:=h2;subst h2;obtain⟨t2,rfl⟩:=r2;obtain⟨c,xs,rfl,_,_,r,_⟩:=h1;cases r1;obtain⟨its,_,p,_⟩:=I.tuple (.inl r);cases Option.some.inj e;exact SeqAt.EqAt.tuple_str _ _ p (by omega)
 |non=>have h2:w=V.non:=h2;subst h2;cases r2;obtain⟨c,xs,rfl,_,_,r,_⟩:=h1;cases r1;obtain⟨its,_,p,_⟩:=I.tuple (.inl r);cases Option.some.inj e;exact SeqAt.EqAt.tuple_none p (by omega)
 |_=>cases e
theorem Vy(I:Inv X pins σ H s){ts:List T}{u:T}{v0 w:V}{a b:Value}{k:Bool}{A:Around}(hn:∀us,u≠.lst us)(h1:Den D φ α H (.lst ts) v0)(h2:Den D φ α H u w)(r1:RelV v0 a)(r2:RelV w b)(e:eqT (.lst ts) u=some k)(hu:A.units+jn (.lst ts)+1<cLine):SeqAt.EqAt A s a b k:=by
 cases u with
 |lst us=>exact absurd rfl (hn us)
 |tup us=>
  obtain⟨c,xs,rfl,_,_,r,l⟩:=h1
  obtain⟨d,ys,rfl,_,_,r',l'⟩:=h2
  cases r1;cases r2
  obtain⟨_,_,p,_⟩:=I.list (.inl r)
  obtain⟨_,_,p',_⟩:=I.tuple (.inl r')
  cases Option.some.inj e
  exact SeqAt.EqAt.list_tuple p.isList p' (by omega)
 |int j=>have h2:w=V.int j:=h2;subst h2;obtain⟨t2,rfl⟩:=r2;obtain⟨c,xs,rfl,_,_,r,_⟩:=h1;cases r1;obtain⟨its,_,p,_⟩:=I.list (.inl r);cases Option.some.inj e;exact SeqAt.EqAt.list_int _ _ p.isList (by omega)
 |bl j=>have h2:w=V.bl j:=h2;subst h2;cases r2;obtain⟨c,xs,rfl,_,_,r,_⟩:=h1;cases r1;obtain⟨its,_,p,_⟩:=I.list (.inl r);cases Option.some.inj e;exact SeqAt.EqAt.list_bool _ p.isList (by omega)
 |str j=>have h2:w=V.str j:=h2;subst h2;obtain⟨t2,rfl⟩:=r2;obtain⟨c,xs,rfl,_,_,r,_⟩:=h1;cases r1;obtain⟨its,_,p,_⟩:=I.list (.inl r);cases Option.some.inj e;exact SeqAt.EqAt.list_str _ _ p.isList (by omega)
 |non=>have h2:w=V.non:=h2;subst h2;cases r2;obtain⟨c,xs,rfl,_,_,r,_⟩:=h1;cases r1;obtain⟨its,_,p,_⟩:=I.list (.inl r);cases Option.some.inj e;exact SeqAt.EqAt.list_none p.isList (by omega)
 |_=>cases e
noncomputable def EqN (D:DP)(φ α:List Addr)(H:Hp)(s:Shared)(n:Nat):Prop:=∀(t u:T) (v w:V) (a b:Value) (k:Bool) (A:Around),jn t<n->Den D φ α H t v->Den D φ α H u w->RelV v a->RelV w b->eqT t u=some k->A.units+jn t+1<cLine->SeqAt.EqAt A s a b k
theorem wd{n:Nat}(ih:EqN D φ α H s n):∀{ts us:List T} {xs ys:List V} {its its2:List Value} {A:Around},qH ts<n->DenL D φ α H ts xs->DenL D φ α H us ys->Vals xs its->Vals ys its2->A.units+qH ts+1<cLine->
  ∀(j:Nat) (h1:j<its.length) (h2:j<its2.length),(∀(g1:j<ts.length) (g2:j<us.length),∃b,eqT ts[j] us[j]=some b)->SeqAt.EqAt A s its[j] its2[j] (match ts[j]?,us[j]? with|some t,some u=>(eqT t u).getD false|_,_=>false)
 |[],_,xs,_,its,_,A,_,l,_,rv,_,_,j,h1,_,_=>by
  have l:xs=[]:=l
  subst l
  cases rv
  simp at h1
 |t::ts,us,xs,ys,its,its2,A,hd,l,l',rv,rv',hu,j,h1,h2,g=>by
  obtain⟨v,r,rfl,d1,l⟩:=l
  cases rv with
  | @cons _ u0 _ us0 r0 rv=>
  cases us with
  |nil=>
   have l':ys=[]:=l'
   subst l'
   cases rv'
   simp at h2
  |cons u us=>
   obtain⟨w,r',rfl,d2,l'⟩:=l'
   cases rv' with
   | @cons _ u0' _ us0' r0' rv'=>
   simp only[qH] at hu hd
   cases j with
   |zero=>
    obtain⟨b,hb⟩:=g (by simp) (by simp)
    have hb':eqT t u=some b:=by simpa using hb
    simp only[List.getElem?_cons_zero,hb',Option.getD_some,List.getElem_cons_zero]
    exact ih _ _ _ _ _ _ _ _ (by omega) d1 d2 r0 r0' hb' (by omega)
   |succ j=>
    simp only[List.getElem?_cons_succ,List.getElem_cons_succ]
    exact wd ih (by omega) l l' rv rv' (by omega) j (by simpa using h1) (by simpa using h2) λg1 g2=>by
     obtain⟨b,hb⟩:=g (by simpa using g1) (by simpa using g2)
     exact⟨b,by simpa using hb⟩
theorem ZH(I:Inv X pins σ H s){n:Nat}(ih:EqN D φ α H s n){ts us:List T}{xs ys:List V}{c d:Addr}{k:Bool}{A:Around}(hd:qH ts<n)(l:DenL D φ α H ts xs)(l':DenL D φ α H us ys)(r:Rd H c (.tup xs))(r':Rd H d (.tup ys))(e:eqL ts us=some k)(hu:A.units+qH ts+2<cLine):SeqAt.RcAt A s (.ref c) (.ref d) k:=by
 obtain⟨its,rv,p,_⟩:=I.tuple (.inl r)
 obtain⟨its2,rv',p',_⟩:=I.tuple (.inl r')
 obtain⟨g,rfl⟩:=uu e
 have h1:ts.length=its.length:=l.length.trans rv.length
 have h2:us.length=its2.length:=l'.length.trans rv'.length
 have:=SeqAt.RcAt.tuples (A:=A) (e:=λj=>match ts[j]?,us[j]? with|some t,some u=>(eqT t u).getD false|_,_=>false) p p' (by omega) λj q1 q2=>by
  have:=wd (A:=A.in1) ih hd l l' rv rv' (by rw[in1_units];omega) j (by simpa using q1) (by simpa using q2) λg1 g2=>g j g1 g2
  simpa using this
 simpa[h1,h2] using this
theorem Zz(I:Inv X pins σ H s){n:Nat}(ih:EqN D φ α H s n){ts us:List T}{xs ys:List V}{c d:Addr}{k:Bool}{A:Around}(hd:qH ts<n)(l:DenL D φ α H ts xs)(l':DenL D φ α H us ys)(r:Rd H c (.lst xs))(r':Rd H d (.lst ys))(e:eqL ts us=some k)(hu:A.units+qH ts+2<cLine):SeqAt.RcAt A s (.ref c) (.ref d) k:=by
 obtain⟨its,rv,p,_⟩:=I.list (.inl r)
 obtain⟨its2,rv',p',_⟩:=I.list (.inl r')
 obtain⟨g,rfl⟩:=uu e
 have h1:ts.length=its.length:=l.length.trans rv.length
 have h2:us.length=its2.length:=l'.length.trans rv'.length
 by_cases hl:ts.length=us.length
 ·have:=SeqAt.RcAt.lists (A:=A) (e:=λj=>match ts[j]?,us[j]? with|some t,some u=>(eqT t u).getD false|_,_=>false) p.isList p'.isList (by simp;omega) (by omega) λj q1 q2=>by
   have:=wd (A:=A.in1) ih hd l l' rv rv' (by rw[in1_units];omega) j (by simpa using q1) (by simpa using q2) λg1 g2=>g j g1 g2
   simpa using this
  have e2:min ts.length us.length=its.length:=by omega
  have e3:(ts.length == us.length)=true:=by simpa using hl
  rw[e2,e3,Bool.and_true]
  simpa using this
 ·have e3:(ts.length == us.length)=false:=by simpa using hl
  rw[e3,Bool.and_false]
  exact SeqAt.RcAt.lists_lengths p.isList p'.isList (by simp;omega) (by omega)
theorem yh(I:Inv X pins σ H s):∀n,EqN D φ α H s n
 |0=>λ_ _ _ _ _ _ _ _ hn=>absurd hn (by omega)
 |n+1=>λt u v w a b k A hn h1 h2 r1 r2 e hu=>by
  have ih:=yh I n
  cases t with
  |int i=>exact eqAt_int I h1 h2 r1 r2 e hu
  |bl i=>exact z0j I h1 h2 r1 r2 e hu
  |str i=>exact XE I h1 h2 r1 r2 e hu
  |non=>exact YI I h1 h2 r1 r2 e hu
  |tup ts=>
   cases u with
   |tup us=>
    have hs:=λ(q:w=v)=>uj h1 (q▸h2) e
    obtain⟨c,xs,rfl,_,_,r,l⟩:=h1
    obtain⟨d,ys,rfl,_,_,r',l'⟩:=h2
    cases r1;cases r2
    by_cases hcd:c=d
    ·subst hcd
     rw[hs rfl]
     exact SeqAt.EqAt.same _
    ·refine SeqAt.EqAt.of_refs hcd ?_
     exact ZH I ih (by simp only[jn] at hn;omega) l l' r r' e (by simp only[jn] at hu;omega)
   |_=>exact VM I (by intro _ z;cases z) h1 h2 r1 r2 e hu
  |lst ts=>
   cases u with
   |lst us=>
    have hs:=λ(q:w=v)=>uj h1 (q▸h2) e
    obtain⟨c,xs,rfl,_,_,r,l⟩:=h1
    obtain⟨d,ys,rfl,_,_,r',l'⟩:=h2
    cases r1;cases r2
    by_cases hcd:c=d
    ·subst hcd
     rw[hs rfl]
     exact SeqAt.EqAt.same _
    ·refine SeqAt.EqAt.of_refs hcd ?_
     exact Zz I ih (by simp only[jn] at hn;omega) l l' r r' e (by simp only[jn] at hu;omega)
   |_=>exact Vy I (by intro _ z;cases z) h1 h2 r1 r2 e hu
  |_=>cases e
theorem X2(I:Inv X pins σ H s){t u:T}{v w:V}{a b:Value}{k:Bool}{A:Around}(h1:Den D φ α H t v)(h2:Den D φ α H u w)(r1:RelV v a)(r2:RelV w b)(e:eqT t u=some k)(hu:A.units+jn t+1<cLine):SeqAt.EqAt A s a b k:=yh I _ _ _ _ _ _ _ _ _ (Nat.lt_succ_self _) h1 h2 r1 r2 e hu
theorem XR(I:Inv X pins σ H s){ts us:List T}{xs ys:List V}{c d:Addr}{k:Bool}{A:Around}(l:DenL D φ α H ts xs)(l':DenL D φ α H us ys)(r:Rd H c (.tup xs))(r':Rd H d (.tup ys))(e:eqL ts us=some k)(hu:A.units+qH ts+2<cLine):SeqAt.RcAt A s (.ref c) (.ref d) k:=ZH I (yh I _) (Nat.lt_succ_self _) l l' r r' e hu
theorem Xy(I:Inv X pins σ H s){ts us:List T}{xs ys:List V}{c d:Addr}{k:Bool}{A:Around}(l:DenL D φ α H ts xs)(l':DenL D φ α H us ys)(r:Rd H c (.lst xs))(r':Rd H d (.lst ys))(e:eqL ts us=some k)(hu:A.units+qH ts+2<cLine):SeqAt.RcAt A s (.ref c) (.ref d) k:=Zz I (yh I _) (Nat.lt_succ_self _) l l' r r' e hu
theorem yd(I:Inv X pins σ H s):∀{ts us:List T} {xs ys:List V} {its its2:List Value} {A:Around},DenL D φ α H ts xs->DenL D φ α H us ys->Vals xs its->Vals ys its2->A.units+qH ts+1<cLine->
  ∀(j:Nat) (h1:j<its.length) (h2:j<its2.length),(∀(g1:j<ts.length) (g2:j<us.length),∃b,eqT ts[j] us[j]=some b)->SeqAt.EqAt A s its[j] its2[j] (match ts[j]?,us[j]? with|some t,some u=>(eqT t u).getD false|_,_=>false):=λl l' rv rv' hu=>wd (yh I _) (Nat.lt_succ_self _) l l' rv rv' hu
theorem Ug(I:Inv X pins σ H s){ts us:List T}{xs ys:List V}{c d:Addr}{k:Bool}{A:Around}(l:DenL D φ α H ts xs)(l':DenL D φ α H us ys)(r:Rd H c (.tup xs))(r':Rd H d (.tup ys))(e:eqL ts us=some k)(hu:A.units+qH ts+2<cLine):SeqAt.RcNeAt A s (.ref c) (.ref d) (!k):=by
 obtain⟨its,rv,p,_⟩:=I.tuple (.inl r)
 obtain⟨its2,rv',p',_⟩:=I.tuple (.inl r')
 obtain⟨g,rfl⟩:=uu e
 have h1:ts.length=its.length:=l.length.trans rv.length
 have h2:us.length=its2.length:=l'.length.trans rv'.length
 have:=SeqAt.RcNeAt.tuples (A:=A) (e:=λj=>match ts[j]?,us[j]? with|some t,some u=>(eqT t u).getD false|_,_=>false) p p' (by omega) λj q1 q2=>by
  have:=yd (A:=A.in1) I l l' rv rv' (by rw[in1_units];omega) j (by simpa using q1) (by simpa using q2) λg1 g2=>g j g1 g2
  simpa using this
 simpa[h1,h2] using this
theorem Ye(I:Inv X pins σ H s){ts us:List T}{xs ys:List V}{c d:Addr}{k:Bool}{A:Around}(l:DenL D φ α H ts xs)(l':DenL D φ α H us ys)(r:Rd H c (.lst xs))(r':Rd H d (.lst ys))(e:eqL ts us=some k)(hu:A.units+qH ts+2<cLine):SeqAt.RcNeAt A s (.ref c) (.ref d) (!k):=by
 obtain⟨its,rv,p,_⟩:=I.list (.inl r)
 obtain⟨its2,rv',p',_⟩:=I.list (.inl r')
 obtain⟨g,rfl⟩:=uu e
 have h1:ts.length=its.length:=l.length.trans rv.length
 have h2:us.length=its2.length:=l'.length.trans rv'.length
 by_cases hl:ts.length=us.length
 ·have:=SeqAt.RcNeAt.lists (A:=A) (e:=λj=>match ts[j]?,us[j]? with|some t,some u=>(eqT t u).getD false|_,_=>false) p.isList p'.isList (by simp;omega) (by omega) λj q1 q2=>by
   have:=yd (A:=A.in1) I l l' rv rv' (by rw[in1_units];omega) j (by simpa using q1) (by simpa using q2) λg1 g2=>g j g1 g2
   simpa using this
  have e2:min ts.length us.length=its.length:=by omega
  have e3:(ts.length == us.length)=true:=by simpa using hl
  rw[e2,e3,Bool.and_true]
  simpa using this
 ·have e3:(ts.length == us.length)=false:=by simpa using hl
  rw[e3,Bool.and_false]
  exact SeqAt.RcNeAt.lists_lengths p.isList p'.isList (by simp;omega) (by omega)
end
end NH
end
section
namespace NH
open PySem PySem.Spec PyProof.Rows L2
noncomputable def spM (D:DP)(f:Fn):Sp:=λvs H Q E=>∃φ α ts μ,DenL D φ α H ts vs/\MRel D φ α H μ/\Post D (wOf E) φ α H [] (λt _ α' H'=>∀v,Den D φ α' H' t v->Q v H') (f ts μ)
noncomputable def spN (D:DP)(n:Nat)(f:Fn):Sp:=λvs H Q E=>vs.length=n/\spM D f vs H Q E
noncomputable def WH (D:DP)(t:Nat)(u:Value):Prop:=
 (t=0/\u=.type "NoneType")\/(t=1/\u=.type "bool")\/(t=2/\u=.type "int")\/(t=3/\u=.type "str")\/(t=4/\u=.type "tuple")\/(t=5/\u=.type "list")\/(∃C,D.adr t=some C/\u=.ref C)\/(t=6/\u=.type "dict")\/(∃C,D.cad t=some C/\u=.ref C)
noncomputable def yD(mg:Str->Option Value)(c:Str)(u:Value):Prop:=mg c=some u\/(mg c=none/\bootBuiltins c=some u/\c≠"__name__")
abbrev Xn(X:Cx)(c:Str)(u:Value):Prop:=yD X.mg c u
noncomputable def ClsV(v:V)(u:Value):Prop:=(∃C,v=.ref C/\u=.ref C)\/∃n,v=.ty n/\u=.type n
theorem ClsV.rel{v:V}{u:Value}(h:ClsV v u):L2.RelV v u:=by
 rcases h with⟨C,rfl,rfl⟩|⟨n,rfl,rfl⟩<;>rfl
theorem ClsV.only{v:V}{u u':Value}(h:ClsV v u)(r:L2.RelV v u'):u'=u:=by
 rcases h with⟨C,rfl,rfl⟩|⟨n,rfl,rfl⟩<;>exact r
structure XCls(K:PySem.W.Frag)(C:Addr):Prop where
 ga:PySem.W.findIn K (.ref C) "__getattribute__"=some (some (.builtin "BaseException.__getattribute__"))
 hk:PySem.W.findIn K (.ref C) "__getattr__"=some none
 fi:PySem.W.findIn K (.ref C) "__class__"=some (some (.builtin "object.__class__"))
 sp:PySem.W.specialIn K (.builtin "object.__class__") "__get__"=some (some (.builtin "getset_descriptor.__get__"))
 tk:PySem.W.takesIn K (.builtin "object.__class__")=some true
 ob:PySem.W.mroIn K C (.type "object")=some true
 bx:PySem.W.mroIn K C (.type "BaseException")=some true
 cl:(PySem.W.clsIn K C).isSome=true
structure OCls(K:PySem.W.Frag)(C:Addr):Prop where
 cl:Cls K C
 fi:PySem.W.findIn K (.ref C) "__class__"=some (some (.builtin "object.__class__"))
 sp:PySem.W.specialIn K (.builtin "object.__class__") "__get__"=some (some (.builtin "getset_descriptor.__get__"))
 tk:PySem.W.takesIn K (.builtin "object.__class__")=some true
 ob:PySem.W.mroIn K C (.type "object")=some true
abbrev zC:List Value:=[.type "ValueError",.type "Exception",.type "BaseException",.type "object"]
noncomputable def FOk (D:DP)(P:Program)(w:World)(K:PySem.W.Frag)(mg:Str->Option Value)(base:Heap)(k:Nat)(fa:Addr)(f:Fn):Prop:=
 ∃fd ps kk,PySem.W.keepIn K (.ref fa)=true/\Binds K fd ps []/\kk<=k/\FnOk P w K mg base (CX1 P w) kk fa fd ps (spN D ps.length f)/\∀ts μ K Z,f ts μ K Z->ts.length=ps.length
structure RoomH(k:Nat)(A:Around):Prop where
 dp:A.depth+3 * k+5<recursionLimit
 un:A.units+16 * k+200<cLine
theorem RoomH.units{k:Nat}{A:Around}(r:RoomH k A):A.units+64<cLine:=by have:=r.un;omega
noncomputable def z4M(P:Program)(w:World)(K:PySem.W.Frag)(mg:Str->Option Value)(base:Heap)(k:Nat)(f:Addr)(fd:FuncData)(ps:List Str)(sp:Sp):Prop:=
 ∀(A:Around) (outer:List Env) (s:Shared) (H:Hp) (args:Args) (us:List Value) (vs:List V) (Q:VK),RoomH k A->Env0 P w K mg base A outer s H->BindsTo s fd args (ps.zip us)->Vals vs us->sp vs H Q (λ_ _ _=>False)->
  codeAny (model P w) A (.call (.ref f) args) (CR (λ_ _ _ _ _ _=>False) outer P w H s Q (λ_ _ _=>False)) s
noncomputable def xT (x C:Addr):Heap->Prop:=λh=>∃t,h.get? x=some {cls:=.ref C,data:=.fields #[.ref t,.none,.none,.none,.bool false,.none]}
noncomputable def uJ(x C dx:Addr):Heap->Prop:=λh=>∃t,h.get? x=some {cls:=.ref C,dict:=some dx,data:=.fields #[.ref t,.none,.none,.none,.bool false,.none]}
structure XIn(K:PySem.W.Frag)(C HE fI:Addr)(fl:Str):Prop where
 cls:∃N nm q bs hd sn sub ab col dd k0 k1 k2 k3 k5,K.lookup C=some (excClassObj nm q C N bs (.ref HE::zC) hd sn sub ab col dd k0 k1 k2 k3 k5 "ValueError.__new__")/\PySem.W.nsOkIn K N=true/\PySem.W.nsIn K N "__init__"=some (some (.ref fI))
 he:PySem.W.excIn K HE zC "ValueError.__new__"=true
 fn:PySem.W.typeIn K (.ref fI)=some (.type "function")
 sa:PySem.W.findIn K (.ref C) "__setattr__"=some (some (.builtin "object.__setattr__"))
 no:PySem.W.findIn K (.ref C) fl=some none
 dct:PySem.W.hasDictIn K C=true
 kp:PySem.W.keepIn K (.ref C)=true
noncomputable def spI (C:Addr)(fl:Str):Sp:=λvs H Q E=>∃(x:Addr) (i:Int),vs=[.ref x,.int i]/\i.natAbs.log2<1920/\H x=some (.ext (xT x C))/\∀dx,H dx=none->dx≠x->Q .non (upd (upd H x (.ext (uJ x C dx))) dx (.xd [(fl,.int i)]))
noncomputable def Yv(y:Str)(sc:Scope):Bool:=(sc.kind == .function)&&!sc.isCoroutine&&!sc.isGenerator&&sc.names.all (λy=>y.2 != .free)&&(sc.names.lookup y == some .local)&&y != ("__debug__":Str)&&y != ("__classdict__":Str)
noncomputable def Jk(a c:Addr)(qn:Str):Heap->Prop:=λh=>∃(y:Str) (pa:Pos) (kk:Nat) (bp:Pos) (sc:Scope) (pm ctv:Value),Yv y sc=true/\h.get? a=some (PySem.W.kla_obj "<lambda>" qn ⟨[],[⟨y,none,pa⟩],none,[],[],none,[]⟩ (.Constant .none kk bp) sc [] pm c ctv)
noncomputable def Wd (t:T):Prop:=t=.clo 0 [.clo 100 []]\/t=.clo 1 []\/t=.clo 2 [.clo 101 []]
noncomputable def z5Y (D:DP)(P:Program)(w:World)(K:PySem.W.Frag)(mg:Str->Option Value)(base:Heap)(k:Nat):Prop:=
 ∀(t:T) (φ α:List Addr) (H:Hp) (v:V),Wd t->Den D φ α H t v->∃a kk,v=.ref a/\kk<=k/\∀(A:Around) (outer:List Env) (s:Shared),Env0 P w K mg base A outer s H->PySem.W.FnAt a s.heap/\(Room kk A->∀(u:Value) (x:V) (Q:VK) (t:T) (φ α:List Addr) (μ:Mem),RelV x u->Den D φ α H t x->MRel D φ α H μ->(∀α' H',Stp α H α' H'->MRel D φ α' H' μ->Q .non H')->
  codeAny (model P w) A (.call (.ref a) ⟨[u],[]⟩) (CR (CX1 P w) outer P w H s Q (λ_ _ _=>False)) s)
noncomputable def GlOkM(D:DP)(P:Program)(w:World)(K:PySem.W.Frag)(mg:Str->Option Value)(base:Heap)(k:Nat)(x:Str):GM->Prop
 |.fn f=>∃fa,mg x=some (.ref fa)/\FOk D P w K mg base k fa f
 |.fnh nm f=>∃fa,mg nm=some (.ref fa)/\∃fd ps kk,PySem.W.keepIn K (.ref fa)=true/\Binds K fd ps []/\kk<=k/\z4M P w K mg base kk fa fd ps (spN D ps.length f)/\∀ts μ K Z,f ts μ K Z->ts.length=ps.length
 |.met c nm f=>∃C fI fd ps kk,D.cad c=some C/\Cls K C/\Meth K C nm fI/\(∀i,D.fn i≠some nm)/\Binds K fd ps []/\kk<=k/\FnOk P w K mg base (CX1 P w) kk fI fd ps (spN D ps.length f)/\∀ts μ K Z,f ts μ K Z->ts.length=ps.length
 |.mk c _ f=>∃C fI fd ps kk,D.cad c=some C/\mg x=some (.ref C)/\Mk K C fI/\Binds K fd ps []/\kk+1<=k/\FnOk P w K mg base (CX1 P w) kk fI fd ps (spN D ps.length f)/\∀ts μ K Z,f ts μ K Z->ts.length=ps.length
 |.cst t=>∃u v,mg x=some u/\RelV v u/\∀φ α H,Den D φ α H t v
 |.xcl c=>∃C,D.adr c=some C/\mg x=some (.ref C)/\PySem.W.excIn K C zC "ValueError.__new__"=true
 |.xcf c _=>∃C,D.adr c=some C/\mg x=some (.ref C)
 |.xin c f nm fl=>∃C HE fI fd ps kk,D.adr c=some C/\mg nm=some (.ref C)/\D.fn f=some fl/\XIn K C HE fI fl/\Binds K fd ps []/\kk+1<=k/\FnOk P w K mg base (CX1 P w) kk fI fd ps (spI C fl)
 |.mkd c nm n f=>∃C fI fd ps kk,D.cad c=some C/\mg nm=some (.ref C)/\Mk K C fI/\Binds K fd ps [.none]/\kk+1<=k/\FnOk P w K mg base (CX1 P w) kk fI fd ps (spN D ps.length f)/\(∀ts μ K Z,f ts μ K Z->ts.length=ps.length)/\ps.length=n+2
 |.metd c nm n d f=>∃C fI fd ps kk du dv,D.cad c=some C/\Cls K C/\Meth K C nm fI/\(∀i,D.fn i≠some nm)/\Binds K fd ps [du]/\RelV dv du/\(∀φ α H,Den D φ α H d dv)/\kk<=k/\FnOk P w K mg base (CX1 P w) kk fI fd ps (spN D ps.length f)/\(∀ts μ K Z,f ts μ K Z->ts.length=ps.length)/\ps.length=n+2
 |.kpr=>z5Y D P w K mg base k/\∀j P' pos qn,j<2->D.tabs j=some (P',pos,qn)->∀a c,D.clo (2 * j) a (some (.ext (Jk a c qn))) [.ref c]/\D.clo (100+j) c (some (.ext (wk c qn))) []
 |.none=>mg x=none
 |.bad=>True
abbrev z5k(D:DP)(X:Cx)(k:Nat)(x:Str)(g:GM):Prop:=GlOkM D X.prog X.w X.K X.mg X.base k x g
structure Cn where
 N:List Str
 G:List Str
 calm:Bool
 gl:Str->GM
 cls:List (Str×Nat)
 fld:List (Str×Nat)
 U:List Str
 cel:List Str
 own:List Str
 lam:Option (Nat×List Pos):=none
noncomputable def Cn.look(Γ:Cn)(x:Str):GM:=if Γ.G.contains x then Γ.gl x else .bad
noncomputable def LamOk(D:DP)(mg:Str->Option Value)(base:Heap)(code:Value)(qual:Str)(k:Nat)(l:Option (Nat×List Pos)):Prop:=∀j poss,l=some (j,poss)->2<=k/\∃c P,code=.ref c/\PySem.W.CodeHd base c P/\base.BuiltinsAt mg P/\D.tabs j=some (P,poss,qual++"<lambda>")
theorem LamOk.no{D:DP}{mg:Str->Option Value}{base:Heap}{code:Value}{qual:Str}{k:Nat}{l:Option (Nat×List Pos)}(h:l=none):LamOk D mg base code qual k l:=λj pos e=>by rw[h] at e;cases e
structure Ck(D:DP)(W:XW)(Γ:Cn)(X:Cx)(k:Nat):Prop where
 hK:X.K=D.K
 hN:X.N=Γ.N
 nd:Γ.N.Nodup
 vis:∀x∈Γ.N,Vis X.env.scope x
 dbg:∀x∈Γ.N,(x == ("__debug__":Str))=false/\(x == ("__classdict__":Str))=false
 dbG:∀x∈Γ.G,(x == ("__debug__":Str))=false
 glb:∀x∈Γ.G,Gl X x
 glo:∀x∈Γ.G,z5k D X k x (Γ.gl x)
 glU:∀x∈Γ.U,z5k D X k x (Γ.gl x)/\(x == ("__debug__":Str))=false
 cel:∀x∈Γ.cel,X.env.kindOf x=some .cell\/X.env.kindOf x=some .free
 isi:∀t x c,(x,c)∈Γ.cls->∀u v,WH D t u->Xn X x v->PySem.W.kitOne X.K u v=some (jT t c)
 fld:∀c C x f,D.cad c=some C->(x,f)∈Γ.fld->D.fn f=some x/\Cls X.K C/\NoAttr X.K C x
 xcx:∀c C,D.adr c=some C->XCls X.K C
 ocx:∀c C,D.cad c=some C->OCls X.K C
 clv:∀x c,(x,c)∈Γ.cls->∃u v,Xn X x u/\ClsV v u
 clm:Γ.calm=true->X.calm=true
 rom:Γ.calm=true->Room k X.A
 rmh:RoomH k X.A
 xe:∀e s,XP X W e s->X.xe e s
 frm:∃e0 out L,Frm X e0 out L
 lam:LamOk D X.mg X.base X.env.code X.env.qual k Γ.lam
theorem Ck.unt{D:DP}{W:XW}{Γ:Cn}{X:Cx}{k:Nat}(C:Ck D W Γ X k):X.A.units+64<cLine:=C.rmh.units
theorem vq:∀{N:List Str} {x:Str} {i:Nat},idx N x=some i->N[i]?=some x
 |[],_,_,h=>by simp[idx] at h
 |y::r,x,i,h=>by
  simp only[idx] at h
  split at h
  ·rename_i e;cases h;simp[e]
  ·cases q:idx r x with
   |none=>rw[q] at h;cases h
   |some j=>rw[q] at h;cases h;simpa using vq q
theorem wb{N:List Str}{x:Str}{i:Nat}(h:idx N x=some i):x∈N:=List.mem_of_getElem? (vq h)
section
variable {X:Cx}{D:DP}{W:XW}{Γ:Cn}{k:Nat}{pins:List (Addr×Obj)}{s:Shared}{σ:St}{H:Hp}{φ α:List Addr}{τ:Sl}{μ:Mem}{f g h:De}{a b c:Expr}{pos:Pos}
theorem PE.mono{e:Expr}{t t':TE}(h:PE X e t)(m:∀σ H Q,t' σ H Q->t σ H Q):PE X e t':=λpins s σ H Q I q=>h pins s σ H Q I (m σ H Q q)
theorem z3j{i j pos}:PE X (.Constant (.int i) j pos) (rdE D W (eC (.int i))):=PE.mono z3L λσ H Q ⟨φ,α,τ,μ,sr,mr,p⟩=>Post.here p mr rfl
theorem z51{i j pos}:PE X (.Constant (.bool i) j pos) (rdE D W (eC (.bl i))):=PE.mono z4H λσ H Q ⟨φ,α,τ,μ,sr,mr,p⟩=>Post.here p mr rfl
theorem z3g{j pos}:PE X (.Constant .none j pos) (rdE D W (eC .non)):=PE.mono XC λσ H Q ⟨φ,α,τ,μ,sr,mr,p⟩=>Post.here p mr rfl
theorem z3Q{i j pos}:PE X (.Constant (.str i) j pos) (rdE D W (eC (.str i))):=PE.mono Qd λσ H Q ⟨φ,α,τ,μ,sr,mr,p⟩=>Post.here p mr rfl
theorem z4n(C:Ck D W Γ X k){x:Str}{i:Nat}(hi:idx Γ.N x=some i):PE X (.Name x pos) (rdE D W (eV i)):=by
 refine PE.mono (kZ (i:=i) (by rw[C.hN];exact vq hi) (C.vis x (wb hi)) (C.dbg x (wb hi)).1 (C.dbg x (wb hi)).2) ?_
 rintro σ H Q ⟨φ,α,τ,μ,sr,mr,p⟩
 dsimp only[eV] at p
 split at p
 ·rename_i t e
  obtain⟨v,q,d⟩:=sr.get e
  exact⟨v,q,p.here mr d⟩
 ·exact p.elim
theorem z3k(C:Ck D W Γ X k){x:Str}{t:T}(hx:x∈Γ.G)(ht:Γ.gl x=.cst t):PE X (.Name x pos) (rdE D W (eC t)):=by
 have g:=C.glo x hx
 rw[ht] at g
 obtain⟨u,v,hm,r,d⟩:=g
 exact PE.mono (Jf (C.glb x hx) hm r (C.dbG x hx)) λσ H Q ⟨φ,α,τ,μ,sr,mr,p⟩=>Post.here p mr (d _ _ _)
theorem z4y{op:Operator}(ha:PE X a (rdE D W f))(hb:PE X b (rdE D W g)):PE X (.BinOp a op b pos) (rdE D W (za op f g)):=by
 rintro pins s σ H Q I ⟨φ,α,τ,μ,sr,mr,p⟩
 refine wpAny_BinOp (thn (sub ha I sr mr p) ?_)
 rintro u s1 ⟨v,H1,t,μ1,α1,I1,r1,st1,sr1,mr1,d1,p1⟩
 refine thn (sub hb I1 sr1 mr1 p1) ?_
 rintro u' s2 ⟨v',H2,t',μ2,α2,I2,r2,st2,sr2,mr2,d2,p2⟩
 exact z4x I2 mr2 (d1.step st2) d2 r1 r2 p2
theorem z3h(ha:PE X a (rdE D W f)):PE X (.UnaryOp .USub a pos) (rdE D W (z4A f)):=by
 rintro pins s σ H Q I ⟨φ,α,τ,μ,sr,mr,p⟩
 refine UnaryOp_ (thn (sub ha I sr mr p) ?_)
 rintro u s1 ⟨v,H1,t,μ1,α1,I1,r1,st1,sr1,mr1,d1,p1⟩
 try dsimp only at p1
 split at p1
 ·cases d1
  exact z3m pins s1 σ H1 _ _ Q I1 r1 ⟨_,rfl,p1.here mr1 rfl⟩
 ·exact p1.elim
theorem z2t(ha:PE X a (rdE D W f)):PE X (.UnaryOp .Not a pos) (rdE D W (z0m f)):=by
 rintro pins s σ H Q I ⟨φ,α,τ,μ,sr,mr,p⟩
 refine UnaryOp_ (thn (sub ha I sr mr p) ?_)
 rintro u s1 ⟨v,H1,t,μ1,α1,I1,r1,st1,sr1,mr1,d1,p1⟩
 try dsimp only at p1
 split at p1
 ·rename_i b
  cases d1
  cases r1
  exact not_of (wpAny_truthy_bool ⟨.bl (!b),H1,I1,rfl,p1.here mr1 rfl⟩)
 ·exact p1.elim
theorem z4f{op:BoolOp}(ha:PE X a (rdE D W f)):PE X (.BoolOp op [a] pos) (rdE D W f):=z3Z ha
theorem z45{r:List Expr}(ha:PE X a (rdE D W f))(hb:PE X (.BoolOp .And (b::r) pos) (rdE D W g)):PE X (.BoolOp .And (a::b::r) pos) (rdE D W (QJ f g)):=by
 rintro pins s σ H Q I ⟨φ,α,τ,μ,sr,mr,p⟩
 refine BoolOp_and (thn (sub ha I sr mr p) ?_)
 rintro u s1 ⟨v,H1,t,μ1,α1,I1,r1,st1,sr1,mr1,d1,p1⟩
 try dsimp only at p1
 split at p1
 ·cases d1
  cases r1
  rcases p1.br with⟨rfl,p1⟩|⟨rfl,p1⟩
  ·exact wpAny_truthy_bool (hb pins s1 σ H1 Q I1 ⟨φ,α1,τ,μ1,sr1,mr1,p1⟩)
  ·exact wpAny_truthy_bool ⟨.bl false,H1,I1,rfl,p1.here mr1 rfl⟩
 ·exact p1.elim
theorem z5t{r:List Expr}(ha:PE X a (rdE D W f))(hb:PE X (.BoolOp .Or (b::r) pos) (rdE D W g)):PE X (.BoolOp .Or (a::b::r) pos) (rdE D W (eOr f g)):=by
 rintro pins s σ H Q I ⟨φ,α,τ,μ,sr,mr,p⟩
 refine BoolOp_or (thn (sub ha I sr mr p) ?_)
 rintro u s1 ⟨v,H1,t,μ1,α1,I1,r1,st1,sr1,mr1,d1,p1⟩
 try dsimp only at p1
 split at p1
 ·cases d1
  cases r1
  rcases p1.br with⟨rfl,p1⟩|⟨rfl,p1⟩
  ·exact wpAny_truthy_bool ⟨.bl true,H1,I1,rfl,p1.here mr1 rfl⟩
  ·exact wpAny_truthy_bool (hb pins s1 σ H1 Q I1 ⟨φ,α1,τ,μ1,sr1,mr1,p1⟩)
 ·exact p1.elim
theorem z3J{x y:T}{v w:V}{b:Bool}(d1:Den D φ α H x v)(d2:Den D φ α H y w)(h:scT x y=some b):z0F v w=true/\decide (v=w)=b:=by
 unfold scT at h
 split at h<;>first
  |(cases h;cases d1;cases d2;exact⟨rfl,by simp⟩)
  |cases h
theorem z2v:OpR X (compareOp .Is) (λx y H Q=>∃a b,x=.bl a/\y=.bl b/\Q (.bl (decide (a=b))) H):=by
 intro pins s σ H x y v u Q I rx ry h
 obtain⟨a,b,rfl,rfl,q⟩:=h
 cases rx;cases ry
 refine wpAny_is_plain (by rfl) ⟨.bl (decide (a=b)),H,I,?_,q⟩
 cases a<;>cases b<;>rfl
theorem Xa:OpR X (compareOp .IsNot) (λx y H Q=>∃a b,x=.bl a/\y=.bl b/\Q (.bl (!decide (a=b))) H):=by
 intro pins s σ H x y v u Q I rx ry h
 obtain⟨a,b,rfl,rfl,q⟩:=h
 cases rx;cases ry
 refine wpAny_isNot_plain (by rfl) ⟨.bl (!decide (a=b)),H,I,?_,q⟩
 cases a<;>cases b<;>rfl
theorem X4{b:Bool}{C:Prop}{x y:T}{v w:V}{kk:Bool->RE T}{Q:VK}(I:Inv X pins σ H s)(hu:X.A.units+64<cLine)(mr:MRel D φ α H μ)(d1:Den D φ α H x v)(d2:Den D φ α H y w)(p:Post D W φ α H σ (RV D φ Q) (eqW x y μ kk))
  (h1:∀b,Post D W φ α H σ (RV D φ Q) (kk b)->z0F v w=true/\decide (v=w)=b->C)
  (h2:∀b,Post D W φ α H σ (RV D φ Q) (kk b)->((∀u1 u2,RelV v u1->RelV w u2->∀{R:Value->Shared->Prop},R (.bool b) s->wpAny (model X.prog X.w) X.A (compareOp .Eq u1 u2) R X.xe s)/\(∀u1 u2,RelV v u1->RelV w u2->∀{R:Value->Shared->Prop},R (.bool (!b)) s->wpAny (model X.prog X.w) X.A (compareOp .NotEq u1 u2) R X.xe s))->C):C:=by
 have lst:∀{xs ys:List T} {c d:Addr} {vs ws:List V},v=.ref c->w=.ref d->Rd H c (.lst vs)->Rd H d (.lst ws)->DenL D φ α H xs vs->DenL D φ α H ys ws->Post D W φ α H σ (RV D φ Q) (RE.grd (qH xs<=40) (.som (eqL xs ys) kk))->C:=λ{xs ys c d vs ws} e1 e2 r r' l l' p=>by
  obtain⟨hd,p⟩:=p.grd
  obtain⟨b,hb,p⟩:=p.som
  subst e1 e2
  exact h2 b p ⟨λu1 u2 r1 r2 R q=>by cases r1;cases r2;exact Xy I l l' r r' hb (by omega) _ _ _ _ q,λu1 u2 r1 r2 R q=>by cases r1;cases r2;exact Ye I l l' r r' hb (by omega) _ _ _ _ q⟩
 unfold eqW at p
 split at p
 ·obtain⟨hd,p⟩:=p.grd
  obtain⟨b,hb,p⟩:=p.som
  obtain⟨c,vs,rfl,_,_,r,l⟩:=d1
  obtain⟨d,ws,rfl,_,_,r',l'⟩:=d2
  exact h2 b p ⟨λu1 u2 r1 r2 R q=>by cases r1;cases r2;exact XR I l l' r r' hb (by omega) _ _ _ _ q,λu1 u2 r1 r2 R q=>by cases r1;cases r2;exact Ug I l l' r r' hb (by omega) _ _ _ _ q⟩
 ·obtain⟨c,vs,e1,_,_,r,l⟩:=d1
  obtain⟨d,ws,e2,_,_,r',l'⟩:=d2
  exact lst e1 e2 r r' l l' p
 ·obtain⟨xs,hi,p⟩:=p.ex1
  obtain⟨c,hc,e1⟩:=d1
  obtain⟨vs,q,l⟩:=mr.ob _ c _ hc hi
  obtain⟨d,ws,e2,_,_,r',l'⟩:=d2
  exact lst e1 e2 (.inl q) r' l l' p
 ·obtain⟨ys,hi,p⟩:=p.ex1
  obtain⟨c,hc,e2⟩:=d2
  obtain⟨vs,q,l⟩:=mr.ob _ c _ hc hi
  obtain⟨d,ws,e1,_,_,r',l'⟩:=d1
  exact lst e1 e2 r' (.inl q) l' l p
 ·obtain⟨z,hi,p⟩:=p.ex1
  obtain⟨c,hc,e1⟩:=d1
  obtain⟨vs,q,l⟩:=mr.ob _ c _ hc hi.1
  obtain⟨d,hd,e2⟩:=d2
  obtain⟨ws,q',l'⟩:=mr.ob _ d _ hd hi.2
  exact lst e1 e2 (.inl q) (.inl q') l l' p
 ·split at p
  ·rename_i hb
   exact h1 _ p (z3J d1 d2 hb)
  ·exact p.elim
theorem Qh{op:CmpOp}{x y:T}{v w:V}{u1 u2:Value}{Q:VK}(I:Inv X pins σ H s)(hu:X.A.units+64<cLine)(mr:MRel D φ α H μ)(d1:Den D φ α H x v)(d2:Den D φ α H y w)(r1:RelV v u1)(r2:RelV w u2)
  (p:Post D W φ α H σ (RV D φ Q) (uS op x y μ)):wpAny (model X.prog X.w) X.A (compareOp op u1 u2) (EP X pins σ Q) X.xe s:=by
 unfold uS at p
 split at p
 ·refine X4 (b:=true) I hu mr d1 d2 p (λb q h=>?_) (λb q h=>?_)
  ·obtain⟨s1,s2⟩:=h
   exact z53 pins s σ H v w u1 u2 Q I r1 r2 ⟨s1,by rw[s2];exact Post.here q mr rfl⟩
  ·exact h.1 _ _ r1 r2 ⟨.bl b,H,I,rfl,Post.here q mr rfl⟩
 ·refine X4 (b:=false) I hu mr d1 d2 p (λb q h=>?_) (λb q h=>?_)
  ·obtain⟨s1,s2⟩:=h
   exact z50 pins s σ H v w u1 u2 Q I r1 r2 ⟨s1,by rw[s2];exact Post.here q mr rfl⟩
  ·exact h.2 _ _ r1 r2 ⟨.bl (!b),H,I,rfl,Post.here q mr rfl⟩
 ·unfold ltW at p
  split at p
  ·cases d1;cases d2
   exact z52 pins s σ H _ _ u1 u2 Q I r1 r2 ⟨_,_,rfl,rfl,Post.here p mr rfl⟩
  ·obtain⟨ns,h1,p⟩:=p.som
   obtain⟨ms,h2,p⟩:=p.som
   obtain⟨a,vs,rfl,_,_,q1,l1⟩:=d1
   obtain⟨c,ws,rfl,_,_,q2,l2⟩:=d2
   rw[qz h1 l1] at q1
   rw[qz h2 l2] at q2
   exact z3N (by omega) pins s σ H _ _ u1 u2 Q I r1 r2 ⟨a,c,ns,ms,rfl,rfl,.inl q1,.inl q2,Post.here p mr rfl⟩
  ·have d1:v=.str _:=d1
   have d2:w=.str _:=d2
   subst d1 d2
   obtain⟨t1,rfl⟩:=r1
   obtain⟨t2,rfl⟩:=r2
   exact PySem.P.lt_str ⟨.bl _,H,I,rfl,Post.here p mr rfl⟩
  ·exact p.elim
 ·split at p
  ·cases d1;cases d2
   exact z55 pins s σ H _ _ u1 u2 Q I r1 r2 ⟨_,_,rfl,rfl,p.here mr rfl⟩
  ·exact p.elim
 ·split at p
  ·cases d1;cases d2
   exact z56 pins s σ H _ _ u1 u2 Q I r1 r2 ⟨_,_,rfl,rfl,p.here mr rfl⟩
  ·exact p.elim
 ·split at p
  ·cases d1;cases d2
   exact z5I pins s σ H _ _ u1 u2 Q I r1 r2 ⟨_,_,rfl,rfl,p.here mr rfl⟩
  ·exact p.elim
 ·split at p
  ·cases d2
   refine z2H pins s σ H _ _ u1 u2 Q I r1 r2 ⟨rfl,?_⟩
   have q:=p.here mr rfl
   cases x<;>first
    |(have d1:v=_:=d1;subst d1;simpa using q)
    |(obtain⟨_,_,rfl,_⟩:=d1;simpa using q)
    |(obtain⟨_,_,_,_,rfl,_⟩:=d1;simpa using q)
    |(obtain⟨_,_,rfl⟩:=d1;simpa using q)
    |(obtain⟨_,_,_,rfl,_⟩:=d1;simpa using q)
  ·split at p
   ·have d1:v=.bl _:=d1
    have d2:w=.bl _:=d2
    subst d1 d2
    exact z2v pins s σ H _ _ u1 u2 Q I r1 r2 ⟨_,_,rfl,rfl,p.here mr rfl⟩
   ·exact p.elim
  ·exact p.elim
 ·split at p
  ·cases d2
   refine UW pins s σ H _ _ u1 u2 Q I r1 r2 ⟨rfl,?_⟩
   have q:=p.here mr rfl
   cases x<;>first
    |(have d1:v=_:=d1;subst d1;simpa using q)
    |(obtain⟨_,_,rfl,_⟩:=d1;simpa using q)
    |(obtain⟨_,_,_,_,rfl,_⟩:=d1;simpa using q)
    |(obtain⟨_,_,rfl⟩:=d1;simpa using q)
    |(obtain⟨_,_,_,rfl,_⟩:=d1;simpa using q)
  ·split at p
   ·have d1:v=.bl _:=d1
    have d2:w=.bl _:=d2
    subst d1 d2
    exact Xa pins s σ H _ _ u1 u2 Q I r1 r2 ⟨_,_,rfl,rfl,p.here mr rfl⟩
   ·exact p.elim
  ·exact p.elim
 ·split at p
  ·have d1:v=.str _:=d1
   have d2:w=.str _:=d2
   subst d1 d2
   exact JP pins s σ H _ _ u1 u2 Q I r1 r2 ⟨_,_,rfl,rfl,p.here mr rfl⟩
  ·exact p.elim
 ·split at p
  ·have d1:v=.str _:=d1
   have d2:w=.str _:=d2
   subst d1 d2
   exact ZY pins s σ H _ _ u1 u2 Q I r1 r2 ⟨_,_,rfl,rfl,p.here mr rfl⟩
  ·exact p.elim
noncomputable def qo:Expr->Bool
 |.Name _ _=>true
 |.Constant _ _ _=>true
 |.BinOp _ _ _ _=>true
 |.UnaryOp _ _ _=>true
 |.Call _ _ _ _=>true
 |.Subscript _ _ _=>true
 |.Attribute _ _ _=>true
 |_=>false
noncomputable def w9:Expr->Bool
 |.Set _ _ _=>false
 |_=>true
noncomputable def kC:CmpOp->Bool
 |.In=>false|.NotIn=>false
 |_=>true
noncomputable def wM(op:CmpOp)(b:Expr):Bool:=kC op || w9 b
noncomputable def jf:CmpOp->Bool
 |.Lt=>true|.LtE=>true|.Gt=>true|.GtE=>true|.Eq=>true|.NotEq=>true
 |_=>false
theorem vV{op:CmpOp}{b:Expr}(h:wM op b=true):behindInMarks op b=false:=by
 cases hp:kC op with
 |true=>exact Us b (by rintro rfl;simp[kC] at hp) (by rintro rfl;simp[kC] at hp)
 |false=>
  have hb:w9 b=true:=by unfold wM at h;rw[hp] at h;exact h
  cases b<;>first|rfl|(simp[w9] at hb)
theorem z2j(C:Ck D W Γ X k){op:CmpOp}(ho:wM op b=true)(ha:PE X a (rdE D W f))(hb:PE X b (rdE D W g)):PE X (.Compare a [op] [b] pos) (rdE D W (zu op f g)):=by
 rintro pins s σ H Q I ⟨φ,α,τ,μ,sr,mr,p⟩
 refine wpAny_Compare1 (thn (sub ha I sr mr p) ?_) (vV ho)
 rintro u s1 ⟨v,H1,t,μ1,α1,I1,r1,st1,sr1,mr1,d1,p1⟩
 refine thn (sub hb I1 sr1 mr1 p1) ?_
 rintro u' s2 ⟨v',H2,t',μ2,α2,I2,r2,st2,sr2,mr2,d2,p2⟩
 exact Qh I2 C.unt mr2 (d1.step st2) d2 r1 r2 p2
theorem xZ{op:CmpOp}{β:Type}{R:β->Mem->List Addr->Hp->Prop}{kk:T->Mem->RE β}{x y:T}{v w:V}{u1 u2:Value}(I:Inv X pins σ H s)(hu:X.A.units+64<cLine)(mr:MRel D φ α H μ)(d1:Den D φ α H x v)(d2:Den D φ α H y w)(r1:RelV v u1)(r2:RelV w u2)
  (p:Post D W φ α H σ R ((uS op x y μ).bind kk)):wpAny (model X.prog X.w) X.A (compareOp op u1 u2) (EP X pins σ λz H1=>∃t μ1 α1,Stp α H α1 H1/\MRel D φ α1 H1 μ1/\Den D φ α1 H1 t z/\Post D W φ α1 H1 σ R (kk t μ1)) X.xe s:=
 Qh I hu mr d1 d2 r1 r2 (p.bind.mono λt μ' α' H' st m q v d=>⟨t,μ',α',st,m,d,q⟩)
theorem vd:∀{ops:List CmpOp} {es:List Expr},ops.all jf=true->lastMarks ops es=false
 |[],es,_=>by cases es<;>rfl
 |[op],[],_=>rfl
 |[op],[e],h=>Us e (by rintro rfl;simp[jf] at h) (by rintro rfl;simp[jf] at h)
 |[op],_::_::_,_=>rfl
 |op::op'::ops,[],_=>rfl
 |op::op'::ops,e::es,h=>by
  have:lastMarks (op'::ops) es=false:=vd (by simp only[List.all_cons,Bool.and_eq_true] at h ⊢;exact h.2)
  cases es with
  |nil=>cases ops<;>rfl
  |cons e' es=>exact this
noncomputable def Kl (X:Cx)(D:DP)(W:XW):List Expr->List (CmpOp×De)->Prop
 |[],[]=>True
 |e::es,p::ps=>PE X e (rdE D W p.2)/\Kl X D W es ps
 |_,_=>False
theorem WC(hu:X.A.units+64<cLine){Q:VK}:∀{ps:List (CmpOp×De)} {es:List Expr} {s:Shared} {H:Hp} {α:List Addr} {μ:Mem} {x:T} {v:V} {u:Value},Kl X D W es ps->Inv X pins σ H s->SRel D φ α H τ σ->MRel D φ α H μ->Den D φ α H x v->RelV v u->Post D W φ α H σ (RV D φ Q) (YB ps x τ μ)->
  wpAny (model X.prog X.w) X.A (compareChain pos u (ps.map (·.1)) (evalEach es X.env)) (EP X pins σ Q) X.xe s
 |[],_,_,_,_,_,_,_,_,_,_,_,_,_,_,p=>p.elim
 |[(op,g)],[],_,_,_,_,_,_,_,h,_,_,_,_,_,_=>h.elim
 |[(op,g)],[e],s,H,α,μ,x,v,u,h,I,sr,mr,d,r,p=>by
  refine chain_last (thn (sub h.1 I sr mr p) ?_)
  rintro u' s2 ⟨v',H2,t',μ2,α2,I2,r2,st2,sr2,mr2,d2,p2⟩
  exact Qh I2 hu mr2 (d.step st2) d2 r r2 p2
 |[(op,g)],_::_::_,_,_,_,_,_,_,_,h,_,_,_,_,_,_=>h.2.elim
 |(op,g)::p'::ps,[],_,_,_,_,_,_,_,h,_,_,_,_,_,_=>h.elim
 |(op,g)::p'::ps,[e],_,_,_,_,_,_,_,h,_,_,_,_,_,_=>h.2.elim
 |(op,g)::(op',g')::ps,e::e'::es,s,H,α,μ,x,v,u,h,I,sr,mr,d,r,p=>by
  refine chain_link (thn (sub h.1 I sr mr p) ?_)
  rintro u' s2 ⟨v',H2,t',μ2,α2,I2,r2,st2,sr2,mr2,d2,p2⟩
  refine thn (xZ I2 hu mr2 (d.step st2) d2 r r2 p2) ?_
  rintro dd s3 ⟨z,H3,I3,r3,t3,μ3,α3,st3,mr3,d3,p3⟩
  try dsimp only at p3
  split at p3
  ·cases d3
   cases r3
   rcases p3.br with⟨rfl,p3⟩|⟨rfl,p3⟩
   ·exact wpAny_truthy_bool (ite_tt (WC hu (ps:=(op',g')::ps) (es:=e'::es) h.2 I3 (sr2.step st3) mr3 (d2.step st3) r2 p3))
   ·exact wpAny_truthy_bool (ite_ff ⟨.bl false,H3,I3,rfl,p3.here mr3 rfl⟩)
  ·exact p3.elim
theorem Xi(C:Ck D W Γ X k){e1 e2:Expr}{es:List Expr}{p1 p2:CmpOp×De}{ps:List (CmpOp×De)}(ho:(p1::p2::ps).all (λp=>jf p.1)=true)(ha:PE X a (rdE D W f))(h:Kl X D W (e1::e2::es) (p1::p2::ps)):PE X (.Compare a (p1.1::p2.1::ps.map (·.1)) (e1::e2::es) pos) (rdE D W (eCh f (p1::p2::ps))):=by
 rintro pins s σ H Q I ⟨φ,α,τ,μ,sr,mr,p⟩
 refine Compare_chain (thn (sub ha I sr mr p) ?_) (vd (by simpa[List.all_map,Function.comp_def] using ho))
 rintro u s1 ⟨v,H1,t,μ1,α1,I1,r1,st1,sr1,mr1,d1,p1⟩
 exact WC C.unt h I1 sr1 mr1 d1 r1 p1
theorem Je(hu:X.A.units+64<cLine){β:Type}{R:β->Mem->List Addr->Hp->Prop}{kk:Bool->Mem->RE β}:∀{ps:List (CmpOp×De)} {es:List Expr} {s:Shared} {H:Hp} {α:List Addr} {μ:Mem} {x:T} {v:V} {u:Value} {Q:Bool->Hp->Prop},Kl X D W es ps->Inv X pins σ H s->SRel D φ α H τ σ->MRel D φ α H μ->Den D φ α H x v->RelV v u->Post D W φ α H σ (λb _ _ H'=>Q b H') ((YB ps x τ μ).bind jU)->
  wpAny (model X.prog X.w) X.A (testChain pos u (ps.map (·.1)) (evalEach es X.env)) (TP X pins σ Q) X.xe s
 |[],_,_,_,_,_,_,_,_,_,_,_,_,_,_,_,p=>Post.elim p
 |[(op,g)],[],_,_,_,_,_,_,_,_,h,_,_,_,_,_,_=>h.elim
 |[(op,g)],[e],s,H,α,μ,x,v,u,Q,h,I,sr,mr,d,r,p=>by
  have p:Post D W φ α H σ (λb _ _ H'=>Q b H') ((g τ μ).bind λy μ1=>(uS op x y μ1).bind jU):=p
  refine test_last (thn (sub h.1 I sr mr p) ?_)
  rintro u' s2 ⟨v',H2,t',μ2,α2,I2,r2,st2,sr2,mr2,d2,p2⟩
  refine thn (xZ I2 hu mr2 (d.step st2) d2 r r2 p2) ?_
  rintro dd s3 ⟨z,H3,I3,r3,t3,μ3,α3,st3,mr3,d3,p3⟩
  unfold jU at p3
  split at p3
  ·cases d3
   cases r3
   exact wpAny_truthy_bool ⟨H3,I3,p3.ok (Stp.refl _ _) mr3⟩
  ·exact p3.elim
 |[(op,g)],_::_::_,_,_,_,_,_,_,_,_,h,_,_,_,_,_,_=>h.2.elim
 |(op,g)::p'::ps,[],_,_,_,_,_,_,_,_,h,_,_,_,_,_,_=>h.elim
 |(op,g)::p'::ps,[e],_,_,_,_,_,_,_,_,h,_,_,_,_,_,_=>h.2.elim
 |(op,g)::(op',g')::ps,e::e'::es,s,H,α,μ,x,v,u,Q,h,I,sr,mr,d,r,p=>by
  have p:Post D W φ α H σ (λb _ _ H'=>Q b H') ((g τ μ).bind λy μ1=>(uS op x y μ1).bind λk μ2=>(match k with|.bl b=>RE.br b (YB ((op',g')::ps) y τ μ2) (.ok (.bl false) μ2)|_=>RE.st:RE T).bind jU):=p
  refine test_link (thn (sub h.1 I sr mr p) ?_)
  rintro u' s2 ⟨v',H2,t',μ2,α2,I2,r2,st2,sr2,mr2,d2,p2⟩
  refine thn (xZ I2 hu mr2 (d.step st2) d2 r r2 p2) ?_
  rintro dd s3 ⟨z,H3,I3,r3,t3,μ3,α3,st3,mr3,d3,p3⟩
  try dsimp only at p3
  split at p3
  ·rename_i bb
   cases d3
   cases r3
   cases bb with
   |true=>exact wpAny_truthy_bool (ite_tt (Je hu (kk:=kk) (R:=R) (ps:=(op',g')::ps) (es:=e'::es) h.2 I3 (sr2.step st3) mr3 (d2.step st3) r2 p3))
   |false=>
    have p3:Post D W φ α3 H3 σ (λb _ _ H'=>Q b H') (RE.ok false μ3):=p3
    exact wpAny_truthy_bool (ite_ff ⟨H3,I3,p3.ok (Stp.refl _ _) mr3⟩)
  ·have p3:Post D W φ α3 H3 σ (λb _ _ H'=>Q b H') RE.st:=p3
   exact p3.elim
end
end NH
end
section
namespace NH
open PySem PySem.Spec PyProof.Rows L2
section
variable {X:Cx}{D:DP}{W:XW}{Γ:Cn}{k:Nat}{pins:List (Addr×Obj)}{s:Shared}{σ:St}{H:Hp}{φ α:List Addr}{τ:Sl}{μ:Mem}{f g h:De}{ft gt:Dt}{a b c:Expr}{pos:Pos}
theorem Jz(ha:PE X a (rdE D W f))(he:∀whole,isTrue a X.env whole=(do let v ←whole;standAt a.pos;holding [v] (truthy v))):PT X a (rdT D W (tE f)):=by
 rintro pins s σ H Q I ⟨φ,α,τ,μ,sr,mr,p⟩
 rw[he]
 refine wpAny_bind (thn (sub ha I sr mr p) ?_)
 rintro u s1 ⟨v,H1,t,μ1,α1,I1,r1,st1,sr1,mr1,d1,p1⟩
 unfold jU at p1
 split at p1
 ·cases d1
  cases r1
  exact wpAny_bind (wpAny_standAt (wpAny_holding (wpAny_truthy_bool ⟨H1,I1,p1.ok (Stp.refl _ _) mr1⟩)))
 ·exact p1.elim
theorem VV(C:Ck D W Γ X k){op:CmpOp}(ho:wM op b=true)(ha:PE X a (rdE D W f))(hb:PE X b (rdE D W g)):PT X (.Compare a [op] [b] pos) (rdT D W (tE (zu op f g))):=by
 rintro pins s σ H Q I ⟨φ,α,τ,μ,sr,mr,p⟩
 have p:Post D W φ α H σ (λb _ _ H'=>Q b H') ((f τ μ).bind λx μ1=>(g τ μ1).bind λy μ2=>(uS op x y μ2).bind jU):=p
 refine wpAny_isTrue_Compare1 (thn (sub ha I sr mr p) ?_) (vV ho)
 rintro u s1 ⟨v,H1,t,μ1,α1,I1,r1,st1,sr1,mr1,d1,p1⟩
 refine thn (sub hb I1 sr1 mr1 p1) ?_
 rintro u' s2 ⟨v',H2,t',μ2,α2,I2,r2,st2,sr2,mr2,d2,p2⟩
 refine thn (xZ I2 C.unt mr2 (d1.step st2) d2 r1 r2 p2) ?_
 rintro d s3 ⟨z,H3,I3,r3,t3,μ3,α3,st3,mr3,d3,p3⟩
 unfold jU at p3
 split at p3
 ·cases d3
  cases r3
  exact wpAny_truthy_bool ⟨H3,I3,p3.ok (Stp.refl _ _) mr3⟩
 ·exact p3.elim
theorem WL(C:Ck D W Γ X k){e1 e2:Expr}{es:List Expr}{p1 p2:CmpOp×De}{ps:List (CmpOp×De)}(ho:(p1::p2::ps).all (λp=>jf p.1)=true)(ha:PE X a (rdE D W f))(h:Kl X D W (e1::e2::es) (p1::p2::ps)):PT X (.Compare a (p1.1::p2.1::ps.map (·.1)) (e1::e2::es) pos) (rdT D W (tE (eCh f (p1::p2::ps)))):=by
 rintro pins s σ H Q I ⟨φ,α,τ,μ,sr,mr,p⟩
 have p:Post D W φ α H σ (λb _ _ H'=>Q b H') ((f τ μ).bind λx μ1=>(YB (p1::p2::ps) x τ μ1).bind jU):=p
 refine isTrue_chain (thn (sub ha I sr mr p) ?_) (vd (by simpa[List.all_map,Function.comp_def] using ho))
 rintro u s1 ⟨v,H1,t,μ1,α1,I1,r1,st1,sr1,mr1,d1,p1⟩
 exact Je (kk:=λ_ _=>RE.st (β:=Bool)) (R:=λ_ _ _ _=>True) C.unt h I1 sr1 mr1 d1 r1 p1
theorem z3v{r:List Expr}(ha:PT X a (rdT D W ft))(hb:PW X (.BoolOp .And (b::r) pos) (rdT D W gt)):PW X (.BoolOp .And (a::b::r) pos) (rdT D W (vj ft gt)):=by
 intro whole pins s σ H Q I hq
 refine z3d ha hb whole pins s σ H Q I ?_
 obtain⟨φ,α,τ,μ,sr,mr,p⟩:=hq
 refine⟨φ,α,τ,μ,sr,mr,p.bind.mono λc μ' α' H' st m q=>?_⟩
 rcases q.br with⟨rfl,q⟩|⟨rfl,q⟩
 ·exact⟨φ,α',τ,μ',sr.step st,m,q⟩
 ·exact q.ok (Stp.refl _ _) m
theorem z5C{r:List Expr}(ha:PT X a (rdT D W ft))(hb:PW X (.BoolOp .Or (b::r) pos) (rdT D W gt)):PW X (.BoolOp .Or (a::b::r) pos) (rdT D W (tOr ft gt)):=by
 intro whole pins s σ H Q I hq
 refine z54 ha hb whole pins s σ H Q I ?_
 obtain⟨φ,α,τ,μ,sr,mr,p⟩:=hq
 refine⟨φ,α,τ,μ,sr,mr,p.bind.mono λc μ' α' H' st m q=>?_⟩
 rcases q.br with⟨rfl,q⟩|⟨rfl,q⟩
 ·exact q.ok (Stp.refl _ _) m
 ·exact⟨φ,α',τ,μ',sr.step st,m,q⟩
theorem z3w(ha:PT X a (rdT D W ft)):PT X (.UnaryOp .Not a pos) (rdT D W (zQ ft)):=by
 intro pins s σ H Q I hq
 refine z3V ha pins s σ H Q I ?_
 obtain⟨φ,α,τ,μ,sr,mr,p⟩:=hq
 exact⟨φ,α,τ,μ,sr,mr,p.bind.mono λc μ' α' H' st m q=>q.ok (Stp.refl _ _) m⟩
theorem z5G(hc:PT X c (rdT D W ft))(ha:PE X a (rdE D W f))(hb:PE X b (rdE D W g)):PE X (.IfExp c a b pos) (rdE D W (eIf ft f g)):=by
 rintro pins s σ H Q I ⟨φ,α,τ,μ,sr,mr,p⟩
 refine wpAny_IfExp (thn (z4F hc I sr mr p) ?_)
 rintro d s1 ⟨H1,μ1,α1,I1,st1,sr1,mr1,p1⟩
 rcases p1.br with⟨rfl,p1⟩|⟨rfl,p1⟩
 ·exact ha pins s1 σ H1 Q I1 ⟨φ,α1,τ,μ1,sr1,mr1,p1⟩
 ·exact hb pins s1 σ H1 Q I1 ⟨φ,α1,τ,μ1,sr1,mr1,p1⟩
noncomputable def zL:Expr->Bool
 |.Name _ _=>true
 |.Attribute _ _ _=>true
 |.Subscript _ _ _=>true
 |.Call (.Name x _) _ _ _=>x != ("super":Str)
 |.Call (.Attribute _ _ _) _ _ _=>true
 |_=>false
theorem Post.ex3{β δ1 δ2 δ3:Type}{R:β->Mem->List Addr->Hp->Prop}{P:δ1->δ2->Prop}{P2:δ1->δ2->δ3->Prop}{r:δ1->δ2->δ3->RE β}(p:Post D W φ α H σ R (λK Z=>∃x y z,P x y/\P2 x y z/\r x y z K Z)):∃x y z,P x y/\P2 x y z/\Post D W φ α H σ R (r x y z):=by
 obtain⟨K,Z,⟨x,y,z,h1,h2,q⟩,h⟩:=p
 exact⟨x,y,z,h1,h2,K,Z,q,h⟩
theorem Post.ex2{β δ1 δ2:Type}{R:β->Mem->List Addr->Hp->Prop}{P:δ1->Prop}{P2:δ1->δ2->Prop}{r:δ1->δ2->RE β}(p:Post D W φ α H σ R (λK Z=>∃x y,P x/\P2 x y/\r x y K Z)):∃x y,P x/\P2 x y/\Post D W φ α H σ R (r x y):=by
 obtain⟨K,Z,⟨x,y,h1,h2,q⟩,h⟩:=p
 exact⟨x,y,h1,h2,K,Z,q,h⟩
theorem va{b:Expr}(h:qo b=true):z0W b:=by
 intro o i
 cases b<;>first|(simp[qo] at h;done)|rfl
theorem uB{D:DP}{ts:List T}{xs:List V}{i:Int}{t:T}(l:DenL D φ α H ts xs)(h:xa ts i=some t):∃v,atI xs i=some v/\Den D φ α H t v:=by
 unfold xa at h
 have e:ixN xs.length i=Y5 ts.length i:=by rw[l.length];rfl
 unfold atI
 rw[e]
 cases q:Y5 ts.length i with
 |none=>rw[q] at h;cases h
 |some j=>
  rw[q] at h
  exact l.get h
theorem z4W(hb':qo b=true)(hK:X.K=D.K)(ha:PE X a (rdE D W f))(hb:PE X b (rdE D W g)):PE X (.Subscript a b pos) (rdE D W (eIx f g)):=by
 rintro pins s σ H Q I ⟨φ,α,τ,μ,sr,mr,p⟩
 refine Subscript_ (thn (sub ha I sr mr p) ?_)
 rintro u s1 ⟨v,H1,t,μ1,α1,I1,r1,st1,sr1,mr1,d1,p1⟩
 refine thn (sub hb I1 sr1 mr1 p1) ?_
 rintro u' s2 ⟨v',H2,t',μ2,α2,I2,r2,st2,sr2,mr2,d2,p2⟩
 have d1:=d1.step st2
 unfold z1G at p2
 split at p2
 ·cases d2
  split at p2
  ·obtain⟨w,hw,p2⟩:=p2.som
   obtain⟨ad,xs,rfl,_,_,r,l⟩:=d1
   obtain⟨z,hz,dz⟩:=uB l hw
   exact Ja a b pins s2 σ H2 _ _ _ _ Q I2 r1 r2 ⟨ad,xs,_,z,rfl,rfl,.inl r,hz,p2.here mr2 dz⟩ (va hb' _ _)
  ·obtain⟨w,hw,p2⟩:=p2.som
   obtain⟨ad,xs,rfl,_,_,r,l⟩:=d1
   obtain⟨z,hz,dz⟩:=uB l hw
   exact z32 a b pins s2 σ H2 _ _ _ _ Q I2 r1 r2 ⟨ad,xs,_,z,rfl,rfl,.inl r,hz,p2.here mr2 dz⟩ (va hb' _ _)
  ·obtain⟨ts,w,hj,hw,p2⟩:=p2.ex2
   obtain⟨ad,hi',rfl⟩:=d1
   obtain⟨xs,e2,l⟩:=mr2.ob _ ad _ hi' hj
   obtain⟨z,hz,dz⟩:=uB l hw
   exact Ja a b pins s2 σ H2 _ _ _ _ Q I2 r1 r2 ⟨ad,xs,_,z,rfl,rfl,.inl (.inl e2),hz,Post.here p2 mr2 dz⟩ (va hb' _ _)
  ·obtain⟨hl,p2⟩:=p2.grd
   obtain⟨c,hc,p2⟩:=p2.som
   have d1:v=.str _:=d1
   subst d1
   exact z3y a b pins s2 σ H2 _ _ _ _ Q I2 r1 r2 ⟨_,_,c,rfl,rfl,zp hl,hc,p2.here mr2 rfl⟩ (va hb' _ _)
  ·exact p2.elim
 ·exact p2.elim
noncomputable def noStar:Expr->Bool
 |.Starred _ _=>false
 |_=>true
theorem z4{e:Expr}{es:List Expr}{env:Env}(h:noStar e=true):starEach (e::es) env=(false,eval e env)::starEach es env:=by
 cases e<;>first|(simp[noStar] at h;done)|rfl
theorem zY{es:List Expr}{env:Env}{pos:Pos}(h:es.all noStar=true):(backTo pos (starEach es env)).any (·.1)=false:=by
 induction es with
 |nil=>rfl
 |cons e es ih=>
  simp only[List.all_cons,Bool.and_eq_true] at h
  rw[z4 h.1]
  have:=ih h.2
  first
   |(simp[backTo] at this ⊢;exact this)
   |(simpa[backTo] using this)
theorem z2Q:PA X [] (rdA D W 0 (evs [])):=by
 rintro pos pins s σ H Q I ⟨φ,α,τ,μ,sr,mr,p⟩
 exact qi pos pins s σ H Q I (Post.ok p (Stp.refl _ _) mr [] rfl rfl)
theorem UI{e:Expr}{es:List Expr}{fs:List De}{n:Nat}(hs:noStar e=true)(ha:PE X e (rdE D W f))(hr:PA X es (rdA D W n (evs fs))):PA X (e::es) (rdA D W (n+1) (evs (f::fs))):=by
 intro pos pins s σ H Q I hq
 refine zr ha hr (z4 hs) pos pins s σ H Q I ?_
 obtain⟨φ,α,τ,μ,sr,mr,p⟩:=hq
 have p:Post D W φ α H σ _ ((f τ μ).bind λt μ1=>(evs fs τ μ1).bind λts μ2=>.ok (t::ts) μ2):=p
 refine⟨φ,α,τ,μ,sr,mr,p.bind.mono λt μ1 α1 H1 st m q v d=>?_⟩
 refine⟨φ,α1,τ,μ1,sr.step st,m,q.bind.mono λts μ2 α2 H2 st2 m2 q2 vs dl hn=>?_⟩
 exact q2.ok (Stp.refl _ _) m2 _ ⟨v,vs,rfl,d.step st2,dl⟩ (by simp[hn])
noncomputable def EsOk (X:Cx)(D:DP)(W:XW):List Expr->List De->Prop
 |[],[]=>True
 |e::es,f::fs=>noStar e=true/\PE X e (rdE D W f)/\EsOk X D W es fs
 |_,_=>False
theorem wq:∀{es:List Expr} {fs:List De},EsOk X D W es fs->PA X es (rdA D W es.length (evs fs))
 |[],[],_=>z2Q
 |e::es,f::fs,h=>UI h.1 h.2.1 (wq h.2.2)
 |[],_::_,h=>h.elim
 |_::_,[],h=>h.elim
theorem EsOk.stars:∀{es:List Expr} {fs:List De},EsOk X D W es fs->es.all noStar=true
 |[],[],_=>rfl
 |e::es,f::fs,h=>by simp[h.1,EsOk.stars h.2.2]
 |[],_::_,h=>h.elim
 |_::_,[],h=>h.elim
theorem z3C{es:List Expr}{fs:List De}(hl:es.length<=room)(h:EsOk X D W es fs):PE X (.List es pos) (rdE D W (Z8 fs)):=by
 refine PE.mono (X7 (wq h)) ?_
 rintro σ H Q ⟨φ,α,τ,μ,sr,mr,p⟩
 refine⟨φ,α,τ,μ,sr,mr,p.bind.mono λts μ1 α1 H1 st m q vs dl hn=>⟨by rw[hn];exact zp hl,λz hz=>?_⟩⟩
 exact q.fresh m (zb hz) ⟨z,vs,rfl,zh m hz,zi m hz,.inl z6,dl.step (Stp.new (zb hz))⟩
theorem z2T{es:List Expr}{fs:List De}{kk:Nat}(hl:es.length<=room)(h:EsOk X D W es fs):PE X (.Tuple es kk pos) (rdE D W (qP fs)):=by
 refine PE.mono (XI (wq h)) ?_
 rintro σ H Q ⟨φ,α,τ,μ,sr,mr,p⟩
 refine⟨φ,α,τ,μ,sr,mr,p.bind.mono λts μ1 α1 H1 st m q vs dl hn=>⟨by rw[hn];exact zp hl,λz hz=>?_⟩⟩
 exact q.fresh m (zb hz) ⟨z,vs,rfl,zh m hz,zi m hz,.inl z6,dl.step (Stp.new (zb hz))⟩
end
end NH
end
section
namespace NH
open PySem PySem.Spec PyProof.Rows L2
section
open PySem.W
theorem ZA {prog : Program} {w : World} {A : Around} {E : Value -> Shared -> Prop} {s : Shared} {K : Frag} {x D : Addr} {ox : Obj} {od : Option Obj} {Q : Option Value -> Shared -> Prop} (X : K.In s.heap) (I : InstAt s.heap x ox D od)
  (hga : findIn K (.ref D) "__getattribute__" = some (some (.builtin "BaseException.__getattribute__"))) (hk : findIn K (.ref D) "__getattr__" = some none)
  (hf : findObj K D od "__class__" = some (.bind (.builtin "getset_descriptor.__get__") (.builtin "object.__class__"))) (hm : mroIn K D (.type "object") = some true) (hb : mroIn K D (.type "BaseException") = some true)
  (h : Q (some (.ref D)) { s with toks := s.toks + 1 }) : wpAny (model prog w) A (getAttr? (.ref x) "__class__") Q E s := by
  obtain ⟨hh,g,d,t,os⟩ := s
  have L0 := I.type (M := model prog w)
  have L1 := looks_findIn (M := model prog w) X hga
  have L2 := looks_findIn (M := model prog w) X hk
  have L3 := looks_find (M := model prog w) X I hf
  have L4 := looks_mroIn (M := model prog w) X hb
  have f3 := PySem.F.attr_ValueError.ga.bind (.ref x)
  unfold getAttr? getAttrBy? getAttrBy
  refine wpAny_bind (wpAny_mkText (wpAny_bind (wpAny_attempt (wpAny_holding (wpAny_bind (L0.at (wpAny_bind (L1.at ?_))))))))
  show wpAny _ _ (getAttrByItsOwn (.ref x) _ (.ref D) (.builtin "BaseException.__getattribute__") false false) _ _ _
  unfold getAttrByItsOwn hookBefore
  refine wpAny_bind ?_
  show wpAny _ _ (typeLookup (.ref D) "__getattr__") _ _ _
  refine L2.at ?_
  refine wpAny_bind (wpAny_attempt (wpAny_holding ?_))
  unfold callGetattribute boundAndCalled
  show wpAny _ _ (bindSpecial (.builtin "BaseException.__getattribute__") (.ref x) >>= _) _ _ _
  rw [f3]
  refine wpAny_bind (wpAny_pure ?_)
  show wpAny _ _ (call (.builtin "BaseException.__getattribute__") [.ref x,.str "__class__" _]) _ _ _
  refine wpAny_call (codeAny_call_builtin PySem.F.attr_ValueError.ga.plain PySem.F.entry_bexc_ga ?_)
  have hkd : builtinKind "BaseException.__getattribute__" = some .slot := by decide +kernel
  have hsp : splitId "BaseException.__getattribute__" = some ("BaseException","__getattribute__") := by decide +kernel
  have ha := PySem.F.args_bexc_ga (.ref x) (.str "__class__" t)
  have LI : Looks (model prog w) hh (isInstance (.ref x) (.type "BaseException")) true := L0.andThen L4
  simp only [checkBuiltinCall,hkd,hsp]
  refine wpAny_bind (LI.at ?_)
  simp only [Bool.not_true,Bool.false_eq_true,if_false]
  refine wpAny_of_eq (a := ()) ha ?_
  unfold Builtin.«object.__getattribute__»
  refine wpAny_bind (m := slotArgs _ _ _) (wpAny_pure ?_)
  dsimp only
  refine wpAny_bind ?_
  show wpAny _ _ (Builtin.ObjectAttr.attrName (.str "__class__" t)) _ _ _
  first
    | exact wpAny_pure (wpAny_bind (L0.at (wpAny_bind (L3.at ?_))))
    | (refine wpAny_pure (wpAny_bind (L0.at (wpAny_bind (L3.at ?_)))))
    | (unfold Builtin.ObjectAttr.attrName; refine wpAny_pure (wpAny_bind (L0.at (wpAny_bind (L3.at ?_)))))
  dsimp only
  unfold Builtin.ObjectAttr.bindTo
  show wpAny _ _ (holding [Value.builtin "object.__class__"] (call (.builtin "getset_descriptor.__get__") [.builtin "object.__class__",.ref x,.ref D]) >>= ret) _ _ _
  refine wpAny_bind (wpAny_holding (wpAny_call (class_get (s := ⟨hh,g,d,t + 1,os⟩) X I hm ?_)))
  refine wpAny_pure ?_
  exact handed_on rfl (wpAny_pure h)
theorem XCls.fo{K:Frag}{C:Addr}(h:XCls K C)(od:Option Obj):findObj K C od "__class__"=some (.bind (.builtin "getset_descriptor.__get__") (.builtin "object.__class__")):=by
 have hc:=h.cl
 obtain⟨cd,e⟩:=Option.isSome_iff_exists.mp hc
 unfold findObj
 rw[e,h.fi]
 simp only[Option.bind_some]
 rw[h.sp]
 simp only[Option.bind_some]
 rw[h.tk]
 rfl
noncomputable def XcP (x C:Addr)(d:Option Addr)(h:Heap):Prop:=z1M x C d h/\∀dx,d=some dx->∃o,h.get? dx=some o
theorem Ub{K:Frag}{x C:Addr}{d:Option Addr}(hC:XCls K C):KitX K (.ref x) (.ref C) (XcP x C d) where
 ty:=λM h _ p=>by
  obtain⟨⟨oe,vs,h1,h2,h3,h4⟩,_⟩:=p
  exact h2▸(Looks.ld h1).andThen .now
 it:=λM h X _=>by
  have hcD:=hC.cl
  unfold clsIn at hcD
  split at hcD
  ·rename_i c' d' cd' sl' ho
   intro A' Q' E' s' k q
   unfold isType loadHead
   exact wpAny_bind (wpAny_loadPart (k _ _ (X _ _ ho)) (wpAny_pure q))
  ·cases hcD
 ne:=λh tp dd its n sl X htp=>by
  refine Bool.eq_false_iff.mpr λq=>?_
  have e:C=tp:=Value.ref.inj (beq_iff_eq.mp q)
  subst e
  have hcD:=hC.cl
  unfold clsIn at hcD
  split at hcD
  ·rename_i c' d' cd' sl' ho
   have z:=(X _ _ ho).symm.trans htp
   cases z
  ·cases hcD
 ca:=λX p k=>by
  obtain⟨⟨oe,vs,h1,h2,h3,h4⟩,h5⟩:=p
  cases d with
  |none=>
   refine ZA (ox:=oe) (od:=none) X ⟨h1,h2,?_,?_⟩ hC.ga hC.hk (hC.fo _) hC.ob hC.bx k
   ·unfold notCls;rw[h3]
   ·rw[h4];trivial
  |some dx=>
   obtain⟨o,ho⟩:=h5 dx rfl
   refine ZA (ox:=oe) (od:=some o) X ⟨h1,h2,?_,?_⟩ hC.ga hC.hk (hC.fo _) hC.ob hC.bx k
   ·unfold notCls;rw[h3]
   ·rw[h4];exact ho
end
section
variable {X:Cx}{D:DP}{W:XW}{Γ:Cn}{k:Nat}{pins:List (Addr×Obj)}{s:Shared}{σ:St}{H:Hp}{φ α:List Addr}{τ:Sl}{μ:Mem}{f g h:De}{a b c:Expr}{pos:Pos}{es:List Expr}{fs:List De}
theorem qB{e:Expr}{f:Str}{env:Env}(h:zL e=true):attributeBase e f env (eval e env)=eval e env:=by
 cases e with
 |Call g args kws p=>
  cases g with
  |Name x p0=>
   have hx:(x != ("super":Str))=true:=h
   cases args<;>cases kws<;>first|rfl|(unfold attributeBase;simp[hx])
  |Attribute _ _ _=>rfl
  |_=>simp[zL] at h
 |_=>first|(simp[zL] at h;done)|rfl
theorem XDict.ext{D:DP}{fs:List (Nat×T)}{d:Option Addr}(x:XDict D φ α H fs d)(I:Inv X pins σ H s):∀dx,d=some dx->∃o,s.heap.get? dx=some o:=λdx e=>by
 subst e
 obtain⟨gs,_,_,e,_⟩:=x
 exact ZM (I.hok dx _ e)
noncomputable def rdO (D:DP)(W:XW)(f:Dp):TO:=λσ H Q=>∃φ α τ μ,SRel D φ α H τ σ/\MRel D φ α H μ/\Post D W φ α H σ (λo _ _ H'=>Q o H') (f τ μ)
theorem z0e:PO X none (rdO D W pN):=by
 rintro pins s σ H Q I ⟨φ,α,τ,μ,sr,mr,p⟩
 exact UB pins s σ H Q I (Post.ok p (Stp.refl _ _) mr)
theorem z0O(h:PE X a (rdE D W f)):PO X (some a) (rdO D W (pS f)):=by
 rintro pins s σ H Q I ⟨φ,α,τ,μ,sr,mr,p⟩
 refine z0X h pins s σ H Q I ⟨φ,α,τ,μ,sr,mr,p.bind.mono λt μ' α' H' st m q v d=>?_⟩
 split at q
 ·cases d
  exact⟨_,rfl,q.ok (Stp.refl _ _) m⟩
 ·exact q.elim
theorem kE{ts:List T}{xs:List V}(l:DenL D φ α H ts xs)(lo hi:Option Int):DenL D φ α H (xm ts lo hi) (Z6 xs lo hi):=by
 have e:ts.length=xs.length:=l.length
 have e1:∀n d o,K6 n d o=HT.sIx n d o:=λn d o=>by cases o<;>rfl
 unfold xm Z6
 rw[e1,e1,e]
 exact (l.drop _).take _
theorem jF{prog:Program}{w:World}{A:Around}{E:Value->Shared->Prop}{s:Shared}{t sl:Addr}{items:Array Value}{vl vu:Value}{lo hi:Option Int}{Q:Value->Shared->Prop}(ht:IsTup s.heap t items)(hs:s.heap.IsSliceOf sl vl vu .none)(pl:IsPart vl lo)(pu:IsPart vu hi)
  (hw:HT.sIx items.size 0 lo=0/\HT.sIx items.size items.size hi=items.size) (h:Q (.ref t) s):wpAny (model prog w) A (getItem (.ref t) (.ref sl)) Q E s:=by
 obtain⟨os,hos,hcs,hds⟩:=id hs
 have hTs:s.TypeIs (.ref sl) "slice":=⟨os,hos,hcs⟩
 unfold getItem
 try with_reducible refine wpAny_holding ?_
 first|refine wpAny_bind (wpAny_pure ?_)|skip
 refine wpAny_bind (wpAny_sequenceKey ht.typeIs (by decide) ?_)
 refine wpAny_bind (wpAny_callSpecial?_slot (name:=Str.ofString "__getitem__") ht.typeIs slot_tuple_getitem (wpAny_call_entry slot_tuple_getitem ht.typeIs entry_tuple_getitem ?_ (args_tuple_getitem _ _)))
 show wpAny _ _ (Builtin.Tuple.tupleItemsOf (.ref t) >>= _) _ _ s
 refine wpAny_bind (tupleItemsOf_ ht ?_)
 refine wpAny_bind (wpAny_typeOf hTs ?_)
 rw[if_pos (by decide)]
 refine wpAny_bind (HT.sliceApplied_gen hs pl pu ?_)
 show wpAny _ _ (if (((HT.sIx items.size 0 lo:Nat):Int) == 0&&(1:Int) == 1&&(HT.sIx items.size items.size hi-HT.sIx items.size 0 lo) == items.size)=true then _ else _) _ _ s
 rw[if_pos (by rw[hw.1,hw.2];simp)]
 refine wpAny_bind ?_
 unfold Builtin.Tuple.tupleIsExact
 refine wpAny_bind (wpAny_typeOf ht.typeIs (wpAny_pure ?_))
 rw[if_pos (by decide)]
 first
  |exact wpAny_bind (wpAny_rule (wpAny_pure ⟨_,rfl,wpAny_pure h⟩))
  |exact wpAny_bind (wpAny_rule (wpAny_bind (wpAny_pure (wpAny_pure ⟨_,rfl,wpAny_pure h⟩))))
theorem z0v:SlR X (λx lo hi H Q=>∃a xs,x=.ref a/\SqT X.K H a xs/\(HT.sIx xs.length 0 lo=0/\HT.sIx xs.length xs.length hi=xs.length)/\Q (.ref a) H):=by
 intro pins s σ H x v vl vu lo hi sl Q I rx hs pl pu h
 obtain⟨a,xs,rfl,hx,hw,q⟩:=h
 cases rx
 obtain⟨its,r,ht,hz⟩:=I.tuple hx
 have hlen:its.toArray.size=xs.length:=by rw[List.size_toArray];exact r.length.symm
 exact⟨"tuple",_,PyProof.Rows.slot_tuple_getitem.lookup,ht.typeIs,jF ht hs pl pu (by rw[hlen];exact hw) ⟨.ref a,H,I,rfl,q⟩⟩
theorem z2s:SlR X (λx lo hi H Q=>∃z,x=.str z/\z.length<=sizeLine/\Q (.str (Txt.slice z lo hi)) H):=by
 intro pins s σ H x v vl vu lo hi sl Q I rx hs pl pu h
 obtain⟨z,rfl,hz,q⟩:=h
 obtain⟨t0,rfl⟩:=rx
 refine⟨"str",_,F.slot_str_getitem.lookup,typeIs_str _ _ _,?_⟩
 obtain⟨o,h1,h2,h3⟩:=hs
 have fin:∀(l u:Option (Int×Tok)),vl=partValue l->vu=partValue u->lo=l.map (·.1)->hi=u.map (·.1)->wpAny (model X.prog X.w) X.A (getItem (.str z t0) (.ref sl)) (EP X pins σ Q) X.xe s:=by
  rintro l u rfl rfl rfl rfl
  exact wpAny_getItem_str_slice (l:=l) (u:=u) (st:=none) ⟨o,h1,h2,h3⟩ rfl (post_val_or_str ⟨Nat.le_trans (Txt.slice_le z _ _) hz,λt' k=>⟨.str _,H,I.tok _,⟨t',rfl⟩,q⟩⟩)
 cases pl with
 |none=>
  cases pu with
  |none=>exact fin none none rfl rfl rfl rfl
  |int j u=>exact fin none (some (j,u)) rfl rfl rfl rfl
 |int i t=>
  cases pu with
  |none=>exact fin (some (i,t)) none rfl rfl rfl rfl
  |int j u=>exact fin (some (i,t)) (some (j,u)) rfl rfl rfl rfl
theorem Xg{lo hi:Option Expr}{fo go:Dp}{p2:Pos}(ha:PE X a (rdE D W f))(hl:PO X lo (rdO D W fo))(hu:PO X hi (rdO D W go)):PE X (.Subscript a (.Slice lo hi none p2) pos) (rdE D W (eSl f fo go)):=by
 refine PE.mono (Xv (Uu.or (z2U.or (z0v.or z2s))) ha hl hu) ?_
 rintro σ H Q ⟨φ,α,τ,μ,sr,mr,p⟩
 refine⟨φ,α,τ,μ,sr,mr,p.bind.mono λt μ1 α1 H1 st m q v d=>?_⟩
 refine⟨φ,α1,τ,μ1,sr.step st,m,q.bind.mono λl μ2 α2 H2 st2 m2 q2=>?_⟩
 refine⟨φ,α2,τ,μ2,(sr.step st).step st2,m2,q2.bind.mono λu μ3 α3 H3 st3 m3 q3=>?_⟩
 unfold z5w at q3
 split at q3
 ·obtain⟨ad,xs,rfl,_,_,r,dl⟩:=(d.step st2).step st3
  refine .inl ⟨ad,xs,rfl,.inl r,λz hz=>?_⟩
  exact q3.fresh m3 (zb hz) ⟨z,_,rfl,zh m3 hz,zi m3 hz,.inl z6,kE (dl.step (Stp.new (zb hz))) _ _⟩
 ·obtain⟨ad,xs,rfl,n1,n2,r,dl⟩:=(d.step st2).step st3
  by_cases hw:HT.sIx xs.length 0 l=0/\HT.sIx xs.length xs.length u=xs.length
  ·refine .inr (.inr (.inl ⟨ad,xs,rfl,.inl r,hw,?_⟩))
   have e:Z6 xs l u=xs:=by unfold Z6;rw[hw.1,hw.2];simp
   have dd:=kE dl l u
   rw[e] at dd
   exact q3.here m3 ⟨ad,xs,rfl,n1,n2,r,dd⟩
  ·refine .inr (.inl ⟨ad,xs,rfl,.inl r,hw,λz hz=>?_⟩)
   exact q3.fresh m3 (zb hz) ⟨z,_,rfl,zh m3 hz,zi m3 hz,.inl z6,kE (dl.step (Stp.new (zb hz))) _ _⟩
 ·obtain⟨hz,q3⟩:=q3.grd
  have d:v=.str _:=d
  subst d
  exact .inr (.inr (.inr ⟨_,rfl,zp hz,q3.here m3 rfl⟩))
 ·obtain⟨ts,hj,q3⟩:=q3.ex1
  obtain⟨ad,hi',rfl⟩:=(d.step st2).step st3
  obtain⟨xs,e2,dl⟩:=m3.ob _ ad _ hi' hj
  refine .inl ⟨ad,xs,rfl,.inl (.inl e2),λz hz=>?_⟩
  exact Post.fresh q3 m3 (zb hz) ⟨z,_,rfl,zh m3 hz,zi m3 hz,.inl z6,kE (dl.step (Stp.new (zb hz))) _ _⟩
 ·exact q3.elim
theorem xX{g:Fn}{fa:Addr}{fd:FuncData}{ps:List Str}{kk:Nat}{us:List Value}{vs:List V}{ts:List T}{Q:VK}(C:Ck D W Γ X k)(F:FnOk X.prog X.w X.K X.mg X.base (CX1 X.prog X.w) kk fa fd ps (spN D ps.length g))
  (hr:Room kk X.A) (hb:Binds X.K fd ps []) (har:∀ts μ K Z,g ts μ K Z->ts.length=ps.length) (I:Inv X pins σ H s) (r:Vals vs us) (mr:MRel D φ α H μ) (d:DenL D φ α H ts vs) (p:Post D W φ α H σ (RV D φ Q) (g ts μ)) :
  wpAny (model X.prog X.w) X.A (call (.ref fa) us) (EP X pins σ Q) X.xe s:=by
 obtain⟨K,Z,q,hq,hz⟩:=p
 have hl:ts.length=ps.length:=har ts μ K Z q
 have sp:spN D ps.length g vs H Q (λc d H'=>W c d σ H'):=⟨by rw[←d.length];exact hl,φ,α,ts,μ,d,mr,K,Z,q,hq,hz⟩
 have hl2:us.length=ps.length:=by rw[←r.length,←d.length];exact hl
 refine wpAny_call (codeAny_mono (F.run X.A X.stack s H ⟨us,[]⟩ us vs Q (λc d H'=>W c d σ H') hr I.env0 (by simpa using hb s us I.kIn (by simpa using hl2)) r sp) λr s' hq=>?_)
 cases r with
 |error e=>exact C.xe e s' (y0 (E:=λc d H'=>W c d σ H') I hq λcls d H' w=>w)
 |ok fl=>
  cases fl with
  |ret u=>exact I.after hq
  |next=>exact False.elim hq
  |brk=>exact False.elim hq
  |cont=>exact False.elim hq
theorem z16(C:Ck D W Γ X k){x:Str}{g:Fn}{p0:Pos}(hx:x∈Γ.G)(hg:Γ.gl x=.fn g)(hc:Γ.calm=true)(ha:EsOk X D W es fs):PE X (.Call (.Name x p0) es [] pos) (rdE D W (z8 g fs)):=by
 have q:=C.glo x hx
 rw[hg] at q
 obtain⟨fa,hm,fd,ps,kk,hk,hb,hkk,Fn,har⟩:=q
 have hr:=(C.rom hc).mono hkk
 have hs:=ha.stars
 have pa:=wq ha
 rintro pins s σ H Q I ⟨φ,α,τ,μ,sr,mr,p⟩
 refine wpAny_Call_Name_kw (wc I (C.glb x hx) hm ?_ (C.dbG x hx))
 cases es with
 |nil=>
  cases fs with
  |nil=>exact PySem.W.callWith_K0 I.kIn hk (xX (ts:=[]) C Fn hr hb har I .nil mr rfl p)
  |cons f fs=>exact ha.elim
 |cons e es=>
  simp only[List.all_cons,Bool.and_eq_true] at hs
  refine PySem.W.callWith_K (h₀:=X.base) I.ok.mod.kin hk (thn (XF pa I sr mr p) ?_) (z4 hs.1) (zY hs.2)
  rintro us s1 ⟨vs,H1,ts,μ1,α1,I1,r1,st1,sr1,mr1,d1,_,p1⟩
  exact⟨I1.kIn,xX C Fn hr hb har I1 r1 mr1 d1 p1⟩
theorem run_mk{c:Nat}{g:Fn}{C0 fI:Addr}{fd:FuncData}{ps:List Str}{kk:Nat}{us:List Value}{vs:List V}{ts:List T}{Q:VK}(C:Ck D W Γ X k)(ad:D.cad c=some C0)(M:Mk X.K C0 fI)(F:FnOk X.prog X.w X.K X.mg X.base (CX1 X.prog X.w) kk fI fd ps (spN D ps.length g))
  (hr:Room (kk+1) X.A) (hb:Binds X.K fd ps []) (har:∀ts μ K Z,g ts μ K Z->ts.length=ps.length) (I:Inv X pins σ H s) (r:Vals vs us) (mr:MRel D φ α H μ) (d:DenL D φ α H ts vs) (p:Post D W φ α H σ (RV D φ Q) (QO c g ts μ)) :
  wpAny (model X.prog X.w) X.A (call (.ref C0) us) (EP X pins σ Q) X.xe s:=by
 obtain⟨K,Z,⟨hp,hg⟩,hk,hz⟩:=p
 have hl:(T.mut 0::ts).length=ps.length:=har _ _ _ _ hg
 have hq:∀x dx,H x=none->H dx=none->dx≠x->spN D ps.length g (.ref x::(vs++[])) (upd (upd H dx (.own x)) x (.ins C0 dx [])) (λv H2=>v=.non/\Q (.ref x) H2) (λc d H'=>W c d σ H'):=by
  intro x dx hx hdx hne
  have sm:xg H (upd (upd H dx (.own x)) x (.ins C0 dx [])):=λb o e=>by rw[z7 (zF e hx),z7 (zF e hdx)];exact e
  have st0:Stp [] H [x] (upd (upd H dx (.own x)) x (.ins C0 dx [])):=⟨⟨[x],rfl,λb hb'=>by rw[List.mem_singleton.mp hb'];exact hx⟩,λb o _ e=>sm b o e,λb e=>by
   cases q:H b with
   |none=>rfl
   |some o=>rw[sm b o q] at e;cases e⟩
  have nx:x∉φ++α:=λz=>(List.mem_append.mp z).elim (zh mr hx) (zi mr hx)
  have ph:∀b∈φ++α,∃o,H b=some o:=λb hb'=>(List.mem_append.mp hb').elim (mr.phi b) λz=>by
   obtain⟨i,hi⟩:=List.mem_iff_getElem?.mp z
   have hl':i<μ.length:=by rw[←mr.len];exact (List.getElem?_eq_some_iff.mp hi).1
   exact (mr.ob i b μ[i] hi (by simp[hl'])).some
  refine⟨by simp only[List.length_cons,List.append_nil] at hl ⊢;rw[←d.length];exact hl,φ++α,[x],.mut 0::ts,[.obj c []],⟨.ref x,vs++[],rfl,⟨x,rfl,rfl⟩,by rw[List.append_nil];exact (DenL.hide hp d z0J).step st0⟩,⟨rfl,by simp,λb hb'=>by rw[List.mem_singleton.mp hb'];exact nx,λb hb'=>let ⟨o,e⟩:=ph b hb';⟨o,sm b o e⟩,λi a o e1 e2=>?_⟩,?_⟩
  ·cases i with
   |zero=>simp at e1 e2;subst e1 e2;exact⟨C0,dx,[],ad,z6,rfl⟩
   |succ i=>simp at e1
  have back:∀{α2:List Addr} {H3:Hp},Stp [x] (upd (upd H dx (.own x)) x (.ins C0 dx [])) α2 H3->xg H H3:=λst b o e=>st.keep b o (λz=>by rw[List.mem_singleton.mp z,hx] at e;cases e) (sm b o e)
  refine⟨_,_,hg,?_,?_⟩
  ·rintro t μ2 ⟨rfl,fs,h0,hpf,q⟩ α2 H3 st m v dv
   refine⟨dv,?_⟩
   obtain⟨β,rfl,_⟩:=st.ext
   obtain⟨C1,dx1,gs,ad1,e1,lf⟩:=m.ob 0 x _ rfl h0
   have sm3:=back st
   exact hk _ _ q α H3 (Stp.new sm3) (mr.new sm3) _ ⟨x,C1,dx1,gs,rfl,zh mr hx,zi mr hx,ad1,e1,DenF.hide hpf lf WD⟩
  ·rintro e fs μ2 ⟨hpf,q⟩ α2 H3 C1 d1 st m had xd
   have sm3:=back st
   exact hz _ _ _ q α H3 C1 d1 (Stp.new sm3) (mr.new sm3) had (XDict.hide hpf xd WD)
 have hq1:=hq (s.heap.objs.size+1) s.heap.objs.size (I.hok.fresh (Nat.le_succ _)) (I.hok.fresh (Nat.le_refl _)) (Nat.ne_of_lt (Nat.lt_succ_self _))
 have I2:=Inv.made (C:=C0) I
 have r2:Vals (V.ref (s.heap.objs.size+1)::(vs++[])) (Value.ref (s.heap.objs.size+1)::us):=.cons rfl (by rw[List.append_nil];exact r)
 have hlu:(Value.ref (s.heap.objs.size+1)::us++[]).length=ps.length:=by
  rw[List.append_nil,List.length_cons,←r.length,←d.length]
  exact hl
 refine wpAny_call (y9 (f:=fI) I.kIn M.makes M.init (beq_iff_eq.mp M.fn) (codeAny_mono (F.run _ X.stack _ _ ⟨Value.ref (s.heap.objs.size+1)::us,[]⟩ (Value.ref (s.heap.objs.size+1)::us) _ _ (λc d H'=>W c d σ H') (hr.make C0 us [])
  (I2.env0.make C0 us []) (by simpa using hb _ (Value.ref (s.heap.objs.size+1)::us) I2.kIn hlu) r2 hq1) λr s' hq'=>?_))
 cases r with
 |error e=>exact C.xe e s' (y0 (E:=λc d H'=>W c d σ H') I2 hq' λcls d H' w=>w)
 |ok fl=>
  cases fl with
  |ret u=>
   obtain⟨v,H',I3,rv,ev,q3⟩:=I2.after hq'
   subst ev
   exact⟨rv,⟨V.ref (s.heap.objs.size+1),H',I3,rfl,q3⟩⟩
  |next=>exact False.elim hq'
  |brk=>exact False.elim hq'
  |cont=>exact False.elim hq'
theorem z13(C:Ck D W Γ X k){x:Str}{c:Nat}{g:Fn}{p0:Pos}(hx:x∈Γ.G)(hg:Γ.gl x=.mk c true g)(hc:Γ.calm=true)(ha:EsOk X D W es fs):PE X (.Call (.Name x p0) es [] pos) (rdE D W (eMk c g fs)):=by
 have q:=C.glo x hx
 rw[hg] at q
 obtain⟨C0,fI,fd,ps,kk,ad,hm,M,hb,hkk,Fn,har⟩:=q
 have hr:=(C.rom hc).mono hkk
 have hs:=ha.stars
 have pa:=wq ha
 rintro pins s σ H Q I ⟨φ,α,τ,μ,sr,mr,p⟩
 refine wpAny_Call_Name_kw (wc I (C.glb x hx) hm ?_ (C.dbG x hx))
 cases es with
 |nil=>
  cases fs with
  |nil=>exact PySem.W.callWith_K0 I.kIn M.kp (run_mk (ts:=[]) C ad M Fn hr hb har I .nil mr rfl p)
  |cons f fs=>exact ha.elim
 |cons e es=>
  simp only[List.all_cons,Bool.and_eq_true] at hs
  refine PySem.W.callWith_K (h₀:=X.base) I.ok.mod.kin M.kp (thn (XF pa I sr mr p) ?_) (z4 hs.1) (zY hs.2)
  rintro us s1 ⟨vs,H1,ts,μ1,α1,I1,r1,st1,sr1,mr1,d1,_,p1⟩
  exact⟨I1.kIn,run_mk C ad M Fn hr hb har I1 r1 mr1 d1 p1⟩
theorem z3a(C:Ck D W Γ X k){x:Str}{n:Nat}(hp:zL a=true)(hn:(x,n)∈Γ.fld)(ha:PE X a (rdE D W f)):PE X (.Attribute a x pos) (rdE D W (z9 f n)):=by
 refine PE.mono (z48 ha (qB hp)) ?_
 rintro σ H Q ⟨φ,α,τ,μ,sr,mr,p⟩
 refine⟨φ,α,τ,μ,sr,mr,p.bind.mono λt μ1 α1 H1 st m q v d=>?_⟩
 unfold Qb at q
 split at q
 ·split at q
  ·rename_i c fs _ w hw
   obtain⟨ad,C0,dx,gs,rfl,_,_,e1,e2,l⟩:=d
   obtain⟨y,z,hy,hz,dz⟩:=l.look hw
   obtain⟨c0,c1,c2⟩:=C.fld c C0 x n e1 hn
   rw[hy] at c0;cases c0
   exact⟨ad,C0,dx,gs,z,rfl,e2,c1,c2,hz,q.here m dz⟩
  ·exact q.elim
 ·obtain⟨c,fs,w,hi,hw,q⟩:=q.ex3
  obtain⟨ad,hi',rfl⟩:=d
  obtain⟨C0,dx,gs,e1,e2,l⟩:=m.ob _ ad _ hi' hi
  obtain⟨y,z,hy,hz,dz⟩:=l.look hw
  obtain⟨c0,c1,c2⟩:=C.fld c C0 x n e1 hn
  rw[hy] at c0;cases c0
  exact⟨ad,C0,dx,gs,z,rfl,e2,c1,c2,hz,Post.here q m dz⟩
 ·exact q.elim
end
end NH
end
section
namespace NH
open PySem PySem.Spec PyProof.Rows L2
section
variable {X:Cx}{D:DP}{W:XW}{Γ:Cn}{k:Nat}{pins:List (Addr×Obj)}{s:Shared}{σ:St}{H:Hp}{φ α:List Addr}{τ:Sl}{μ:Mem}{f g h:De}{a b c:Expr}{pos:Pos}{es:List Expr}
theorem Jr{B:Prop}(C:Ck D W Γ X k){c:Nat}{C0 dx ad:Addr}{gs:List (Str×V)}(I:Inv X pins σ H s)(e1:D.cad c=some C0)(ea:H ad=some (.ins C0 dx gs))
  (hh:∀tv P,WH D c tv->PySem.W.KitX X.K (.ref ad) tv P->P s.heap->(Value.ref ad)≠.builtin "__main__.__loader__#opaque"->B):B:=by
 have o:=C.ocx c C0 e1
 obtain⟨mA,O,_⟩:=kr I.hok ea
 obtain⟨od,J,_⟩:=O.look
 exact hh _ _ (.inr (.inr (.inr (.inr (.inr (.inr (.inr (.inr ⟨C0,e1,rfl⟩)))))))) (PySem.W.kitx_own (o.cl.get _) o.cl.hd o.fi o.sp o.tk o.ob) J (λz=>nomatch z)
theorem z3D {B : Prop} (C : Ck D W Γ X k) {t : T} {v : V} {u : Value} {n : Nat} (I : Inv X pins σ H s) (d : Den D φ α H t v) (r : RelV v u) (ht : tyN t μ = some n)
    (hh : ∀ tv P,WH D n tv -> PySem.W.KitX X.K u tv P -> P s.heap -> u ≠ .builtin "__main__.__loader__#opaque" -> B) : B := by
  cases t with
  | non => cases d; cases r; cases ht; exact hh _ _ (.inl ⟨rfl,rfl⟩) PySem.W.kitx_none True.intro (fun z => nomatch z)
  | bl b => cases d; cases r; cases ht; exact hh _ _ (.inr (.inl ⟨rfl,rfl⟩)) PySem.W.kitx_bool True.intro (fun z => nomatch z)
  | int i => cases d; obtain ⟨t,rfl⟩ := r; cases ht; exact hh _ _ (.inr (.inr (.inl ⟨rfl,rfl⟩))) PySem.W.kitx_int True.intro (fun z => nomatch z)
  | str i => cases d; obtain ⟨t,rfl⟩ := r; cases ht; exact hh _ _ (.inr (.inr (.inr (.inl ⟨rfl,rfl⟩)))) PySem.W.kitx_str True.intro (fun z => nomatch z)
  | tup ts =>
    obtain ⟨ad,xs,rfl,_,_,q,_⟩ := d; cases r; cases ht
    obtain ⟨its,_,⟨o,h1,h2,_⟩,_⟩ := I.tuple (.inl q)
    exact hh _ _ (.inr (.inr (.inr (.inr (.inl ⟨rfl,rfl⟩))))) PySem.W.kitx_tuple ⟨o,h1,h2⟩ (fun z => nomatch z)
  | lst ts =>
    obtain ⟨ad,xs,rfl,_,_,q,_⟩ := d; cases r; cases ht
    obtain ⟨its,_,p,_⟩ := I.list (.inl q)
    obtain ⟨o,h1,h2,_⟩ := p.isList
    exact hh _ _ (.inr (.inr (.inr (.inr (.inr (.inl ⟨rfl,rfl⟩)))))) PySem.W.kitx_list ⟨o,h1,h2⟩ (fun z => nomatch z)
  | exc c fs =>
    obtain ⟨ad,C0,dd,rfl,_,_,e1,e2,xd⟩ := d; cases r; cases ht
    have hx := C.xcx n C0 e1
    obtain ⟨p,_⟩ := (show ObjOk X.prog X.w H s.heap ad (.ext (z1M ad C0 dd)) from I.hok ad _ e2)
    have xd : XDict D φ α H fs dd := by cases dd <;> exact xd
    exact hh _ _ (.inr (.inr (.inr (.inr (.inr (.inr (.inl ⟨C0,e1,rfl⟩))))))) (Ub hx) ⟨p,xd.ext I⟩ (fun z => nomatch z)
  | dic kvs =>
    obtain ⟨ad,gs,rfl,_,_,e,_⟩ := d; cases r; cases ht
    obtain ⟨_,_,vs,_,dd⟩ := (show ObjOk X.prog X.w H s.heap ad (.dK gs) from I.hok ad _ e)
    exact hh _ _ (.inr (.inr (.inr (.inr (.inr (.inr (.inr (.inl ⟨rfl,rfl⟩)))))))) PySem.W.kitx_dict dd.typeIs (fun z => nomatch z)
  | obj c fs =>
    obtain ⟨ad,C0,dx,gs,rfl,_,_,e1,e2,l⟩ := d; cases r; cases ht
    exact Jr C I e1 e2 hh
  | «mut» i => cases ht
  | clo j cs => cases ht
theorem z03{B:Prop}(C:Ck D W Γ X k){i:Nat}{v:V}{u:Value}{o:MO}(I:Inv X pins σ H s)(mr:MRel D φ α H μ)(d:Den D φ α H (.mut i) v)(r:RelV v u)(ht:μ[i]?=some o)(hnt:z1p o=false)
  (hh:∀tv P,WH D (tyO o) tv->PySem.W.KitX X.K u tv P->P s.heap->u≠.builtin "__main__.__loader__#opaque"->B):B:=by
 obtain⟨ad,hi,rfl⟩:=d
 cases r
 have dd:=mr.ob i ad o hi ht
 cases o with
 |lst ts=>
  obtain⟨xs,q,_⟩:=dd
  obtain⟨its,_,p,_⟩:=I.list (.inl (.inl q))
  obtain⟨o,h1,h2,_⟩:=p.isList
  exact hh _ _ (.inr (.inr (.inr (.inr (.inr (.inl ⟨rfl,rfl⟩)))))) PySem.W.kitx_list ⟨o,h1,h2⟩ (λz=>nomatch z)
 |obj c fs=>
  obtain⟨C0,dx,gs,e1,e2,l⟩:=dd
  exact Jr C I e1 e2 hh
 |dic kvs=>
  obtain⟨gs,e,_⟩:=dd
  obtain⟨_,_,vs,_,dd⟩:=(show ObjOk X.prog X.w H s.heap ad (.dK gs) from I.hok ad _ e)
  exact hh _ _ (.inr (.inr (.inr (.inr (.inr (.inr (.inr (.inl ⟨rfl,rfl⟩)))))))) PySem.W.kitx_dict dd.typeIs (λz=>nomatch z)
 |tab j=>cases hnt
theorem JF{B:Prop}(C:Ck D W Γ X k){t:T}{v:V}{u:Value}{cs:List Nat}{Q:VK}(I:Inv X pins σ H s)(mr:MRel D φ α H μ)(d:Den D φ α H t v)(r:RelV v u)(q:Post D W φ α H σ (RV D φ Q) (X5 cs t μ))
  (hh:∀n tv P,Post D W φ α H σ (RV D φ Q) (.ok (.bl (isAny n cs)) μ)->WH D n tv->PySem.W.KitX X.K u tv P->P s.heap->u≠.builtin "__main__.__loader__#opaque"->B):B:=by
 unfold X5 at q
 split at q
 ·obtain⟨o,ho,q⟩:=q.som
  rcases q.br with⟨_,q⟩|⟨hb,q⟩
  ·exact q.elim
  ·exact z03 C I mr d r ho hb λtv P=>hh _ tv P q
 ·split at q
  ·rename_i tn htn
   exact z3D C I d r htn λtv P=>hh _ tv P q
  ·exact q.elim
noncomputable def vt(Γ:Cn):List Expr->Option (List Nat)
 |[]=>some []
 |e::r=>match e with
  |.Name x _=>if (idx Γ.N x).isNone&&Γ.G.contains x then (match Γ.cls.lookup x with
   |some c=>(vt Γ r).map (c::·)
   |none=>none) else none
  |_=>none
noncomputable def uk(Γ:Cn)(e:Expr):Option (List Nat):=match e with
 |.Name _ _=>vt Γ [e]
 |.Tuple es _ _=>if decide (es.length<=room) then vt Γ es else none
 |_=>none
theorem lookup_mem{β:Type}{x:Str}{v:β}:∀{l:List (Str×β)},l.lookup x=some v->(x,v)∈l
 |[],h=>by cases h
 |(y,w)::r,h=>by
  rw[List.lookup_cons] at h
  cases q:x == y with
  |true=>rw[q] at h;cases h;rw[beq_iff_eq.mp q];exact List.mem_cons_self
  |false=>rw[q] at h;exact List.mem_cons_of_mem _ (lookup_mem h)
theorem z2o(C:Ck D W Γ X k){x:Str}{c:Nat}(hc:x∈Γ.G)(hl:(x,c)∈Γ.cls):∃u v,Xn X x u/\ClsV v u/\∀p0,PE X (.Name x p0) (tC v):=by
 obtain⟨u,v,cv,r⟩:=C.clv x c hl
 refine⟨u,v,cv,r,λp0=>?_⟩
 rcases cv with h|⟨h,hb,hn⟩
 ·exact Jf (C.glb x hc) h r.rel (C.dbG x hc)
 ·exact z05 (C.glb x hc) h hb r.rel hn (C.dbG x hc)
theorem Q7(C:Ck D W Γ X k):∀{es:List Expr} {cs:List Nat},vt Γ es=some cs->∃us vs,(∀us',Vals vs us'->us'=us)/\vs.length=es.length/\es.all noStar=true/\PA X es (λ_ H Q=>Q vs H)/\∀t tv,WH D t tv->PySem.W.kitAny X.K tv us=some (isAny t cs)
 |[],cs,h=>by
  simp[vt] at h;subst h
  exact⟨[],[],λus' r=>by cases r;rfl,rfl,rfl,λpos pins s σ H Q I q=>qi pos pins s σ H Q I q,λt tv _=>rfl⟩
 |e::es,cs,h=>by
  unfold vt at h
  split at h
  ·rename_i x p0
   split at h
   ·rename_i hc
    simp only[Bool.and_eq_true,List.contains_iff_mem] at hc
    split at h
    ·rename_i c hl
     cases hr:vt Γ es with
     |none=>rw[hr] at h;cases h
     |some cs'=>
      rw[hr] at h
      cases h
      have hm:=lookup_mem hl
      obtain⟨us,vs,rv,hl,hs,hp,hk⟩:=Q7 C hr
      obtain⟨u,v,cv,r,pe⟩:=z2o C hc.2 hm
      refine⟨u::us,v::vs,λus' q=>by cases q with|cons q1 q2=>rw[r.only q1,rv _ q2],by simp[hl],by simp[noStar,hs],λpos pins s σ H Q I q=>zr (pe p0) hp (z4 rfl) pos pins s σ H Q I q,λt tv ht=>?_⟩
      have k1:=C.isi t x c hm tv u ht cv
      have k2:=hk t tv ht
      unfold PySem.W.kitAny
      rw[k1]
      rw[V7]
      cases hb:jT t c with
      |true=>rfl
      |false=>exact k2
    ·cases h
   ·cases h
  ·cases h
theorem z3e (C:Ck D W Γ X k) {cs:List Nat} {p0:Pos} (hx:("isinstance":Str)∈Γ.G) (hg:Γ.gl "isinstance"=.none) (hs:noStar a=true) (hcs:uk Γ c=some cs) (ha:PE X a (rdE D W f)):PE X (.Call (.Name "isinstance" p0) [a,c] [] pos) (rdE D W (vW cs f)):=by
 have hm:=C.glo _ hx
 rw[hg] at hm
 rintro pins s σ H Q I ⟨φ,α,τ,μ,sr,mr,p⟩
 refine wpAny_Call_Name_kw (w_ I (C.glb _ hx) hm boot_isinstance ?_ (by decide) (C.dbG _ hx))
 unfold uk at hcs
 split at hcs
 ·rename_i cn pc
  obtain⟨us0,vs0,hu,hl,hst,hp,hk⟩:=Q7 C hcs
  refine PyProof.Rows.callWith_builtin1 (thn (zr ha hp (z4 hs) pos pins s σ H (λvs H1=>∃v t μ1 α1,vs=v::vs0/\Stp α H α1 H1/\MRel D φ α1 H1 μ1/\Den D φ α1 H1 t v/\Post D W φ α1 H1 σ (RV D φ Q) (X5 cs t μ1)) I ⟨φ,α,τ,μ,sr,mr,p.bind.mono λt μ' α' H' st m q v d=>⟨v,t,μ',α',rfl,st,m,d,q⟩⟩) ?_) (z4 hs) (zY (by rfl))
  rintro us s1 ⟨vs,H1,I1,rv,v,t,μ1,α1,rfl,st,m,d,q⟩
  cases rv with
  | @cons _ u _ us' r1 r2=>
  obtain rfl:=hu us' r2
  have hlu:us'.length=1:=by rw[←r2.length];exact hl
  match us',hlu with
  |[uc],_=>
  refine JF C I1 m d r1 q λtn tv P q ht kx hP hne=>?_
  have kk:=hk tn tv ht
  have k1:PySem.W.kitOne X.K tv uc=some (isAny tn cs):=by
   unfold PySem.W.kitAny at kk
   split at kk
   ·rename_i hb;rw[hb];exact kk
   ·rename_i hb;rw[hb];exact kk
   ·cases kk
  exact PySem.W.kia_one kx I1.kIn hP k1 hne λtk=>⟨.bl _,H1,I1.tok tk,rfl,q.here m rfl⟩
 ·rename_i ees kk pc
  split at hcs
  case isFalse=>cases hcs
  rename_i hlen
  obtain⟨us0,vs0,hu,hl,hst,hp,hk⟩:=Q7 C hcs
  refine PyProof.Rows.callWith_builtin1 (thn (zr ha (zr (XI hp) qi (z4 rfl)) (z4 hs) pos pins s σ H (λvs H2=>∃v tp H1 t μ1 α1,vs=[v,.ref tp]/\H1 tp=none/\H2=upd H1 tp (.tup vs0)/\Stp α H α1 H1/\MRel D φ α1 H1 μ1/\Den D φ α1 H1 t v/\Post D W φ α1 H1 σ (RV D φ Q) (X5 cs t μ1)) I ⟨φ,α,τ,μ,sr,mr,p.bind.mono λt μ' α' H' st m q v d=>⟨by rw[hl];exact zp (by simpa using hlen),λtp htp=>⟨v,tp,H',t,μ',α',rfl,htp,rfl,st,m,d,q⟩⟩⟩) ?_) (z4 hs) (zY (by rfl))
  rintro us s1 ⟨vs,H2,I1,rv,v,tp,H1,t,μ1,α1,rfl,htp,rfl,st,m,d,q⟩
  obtain⟨u,ut,rfl,r1,r2⟩:=vals2 rv
  have r2:ut=Value.ref tp:=r2
  subst r2
  have sm:xg H1 (upd H1 tp (.tup vs0)):=zb htp
  refine JF C I1 (m.new sm) (d.step (Stp.new sm)) r1 (q.step (Stp.new sm)) λtn tv P q ht kx hP hne=>?_
  obtain⟨_,its,rvs,⟨o,ho,hcl,n,hd⟩⟩:=(show ObjOk X.prog X.w _ s1.heap tp (.tup vs0) from I1.hok tp _ z6)
  obtain rfl:=hu its rvs
  obtain⟨oc,odd,odt,osl⟩:=o
  simp only at hcl hd
  subst hcl hd
  exact PySem.W.kia_tup kx I1.kIn hP ho (hk tn tv ht) hne λtk=>⟨.bl _,_,I1.tok tk,rfl,q.here (m.new sm) rfl⟩
 ·cases hcs
end
end NH
end
section
namespace NH
open PySem PySem.Spec PyProof.Rows L2
section
variable {X:Cx}{D:DP}{W:XW}{Γ:Cn}{k:Nat}{pins:List (Addr×Obj)}{s:Shared}{σ:St}{H:Hp}{φ α:List Addr}{τ:Sl}{μ:Mem}{f g h:De}{a b c:Expr}{pos:Pos}{es:List Expr}
noncomputable def B1 (X:Cx)(D:DP)(W:XW)(fv:Value)(op:T->Mem->RE T):Prop:=
 ∀(pins:List (Addr×Obj)) (s:Shared) (σ:St) (H:Hp) (φ α:List Addr) (μ:Mem) (t:T) (v:V) (u:Value) (Q:VK),Inv X pins σ H s->MRel D φ α H μ->Den D φ α H t v->RelV v u->Post D W φ α H σ (RV D φ Q) (op t μ)->
  wpAny (model X.prog X.w) X.A (call fv [u]) (EP X pins σ Q) X.xe s
theorem Xz (C:Ck D W Γ X k) {x:Str} {id:String} {op:T->Mem->RE T} {p0:Pos} (hx:x∈Γ.G) (hg:Γ.gl x=.none) (hv:bootBuiltins x=some (.builtin id)) (hn:x≠"__name__") (hs:noStar a=true) (hb:B1 X D W (.builtin id) op) (ha:PE X a (rdE D W f)) :
  PE X (.Call (.Name x p0) [a] [] pos) (rdE D W (eB1 op f)):=by
 have hm:=C.glo _ hx
 rw[hg] at hm
 rintro pins s σ H Q I ⟨φ,α,τ,μ,sr,mr,p⟩
 refine wpAny_Call_Name_kw (w_ I (C.glb _ hx) hm hv ?_ hn (C.dbG _ hx))
 refine PyProof.Rows.callWith_builtin1 (thn (zr ha qi (z4 hs) pos pins s σ H (λvs H1=>∃v t μ1 α1,vs=[v]/\Stp α H α1 H1/\MRel D φ α1 H1 μ1/\Den D φ α1 H1 t v/\Post D W φ α1 H1 σ (RV D φ Q) (op t μ1)) I ⟨φ,α,τ,μ,sr,mr,p.bind.mono λt μ' α' H' st m q v d=>⟨v,t,μ',α',rfl,st,m,d,q⟩⟩) ?_) (z4 hs) (zY (by rfl))
 rintro us s1 ⟨vs,H1,I1,rv,v,t,μ1,α1,rfl,st,m,d,q⟩
 obtain⟨u,rfl,r1⟩:=vals1 rv
 exact hb pins s1 σ H1 φ α1 μ1 t v u Q I1 m d r1 q
theorem z5x (C:Ck D W Γ X k) {x:Str} {id:String} {op:T->Mem->RE T} {p0:Pos} (hx:x∈Γ.G) (hg:Γ.gl x=.none) (hv:bootBuiltins x=some (.type id)) (hn:x≠"__name__") (hs:noStar a=true) (hb:B1 X D W (.type id) op) (ha:PE X a (rdE D W f)) :
  PE X (.Call (.Name x p0) [a] [] pos) (rdE D W (eB1 op f)):=by
 have hm:=C.glo _ hx
 rw[hg] at hm
 rintro pins s σ H Q I ⟨φ,α,τ,μ,sr,mr,p⟩
 refine wpAny_Call_Name_kw (w_ I (C.glb _ hx) hm hv ?_ hn (C.dbG _ hx))
 refine PyProof.Rows.callWith_type1 (thn (zr ha qi (z4 hs) pos pins s σ H (λvs H1=>∃v t μ1 α1,vs=[v]/\Stp α H α1 H1/\MRel D φ α1 H1 μ1/\Den D φ α1 H1 t v/\Post D W φ α1 H1 σ (RV D φ Q) (op t μ1)) I ⟨φ,α,τ,μ,sr,mr,p.bind.mono λt μ' α' H' st m q v d=>⟨v,t,μ',α',rfl,st,m,d,q⟩⟩) ?_) (z4 hs) (zY (by rfl))
 rintro us s1 ⟨vs,H1,I1,rv,v,t,μ1,α1,rfl,st,m,d,q⟩
 obtain⟨u,rfl,r1⟩:=vals1 rv
 exact hb pins s1 σ H1 φ α1 μ1 t v u Q I1 m d r1 q
theorem z5H:B1 X D W (.builtin "len") vF:=by
 intro pins s σ H φ α μ t v u Q I mr d r p
 unfold vF at p
 split at p
 ·obtain⟨ad,xs,rfl,_,_,q,l⟩:=d
  exact vp pins s σ H _ _ Q I (.cons r .nil) ⟨ad,xs,rfl,.inl (.inl q),by rw[←l.length];exact p.here mr rfl⟩
 ·obtain⟨ad,xs,rfl,_,_,q,l⟩:=d
  exact vp pins s σ H _ _ Q I (.cons r .nil) ⟨ad,xs,rfl,.inr (.inl q),by rw[←l.length];exact p.here mr rfl⟩
 ·cases d
  obtain⟨hl,p⟩:=p.grd
  exact ZR pins s σ H _ _ Q I (.cons r .nil) ⟨_,rfl,zp hl,p.here mr rfl⟩
 ·obtain⟨ts,hj,p⟩:=p.ex1
  obtain⟨ad,hi,rfl⟩:=d
  obtain⟨xs,q,l⟩:=mr.ob _ ad _ hi hj
  exact vp pins s σ H _ _ Q I (.cons r .nil) ⟨ad,xs,rfl,.inl (.inl (.inl q)),by rw[←l.length];exact Post.here p mr rfl⟩
 ·exact p.elim
theorem z2O:B1 X D W (.type "list") Jq:=by
 intro pins s σ H φ α μ t v u Q I mr d r p
 unfold Jq at p
 split at p
 ·obtain⟨ad,xs,rfl,_,_,q,l⟩:=d
  exact vi pins s σ H _ _ Q I (.cons r .nil) ⟨ad,xs,rfl,.inl (.inl q),λz hz=>p.fresh mr (zb hz) ⟨z,xs,rfl,zh mr hz,zi mr hz,.inl z6,l.step (Stp.new (zb hz))⟩⟩
 ·obtain⟨ad,xs,rfl,_,_,q,l⟩:=d
  exact vi pins s σ H _ _ Q I (.cons r .nil) ⟨ad,xs,rfl,.inr (.inl q),λz hz=>p.fresh mr (zb hz) ⟨z,xs,rfl,zh mr hz,zi mr hz,.inl z6,l.step (Stp.new (zb hz))⟩⟩
 ·obtain⟨ts,hj,p⟩:=p.ex1
  obtain⟨ad,hi,rfl⟩:=d
  obtain⟨xs,q,l⟩:=mr.ob _ ad _ hi hj
  exact vi pins s σ H _ _ Q I (.cons r .nil) ⟨ad,xs,rfl,.inl (.inl (.inl q)),λz hz=>Post.fresh p mr (zb hz) ⟨z,xs,rfl,zh mr hz,zi mr hz,.inl z6,l.step (Stp.new (zb hz))⟩⟩
 ·exact p.elim
theorem vT{p:Addr}{o:HO}(hp:H p=none):Stp α H (α++[p]) (upd H p o):=⟨⟨[p],rfl,by simpa using hp⟩,λb u _ e=>zb hp b u e,λb e=>by
 by_cases z:b=p
 ·rw[z,z6] at e;cases e
 ·rw[z7 z] at e;exact e⟩
theorem MRel.lay{p:Addr}{ts:List T}{vs:List V}(m:MRel D φ α H μ)(hp:H p=none)(l:DenL D φ α H ts vs):MRel D φ (α++[p]) (upd H p (.lst vs)) (μ++[.lst ts]):=by
 have st:Stp α H (α++[p]) (upd H p (.lst vs)):=vT hp
 have hl:=m.len
 refine⟨by simp[hl],?_,λb hb=>?_,λb hb=>?_,λi a o e1 e2=>?_⟩
 ·rw[List.nodup_append]
  refine⟨m.nd,by simp,λa ha b hb=>?_⟩
  rw[List.mem_singleton.mp hb]
  intro z
  exact zi m hp (z▸ha)
 ·rcases List.mem_append.mp hb with h|h
  ·exact m.dis b h
  ·rw[List.mem_singleton.mp h];exact zh m hp
 ·obtain⟨u,e⟩:=m.phi b hb
  exact⟨u,zb hp b u e⟩
 ·by_cases hi:i<α.length
  ·rw[List.getElem?_append_left hi] at e1
   rw[List.getElem?_append_left (by omega)] at e2
   have d:=m.ob i a o e1 e2
   obtain⟨u,q⟩:=d.some
   exact d.step st ((zb hp _ _ q).trans q.symm)
  ·rw[List.getElem?_append_right (by omega)] at e1 e2
   have hi':i-α.length=0:=by
    by_cases z:i-α.length=0
    ·exact z
    ·rw[List.getElem?_eq_none (by simp;omega)] at e1;cases e1
   have hi2:i-μ.length=0:=by omega
   rw[hi'] at e1
   rw[hi2] at e2
   have e1:some p=some a:=e1
   have e2:some (MO.lst ts)=some o:=e2
   cases e1;cases e2
   exact⟨vs,z6,l.step st⟩
theorem Post.lay{Q:VK}{p:Addr}{ts:List T}{vs:List V}(q:Post D W φ α H σ (RV D φ Q) (.ok (.mut μ.length) (μ++[.lst ts])))(m:MRel D φ α H μ)(hp:H p=none)(l:DenL D φ α H ts vs):Q (.ref p) (upd H p (.lst vs)):=
 q.ok (vT hp) (m.lay hp l) _ ⟨p,by rw[←m.len,List.getElem?_append_right (Nat.le_refl _)];simp,rfl⟩
theorem z24{fs:List De}(hl:es.length<=room)(ha:EsOk X D W es fs):PE X (.List es pos) (rdE D W (KD fs)):=by
 refine PE.mono (X7 (wq ha)) ?_
 rintro σ H Q ⟨φ,α,τ,μ,sr,mr,p⟩
 refine⟨φ,α,τ,μ,sr,mr,p.bind.mono λts μ1 α1 H1 st m q vs dl hn=>⟨by rw[hn];exact zp hl,λz hz=>q.lay m hz dl⟩⟩
theorem QQ:∀{ts:List T} {bs:List Bool} {vs:List V} {us:List Value},bools ts=some bs->DenL D φ α H ts vs->Vals vs us->us=bs.map Value.bool
 |[],bs,vs,us,h,l,r=>by
  simp[bools] at h;subst h
  have l:vs=[]:=l
  subst l;cases r;rfl
 |t::ts,bs,vs,us,h,l,r=>by
  obtain⟨v,w,rfl,d,l⟩:=l
  cases t with
  |bl b=>
   simp only[bools] at h
   cases q:bools ts with
   |none=>rw[q] at h;cases h
   |some cs=>
    rw[q] at h;cases h
    cases r with
    |cons r1 r2=>
     cases d;cases r1
     rw[QQ q l r2];rfl
  |_=>simp[bools] at h
theorem z5b(hh:X.calm=true):B1 X D W (.builtin "all") K4:=by
 intro pins s σ H φ α μ t v u Q I mr d r p
 unfold K4 at p
 split at p
 case h_2=>exact p.elim
 rename_i xs
 obtain⟨bs,hb,p⟩:=p.som
 obtain⟨ad,vs,rfl,_,_,q,l⟩:=d
 cases r
 obtain⟨its,rv,pl,hz⟩:=I.list (.inl q)
 have eb:=QQ hb l rv
 have hl:=pl.isList
 have hlt:ad<s.heap.objs.size:=by obtain⟨_,e,_⟩:=hl;exact Heap.lt_size e
 refine call_all_walk (wpAny_pyIter_list hl ?_)
 refine⟨s.heap.objs.size,[s.heap.objs.size,ad],[s.heap.objs.size],its.toArray.size,_,_,λi=>(bs[i]?).getD true,rfl,Walks.list (A:=X.A.in1) (I.ok.hd hh) _ ad (Nat.ne_of_lt hlt) its.toArray,
  ⟨⟨_,Heap.get?_push_size _ rfl,rfl,rfl⟩,hl.push _⟩,λi v s' Q' E' hP hQ=>?_,λh' tk hk=>?_⟩
 ·have hP':its[i]?=some v:=by simpa using hP
  rw[eb,List.getElem?_map] at hP'
  cases e:bs[i]? with
  |none=>rw[e] at hP';cases hP'
  |some b=>
   rw[e] at hP'
   simp at hP'
   subst hP'
   simp only[e,Option.getD_some] at hQ
   exact wpAny_truthy_bool hQ
 ·have e:((List.range its.toArray.size).all λi=>(bs[i]?).getD true)=bs.all id:=by
   have hn:its.toArray.size=bs.length:=by simp[eb]
   rw[hn]
   rw[Bool.eq_iff_iff]
   simp only[List.all_eq_true,List.mem_range,id_eq]
   constructor
   ·intro h b hb'
    obtain⟨i,hi,rfl⟩:=List.mem_iff_getElem.mp hb'
    have:=h i hi
    simpa[hi] using this
   ·intro h i hi
    have:=h bs[i] (List.getElem_mem hi)
    simpa[hi] using this
  rw[e]
  have kp:∀b x,s.heap.get? b=some x->h'.get? b=some x:=λb x e=>hk b x (λhm=>by rw[List.mem_singleton.mp hm] at e;exact Nat.lt_irrefl _ (Heap.lt_size e)) (Heap.get?_push_of_some _ e)
  exact⟨.bl (bs.all id),H,I.kept (t':=tk) kp,rfl,p.here mr rfl⟩
theorem Stp.turn{x:Addr}{o:HO}(hx:x∈α)(hh:∃o',H x=some o'):Stp α H α (upd H x o):=by
 refine⟨⟨[],by simp,by simp⟩,λb u n e=>?_,λb e=>?_⟩
 ·rw[z7 (λ(z:b=x)=>n (by rw[z];exact hx))];exact e
 ·by_cases z:b=x
  ·rw[z,z6] at e;cases e
  ·rw[z7 z] at e;exact e
theorem MRel.turn{i:Nat}{x:Addr}{o:HO}{mo:MO}(m:MRel D φ α H μ)(hx:α[i]?=some x)(hi:i<μ.length)(st:Stp α H α (upd H x o))(d:DenO D φ α (upd H x o) mo x):MRel D φ α (upd H x o) (μ.set i mo):=by
 refine⟨by simp[m.len],m.nd,m.dis,λb hb=>?_,λj y o' e1 e2=>?_⟩
 ·obtain⟨u,hu⟩:=m.phi b hb
  exact⟨u,st.keep b u (λz=>m.dis b z hb) hu⟩
 ·by_cases q:i=j
  ·subst q
   rw[hx] at e1;cases e1
   rw[List.getElem?_set_self hi] at e2;cases e2
   exact d
  ·rw[List.getElem?_set_ne q] at e2
   have ne:y≠x:=λz=>by
    subst z
    obtain⟨h1,e1'⟩:=List.getElem?_eq_some_iff.mp e1
    obtain⟨h2,e2'⟩:=List.getElem?_eq_some_iff.mp hx
    exact q ((List.getElem_inj m.nd).mp (e2'.trans e1'.symm))
   exact DenO.step st (z7 ne) (m.ob j y o' e1 e2)
theorem U7{i:Nat}{x:Addr}{xs:List V}{ts:List T}{v:V}{t:T}(m2:MRel D φ α H μ)(hx2:α[i]?=some x)(hμ:μ[i]?=some (.lst ts))(hH:H x=some (.lst xs))(l:DenL D φ α H ts xs)(d:Den D φ α H t v) :
  Stp α H α (upd H x (.lst (xs++[v])))/\MRel D φ α (upd H x (.lst (xs++[v]))) (μ.set i (.lst (ts++[t]))):=by
 have st3:Stp α H α (upd H x (.lst (xs++[v]))):=Stp.turn (List.mem_of_getElem? hx2) ⟨_,hH⟩
 have hi:i<μ.length:=(List.getElem?_eq_some_iff.mp hμ).1
 exact⟨st3,m2.turn hx2 hi st3 ⟨_,z6,(l.step st3).append ⟨v,[],rfl,d.step st3,rfl⟩⟩⟩
theorem z3A{o:Expr}{pa pc:Pos}{go:De}(hp:zL o=true)(hs:noStar a=true)(hline:(pa.endLine == pc.line)=true)(ho:PE X o (rdE D W go))(ha:PE X a (rdE D W f)) :
  PE X (.Call (.Attribute o "append" pa) [a] [] pc) (rdE D W (We go f)):=by
 have hb:starEach [a] X.env=[(false,eval a X.env)]:=z4 hs
 refine PE.mono (z1B PySem.F.plainAttrs_list PySem.F.slot_list_append PySem.F.type_list_append Zt ho (zr ha qi (z4 hs)) (qB hp) (by rw[hb];rfl) hline (z4 hs) rfl) ?_
 rintro σ H Q ⟨φ,α,τ,μ,sr,mr,p⟩
 refine⟨φ,α,τ,μ,sr,mr,p.bind.mono λot μ1 α1 H1 st1 m1 q ov dv=>?_⟩
 split at q
 case h_2=>exact q.elim
 rename_i i
 obtain⟨K,Z,⟨⟨ts0,hμ0⟩,hf⟩,hk,hz⟩:=q
 obtain⟨x,hx,rfl⟩:=dv
 obtain⟨xs0,hH0,l0⟩:=m1.ob _ x _ hx hμ0
 refine⟨.inl ⟨rfl,_,.inl (.inl hH0)⟩,φ,α1,τ,μ1,sr.step st1,m1,_,Z,hf,?_,hz⟩
 rintro t μ2 ⟨ts,hμ,hl,q2⟩ α2 H2 st2 m2 v d
 obtain⟨β,e2,_⟩:=st2.ext
 have hx2:α2[i]?=some x:=by
  rw[e2,List.getElem?_append_left (List.getElem?_eq_some_iff.mp hx).1];exact hx
 obtain⟨xs,hH,l⟩:=m2.ob i x _ hx2 hμ
 obtain⟨st3,m3⟩:=U7 m2 hx2 hμ hH l d
 refine⟨x,xs,v,rfl,rfl,hH,?_,?_⟩
 ·rw[←l.length];exact Nat.lt_of_lt_of_le hl (zp (Nat.le_refl _))
 ·exact hk _ _ q2 α2 _ (st2.trans st3) m3 .non rfl
end
end NH
end
section
namespace NH
open PySem PySem.Spec PyProof.Rows L2
structure ItV(D:DP)(J:It)(Ok:List Addr->List Addr->Hp->Prop)(xs:List T):Prop where
 go:∀(i:Nat) φ α H,Ok φ α H->i<xs.length->J.go i H
 yld:∀(i:Nat) φ α H v H' t,Ok φ α H->xs[i]?=some t->J.yld i H v H'->xg H H'/\Den D φ α H' t v
 stop:∀φ α H,Ok φ α H->J.stop xs.length H
noncomputable def OkI (D:DP)(φ α:List Addr)(H:Hp)(xs:List T)(lv:Mem->Prop)(Ok:List Addr->List Addr->Hp->Prop):Prop:=∀φ' α' H' μ',Lk φ α H φ' α' H'->MRel D φ' α' H' μ'->lv μ'->Ok φ' α' H'
noncomputable def rdI (D:DP)(W:XW)(f:Di):TI:=λσ H R=>∃φ α τ μ,SRel D φ α H τ σ/\MRel D φ α H μ/\
 Post D W φ α H σ (λp μ' α' H'=>∀J Ok,ItV D J Ok p.1->OkI D φ α' H' p.1 p.2 Ok->p.2 μ'->R J H') (f τ μ).re
theorem Lk.trans{φ φ1 φ2 α α1 α2:List Addr}{H H1 H2:Hp}(a:Lk φ α H φ1 α1 H1)(b:Lk φ1 α1 H1 φ2 α2 H2):Lk φ α H φ2 α2 H2:=
 ⟨λx o n1 n2 e=>let ⟨m1,m2,e1⟩:=a.ob x o n1 n2 e;b.ob x o m1 m2 e1,λi x e=>b.st i x (a.st i x e)⟩
theorem J9{D:DP}{φ α:List Addr}{H:Hp}{γ:Type}{f:γ->T}{xs:List γ}{i:Nat}{t:T}(h:(xs.map f)[i]?=some t):∃a,xs[i]?=some a/\t=f a:=by
 rw[List.getElem?_map] at h
 cases q:xs[i]? with
 |none=>rw[q] at h;cases h
 |some a=>rw[q] at h;cases h;exact⟨a,rfl,rfl⟩
section
variable {X:Cx}{D:DP}{W:XW}{Γ:Cn}{k:Nat}{pins:List (Addr×Obj)}{s:Shared}{σ:St}{H:Hp}{φ α:List Addr}{τ:Sl}{μ:Mem}{f g h:De}{a b c tg:Expr}{pos:Pos}{es:List Expr}
theorem Wi{K:PySem.W.Frag}{ad:Addr}{xs:List T}:ItV D (Itl K ad) (λφ α H=>∃vs,Rd H ad (.lst vs)/\DenL D φ α H xs vs) xs:=
 ⟨λi φ α H ⟨vs,ok,l⟩ hi=>⟨vs,vs[i]'(by rw[←l.length];exact hi),.inl ok,by simp⟩,λi φ α H v H' t ⟨vs,ok,l⟩ hi y=>by
  obtain⟨rfl,y⟩:=y
  obtain⟨x,hx,d⟩:=l.get hi
  have e:=y vs (.inl ok)
  rw[e] at hx;cases hx;exact⟨λ_ _ z=>z,d⟩,λφ α H ⟨vs,ok,l⟩=>⟨vs,.inl ok,by rw[l.length];exact Nat.le_refl _⟩⟩
theorem z0k{K:PySem.W.Frag}{ad:Addr}{xs:List T}:ItV D (Itt K ad) (λφ α H=>∃vs,Rd H ad (.tup vs)/\DenL D φ α H xs vs) xs:=
 ⟨λi φ α H ⟨vs,ok,l⟩ hi=>⟨vs,vs[i]'(by rw[←l.length];exact hi),.inl ok,by simp⟩,λi φ α H v H' t ⟨vs,ok,l⟩ hi y=>by
  obtain⟨rfl,y⟩:=y
  obtain⟨x,hx,d⟩:=l.get hi
  have e:=y vs (.inl ok)
  rw[e] at hx;cases hx;exact⟨λ_ _ z=>z,d⟩,λφ α H ⟨vs,ok,l⟩=>⟨vs,.inl ok,by rw[l.length];exact Nat.le_refl _⟩⟩
theorem K_{n i j:Nat}(h:(List.range n)[i]?=some j):j=i:=by
 have:=(List.getElem?_eq_some_iff.mp h).2
 simpa using this.symm
noncomputable def ItC(z:Str):It:=⟨λi _=>i<z.cps.toList.length,λi H x H'=>H'=H/\∃c,z.cps.toList[i]?=some c/\x=.str ⟨#[c]⟩,λi _=>z.cps.toList.length<=i⟩
theorem Ut{z:Str}:ItV D (ItC z) (λ_ _ _=>True) (z.cps.toList.map λc=>T.str ⟨#[c]⟩):=
 ⟨λi φ α H _ hi=>by (show i<_);simpa using hi,λi φ α H v H' t _ hi y=>by
  obtain⟨j,hj,rfl⟩:=J9 (D:=D) (φ:=φ) (α:=α) (H:=H) hi
  obtain⟨rfl,c,hc,rfl⟩:=y
  rw[hj] at hc;cases hc;exact⟨λ_ _ z=>z,rfl⟩,λφ α H _=>by show _<=_;simp⟩
theorem X6 {P:Program} {w:World} {K:PySem.W.Frag} {tg:Expr} {kd:String} (hk:kd="str_ascii_iterator"\/kd="str_iterator") (it:Addr) (z:Str) (t0:Tok):Turn P w K tg (ItC z) [it] it (λi h=>h.IsStrIter it kd z t0 i) where
 mem:=by simp
 obj:=λi h st b hb=>by
  have e:b=it:=by simpa using hb
  subst e
  obtain⟨o,e,c,d⟩:=st
  exact⟨o,e,λv z=>by rw[d] at z;cases z⟩
 keep:=λi h h' st k=>let ⟨o,ho,r⟩:=st;⟨o,k it (by simp) o ho,r⟩
 item:=by
  intro X hP hw hK hc i pins s σ H E I hf st hg
  subst hP hw hK
  obtain⟨f0,f1,f2,f3,f4,f5⟩:=hf it (by simp)
  have hi:i<z.cps.size:=by simpa[ItC] using hg
  have hcx:z.cps[i]?=some z.cps[i]:=Array.getElem?_eq_getElem hi
  have hcl:z.cps.toList[i]?=some z.cps[i]:=by rw[Array.getElem?_toList];exact hcx
  rcases hk with rfl|rfl
  ·refine wpAny_pyNext_ascii_item st hcx λh' st' sb=>?_
   have I1:Inv X pins σ H {s with heap:=h',toks:=s.toks+1}:=I.turned (λb o hb e=>(sb.2 b hb).trans e) f0 f1 f3 f4 f5
   obtain⟨o,e,c,d⟩:=id st'
   exact⟨.str ⟨#[z.cps[i]]⟩ s.toks,rfl,Zj (s:={s with heap:=h',toks:=s.toks+1}) e c d (by decide) ⟨.str ⟨#[z.cps[i]]⟩,H,I1,⟨_,rfl⟩,⟨rfl,z.cps[i],hcl,rfl⟩,st',λb hb=>(hf b hb).1⟩⟩
  ·refine wpAny_pyNext_wide_item st hcx λh' st' sb=>?_
   have I1:Inv X pins σ H {s with heap:=h',toks:=s.toks+1}:=I.turned (λb o hb e=>(sb.2 b hb).trans e) f0 f1 f3 f4 f5
   obtain⟨o,e,c,d⟩:=id st'
   exact⟨.str ⟨#[z.cps[i]]⟩ s.toks,rfl,Zj (s:={s with heap:=h',toks:=s.toks+1}) e c d (by decide) ⟨.str ⟨#[z.cps[i]]⟩,H,I1,⟨_,rfl⟩,⟨rfl,z.cps[i],hcl,rfl⟩,st',λb hb=>(hf b hb).1⟩⟩
 done:=by
  intro X hP hw hK hc i pins s σ H E I hf st hg
  subst hP hw hK
  obtain⟨f0,f1,f2,f3,f4,f5⟩:=hf it (by simp)
  have hx:z.cps[i]?=none:=Array.getElem?_eq_none (by have:z.cps.toList.length<=i:=hg;simpa using this)
  rcases hk with rfl|rfl
  ·exact wpAny_pyNext_ascii_end (I.ok.hd hc) st hx λh' eb=>⟨rfl,I.turned (t':=s.toks) (λb o hb e=>eb b o hb e) f0 f1 f3 f4 f5⟩
  ·exact wpAny_pyNext_wide_end (I.ok.hd hc) st hx λh' eb=>⟨rfl,I.turned (t':=s.toks) (λb o hb e=>eb b o hb e) f0 f1 f3 f4 f5⟩
 self:=λ_ _ _ _ _ st h=>by
  rcases hk with rfl|rfl
  ·exact wpAny_pyIter_striter_ascii st h
  ·exact wpAny_pyIter_striter_wide st h
theorem z14 (ha : PE X a (rdE D W f)) : PI X tg a (rdI D W (iE f)) := by
  rintro pins s σ H R I ⟨φ,α,τ,μ,sr,mr,p⟩
  refine thn (sub ha I sr mr p) ?_
  rintro u s1 ⟨v,H1,t,μ1,α1,I1,r1,st1,sr1,mr1,d1,p1⟩
  cases t with
  | lst ts =>
    obtain ⟨ad,vs,rfl,n1,n2,q,l⟩ := d1
    cases r1
    obtain ⟨its,rv,pl,hz⟩ := I1.list (.inl q)
    refine wpAny_pyIter_list pl.isList ?_
    refine ⟨s1.heap.objs.size,[s1.heap.objs.size],_,_,H1,rfl,I1.kept (t' := s1.toks) fun b o e => Heap.get?_push_of_some _ e,ZC ad _,⟨_,Heap.get?_push_size _ rfl,rfl,rfl⟩,fun b hb => ?_,?_⟩
    · have e : b = s1.heap.objs.size := by simpa using hb
      subst e
      exact I1.fpOk (Nat.le_refl _) (I1.hok.fresh (Nat.le_refl _))
    · have p2 : Post D W φ α1 H1 σ _ (RE.ok (ts,lvT) μ1) := p1
      exact p2.ok (Stp.refl _ _) mr1 _ _ Wi (fun φ' α' H' μ' lk _ _ => by
        obtain ⟨a',ws,e,_,_,q',l'⟩ := Den.lk lk (show Den D φ α1 H1 (.lst ts) (.ref ad) from ⟨ad,vs,rfl,n1,n2,q,l⟩)
        cases e; exact ⟨ws,q',l'⟩) trivial
  | tup ts =>
    obtain ⟨ad,vs,rfl,n1,n2,q,l⟩ := d1
    cases r1
    obtain ⟨its,rv,pl,hz⟩ := I1.tuple (.inl q)
    refine wpAny_pyIter_tuple (show s1.heap.IsTuple ad its.toArray from pl) ?_
    refine ⟨s1.heap.objs.size,[s1.heap.objs.size],_,_,H1,rfl,I1.kept (t' := s1.toks) fun b o e => Heap.get?_push_of_some _ e,WY ad _,⟨_,Heap.get?_push_size _ rfl,rfl,rfl⟩,fun b hb => ?_,?_⟩
    · have e : b = s1.heap.objs.size := by simpa using hb
      subst e
      exact I1.fpOk (Nat.le_refl _) (I1.hok.fresh (Nat.le_refl _))
    · have p2 : Post D W φ α1 H1 σ _ (RE.ok (ts,lvT) μ1) := p1
      exact p2.ok (Stp.refl _ _) mr1 _ _ z0k (fun φ' α' H' μ' lk _ _ => by
        obtain ⟨a',ws,e,_,_,q',l'⟩ := Den.lk lk (show Den D φ α1 H1 (.tup ts) (.ref ad) from ⟨ad,vs,rfl,n1,n2,q,l⟩)
        cases e; exact ⟨ws,q',l'⟩) trivial
  | «mut» j =>
    obtain ⟨ad,hj,rfl⟩ := d1
    cases r1
    have p2 : Post D W φ α1 H1 σ _ (fun K _ => ∃ xs,μ1[j]? = some (.lst xs) /\ K (xs,lvM j xs) μ1) := p1
    obtain ⟨xs,hx,p2⟩ := p2.ex1
    obtain ⟨vs,q,l⟩ := mr1.ob j ad _ hj hx
    obtain ⟨its,rv,pl,hz⟩ := I1.list (.inl (.inl q))
    refine wpAny_pyIter_list pl.isList ?_
    refine ⟨s1.heap.objs.size,[s1.heap.objs.size],_,_,H1,rfl,I1.kept (t' := s1.toks) fun b o e => Heap.get?_push_of_some _ e,ZC ad _,⟨_,Heap.get?_push_size _ rfl,rfl,rfl⟩,fun b hb => ?_,?_⟩
    · have e : b = s1.heap.objs.size := by simpa using hb
      subst e
      exact I1.fpOk (Nat.le_refl _) (I1.hok.fresh (Nat.le_refl _))
    · have p2 : Post D W φ α1 H1 σ _ (RE.ok (xs,lvM j xs) μ1) := p2
      exact p2.ok (Stp.refl _ _) mr1 _ _ Wi (fun φ' α' H' μ' lk m hl => by
        obtain ⟨ws,q',l'⟩ := m.ob j ad _ (lk.st j ad hj) hl
        exact ⟨ws,.inl q',l'⟩) hx
  | str z =>
    have d1 : v = .str z := d1
    subst d1
    obtain ⟨t0,rfl⟩ := r1
    have fin : ∀ {kd : String},(kd = "str_ascii_iterator" \/ kd = "str_iterator") -> PIE X pins σ tg R (.ref s1.heap.objs.size) { s1 with heap := s1.heap.push { cls := .type kd,data := .fields #[.str z t0,.int 0 0] } } := fun {kd} hk => by
      refine ⟨s1.heap.objs.size,[s1.heap.objs.size],_,_,H1,rfl,I1.kept (t' := s1.toks) fun b o e => Heap.get?_push_of_some _ e,X6 hk _ z t0,⟨_,Heap.get?_push_size _ rfl,rfl,rfl⟩,fun b hb => ?_,?_⟩
      · have e : b = s1.heap.objs.size := by simpa using hb
        subst e
        exact I1.fpOk (Nat.le_refl _) (I1.hok.fresh (Nat.le_refl _))
      · have p2 : Post D W φ α1 H1 σ _ (RE.ok (yg z,lvT) μ1) := p1
        exact p2.ok (Stp.refl _ _) mr1 _ _ Ut (fun _ _ _ _ _ _ _ => True.intro) trivial
    cases ha : z.cps.all (· < 128) with
    | true => exact wpAny_pyIter_ascii ha (fin (.inl rfl))
    | false => exact wpAny_pyIter_wide ha (fin (.inr rfl))
  | _ => exact Post.elim p1
theorem Ua{x:V}{xs:List V}{us:List Value}(h:Vals (x::xs) us):∃u r,us=u::r/\RelV x u/\Vals xs r:=by
 cases h with
 |cons r q=>exact⟨_,_,rfl,r,q⟩
theorem vals3{x y z:V}{us:List Value}(h:Vals [x,y,z] us):∃u v w,us=[u,v,w]/\RelV x u/\RelV y v/\RelV z w:=by
 obtain⟨u,_,rfl,a,h⟩:=Ua h
 obtain⟨v,_,rfl,b,h⟩:=Ua h
 obtain⟨w,_,rfl,c,h⟩:=Ua h
 cases h
 exact⟨_,_,_,rfl,a,b,c⟩
noncomputable def ItS(lo c:Int)(n:Nat):It:=⟨λi _=>i<n,λi H x H'=>H'=H/\x=.int (lo+i * c),λi _=>n<=i⟩
theorem Wf{P:Program}{w:World}{K:PySem.W.Frag}{tg:Expr}(it:Addr)(lo c:Int)(n:Nat):Turn P w K tg (ItS lo c n) [it] it (λi h=>IsRangeIter h it (lo+(i:Nat) * c) ((n:Int)-(i:Nat)) c) where
 mem:=by simp
 obj:=λi h st b hb=>by
  have e:b=it:=by simpa using hb
  subst e
  exact⟨_,st,λv z=>by cases (show Data.fields _=Data.cell v from z)⟩
 keep:=λi h h' st k=>k it (by simp) _ st
 item:=by
  intro X hP hw hK hc i pins s σ H E I hf st hg
  subst hP hw hK
  obtain⟨f0,f1,f2,f3,f4,f5⟩:=hf it (by simp)
  have W:=Walks.range (prog:=X.prog) (w:=X.w) (I.ok.hd hc) it lo c n
  refine W.item i s _ _ hg st λv h' tk hv st' kk=>?_
  obtain⟨t,rfl⟩:=hv
  have I1:Inv X pins σ H {s with heap:=h',toks:=tk}:=I.turned (λb o hb e=>kk b o (by simpa using hb) e) f0 f1 f3 f4 f5
  exact⟨_,rfl,Zj (s:={s with heap:=h',toks:=tk}) (n:="range_iterator") st' rfl rfl (by decide) ⟨.int (lo+i * c),H,I1,⟨t,rfl⟩,⟨rfl,rfl⟩,st',λb hb=>(hf b hb).1⟩⟩
 done:=by
  intro X hP hw hK hc i pins s σ H E I hf st hg
  subst hP hw hK
  obtain⟨f0,f1,f2,f3,f4,f5⟩:=hf it (by simp)
  exact wpAny_pyNext_range_end (I.ok.hd hc) st (by have:n<=i:=hg;omega) λh' eb=>⟨rfl,I.turned (t':=s.toks) (λb o hb e=>eb b o hb e) f0 f1 f3 f4 f5⟩
 self:=λ_ _ _ _ _ st h=>wpAny_pyIter_rangeiter st h
theorem Wb{P:Program}{w:World}{K:PySem.W.Frag}{tg:Expr}(it:Addr)(lo c:Int)(n:Nat):Turn P w K tg (ItS lo c n) [it] it (λi h=>IsLongIter h it (lo+(i:Nat) * c) ((n:Int)-(i:Nat)) c) where
 mem:=by simp
 obj:=λi h st b hb=>by
  have e:b=it:=by simpa using hb
  subst e
  exact⟨_,st,λv z=>by cases (show Data.fields _=Data.cell v from z)⟩
 keep:=λi h h' st k=>k it (by simp) _ st
 item:=by
  intro X hP hw hK hc i pins s σ H E I hf st hg
  subst hP hw hK
  obtain⟨f0,f1,f2,f3,f4,f5⟩:=hf it (by simp)
  have W:=Walks.longrange (prog:=X.prog) (w:=X.w) (I.ok.hd hc) it lo c n
  refine W.item i s _ _ hg st λv h' tk hv st' kk=>?_
  obtain⟨t,rfl⟩:=hv
  have I1:Inv X pins σ H {s with heap:=h',toks:=tk}:=I.turned (λb o hb e=>kk b o (by simpa using hb) e) f0 f1 f3 f4 f5
  exact⟨_,rfl,Zj (s:={s with heap:=h',toks:=tk}) (n:="longrange_iterator") st' rfl rfl (by decide) ⟨.int (lo+i * c),H,I1,⟨t,rfl⟩,⟨rfl,rfl⟩,st',λb hb=>(hf b hb).1⟩⟩
 done:=by
  intro X hP hw hK hc i pins s σ H E I hf st hg
  subst hP hw hK
  obtain⟨f0,f1,f2,f3,f4,f5⟩:=hf it (by simp)
  exact wpAny_pyNext_long_end (I.ok.hd hc) st (by have:n<=i:=hg;omega) λh' eb=>⟨rfl,I.turned (t':=s.toks) (λb o hb e=>eb b o hb e) f0 f1 f3 f4 f5⟩
 self:=λ_ _ _ _ _ st h=>wpAny_pyIter_longiter st h
theorem UX{a b c:Int}(hc:0<c):Builtin.Range.rangeSize a b c=if a<b then (b-a-1) / c+1 else 0:=by
 unfold Builtin.Range.rangeSize
 rw[if_pos hc]
theorem xl{pins:List (Addr×Obj)}{σ:St}{H:Hp}{s:Shared}{R:It->Hp->Prop}{E:Value->Shared->Prop}{lo hi c:Int}{t u v:Tok}{tk:Nat}(I:Inv X pins σ H s)(h3:0<c)
  (q:R (ItS lo c (if lo<hi then (hi-lo-1) / c+1 else 0:Int).toNat) H):wpAny (model X.prog X.w) X.A (pyIter (.ref s.heap.objs.size)) (PIE X pins σ tg R) E {s with heap:=s.heap.push {cls:=.type "range",data:=.fields #[.int lo t,.int hi u,.int c v]},toks:=tk}:=by
 have I1:Inv X pins σ H {s with heap:=s.heap.push {cls:=.type "range",data:=.fields #[.int lo t,.int hi u,.int c v]},toks:=tk}:=I.kept λb o e=>Heap.get?_push_of_some _ e
 have e1:lo+((0:Nat):Int) * c=lo:=by simp
 have e2:(((if lo<hi then (hi-lo-1) / c+1 else 0:Int).toNat:Nat):Int)-((0:Nat):Int)=Builtin.Range.rangeSize lo hi c:=by
  rw[UX h3]
  have:0<=(if lo<hi then (hi-lo-1) / c+1 else 0):=by
   split
   ·have h1:0<=(hi-lo-1) / c:=Int.ediv_nonneg (by omega) (by omega)
    omega
   ·omega
  omega
 have fr:∀b∈[(s.heap.push {cls:=.type "range",data:=.fields #[.int lo t,.int hi u,.int c v]}).objs.size],b=(s.heap.push {cls:=.type "range",data:=.fields #[.int lo t,.int hi u,.int c v]}).objs.size:=λb hb=>by simpa using hb
 cases hsm:Builtin.Range.small lo hi c with
 |true=>
  refine wpAny_pyIter_range (IsRange.new ..) hsm ?_
  refine⟨(s.heap.push {cls:=.type "range",data:=.fields #[.int lo t,.int hi u,.int c v]}).objs.size,[(s.heap.push {cls:=.type "range",data:=.fields #[.int lo t,.int hi u,.int c v]}).objs.size],_,_,H,rfl,
   I1.kept (t':=tk) λb o e=>Heap.get?_push_of_some _ e,Wf _ lo c (if lo<hi then (hi-lo-1) / c+1 else 0:Int).toNat,?_,λb hb=>?_,q⟩
  ·show IsRangeIter _ _ (lo+((0:Nat):Int) * c) ((((if lo<hi then (hi-lo-1) / c+1 else 0:Int).toNat:Nat):Int)-((0:Nat):Int)) c
   rw[e1,e2]
   exact Heap.get?_push_size _ rfl
  ·rw[fr b hb]
   exact I1.fpOk (Nat.le_refl _) (I1.hok.fresh (Nat.le_refl _))
 |false=>
  refine wpAny_pyIter_longrange (IsRange.new ..) hsm ?_
  refine⟨(s.heap.push {cls:=.type "range",data:=.fields #[.int lo t,.int hi u,.int c v]}).objs.size,[(s.heap.push {cls:=.type "range",data:=.fields #[.int lo t,.int hi u,.int c v]}).objs.size],_,_,H,rfl,
   I1.kept (t':=tk) λb o e=>Heap.get?_push_of_some _ e,Wb _ lo c (if lo<hi then (hi-lo-1) / c+1 else 0:Int).toNat,?_,λb hb=>?_,q⟩
  ·show IsLongIter _ _ (lo+((0:Nat):Int) * c) ((((if lo<hi then (hi-lo-1) / c+1 else 0:Int).toNat:Nat):Int)-((0:Nat):Int)) c
   rw[e1,e2]
   exact Heap.get?_push_size _ rfl
  ·rw[fr b hb]
   exact I1.fpOk (Nat.le_refl _) (I1.hok.fresh (Nat.le_refl _))
theorem jz{lo c:Int}{n:Nat}:ItV D (ItS lo c n) (λ_ _ _=>True) ((List.range n).map λ(i:Nat)=>T.int (lo+i * c)):=
 ⟨λi φ α H _ hi=>by (show i<n);simpa using hi,λi φ α H v H' t _ hi y=>by
  obtain⟨j,hj,rfl⟩:=J9 (D:=D) (φ:=φ) (α:=α) (H:=H) hi
  rw[K_ hj]
  obtain⟨rfl,rfl⟩:=y
  exact⟨λ_ _ z=>z,rfl⟩,λφ α H _=>by show n<=_;simp⟩
theorem K9 (C:Ck D W Γ X k) {p0:Pos} (hx:("range":Str)∈Γ.G) (hg:Γ.gl "range"=.none) (ha':noStar a=true) (hb':noStar b=true) (hc':noStar c=true) (ha:PE X a (rdE D W f)) (hb:PE X b (rdE D W g)) (hc:PE X c (rdE D W h)) :
  PI X tg (.Call (.Name "range" p0) [a,b,c] [] pos) (rdI D W (z1x f g h)):=by
 have hm:=C.glo _ hx
 rw[hg] at hm
 rintro pins s σ H R I ⟨φ,α,τ,μ,sr,mr,p⟩
 have s3:starEach [a,b,c] X.env=[(false,eval a X.env),(false,eval b X.env),(false,eval c X.env)]:=by
  rw[z4 ha',z4 hb',z4 hc'];rfl
 refine Call_ (w_ I (C.glb _ hx) hm boot_range (PyProof.Rows.callWith_type1 (thn (zr ha (zr hb (zr hc qi (z4 hc')) (z4 hb')) (z4 ha') pos pins s σ H (λvs H1=>∃i j l:Int,vs=[.int i,.int j,.int l]/\(0<l/\l<1073741824)/\R (ItS i l (if i<j then (j-i-1) / l+1 else 0:Int).toNat) H1) I ?_) ?_) (z4 ha') (zY (by simp[hb',hc']))))
 ·refine⟨φ,α,τ,μ,sr,mr,p.bind.mono λx μ1 α1 H1 st1 m1 q1 v1 d1=>⟨φ,α1,τ,μ1,sr.step st1,m1,q1.bind.mono λy μ2 α2 H2 st2 m2 q2 v2 d2=>⟨φ,α2,τ,μ2,(sr.step st1).step st2,m2,q2.bind.mono λz μ3 α3 H3 st3 m3 q3 v3 d3=>?_⟩⟩⟩
  cases x with
  |int a=>
   cases y with
   |int b=>
    cases z with
    |int c=>
     have q3:Post D W φ α3 H3 σ _ (RE.grd (inL a/\inL b/\0<c/\c<1073741824) (RE.ok (kM a b c,lvT) μ3)):=q3
     obtain⟨hh,q3⟩:=q3.grd
     have d1:v1=.int _:=d1
     have d2:v2=.int _:=d2
     have d3:v3=.int _:=d3
     subst d1 d2 d3
     exact⟨_,_,_,rfl,hh.2.2,q3.ok (Stp.refl _ _) m3 _ _ jz (λ_ _ _ _ _ _ _=>True.intro) trivial⟩
    |_=>exact Post.elim q3
   |_=>exact Post.elim q3
  |_=>exact Post.elim q3
 ·rintro us s1 ⟨vs,H1,I1,rv,i,j,l,rfl,h3,q⟩
  obtain⟨u1,u2,u3,rfl,r1,r2,r3⟩:=vals3 rv
  obtain⟨t1,rfl⟩:=r1
  obtain⟨t2,rfl⟩:=r2
  obtain⟨t3,rfl⟩:=r3
  exact call_range_3 (by omega) (xl I1 h3.1 q) (.inl (PyProof.noPylong_small (by omega)))
theorem KS (C:Ck D W Γ X k) {p0:Pos} (hx:("range":Str)∈Γ.G) (hg:Γ.gl "range"=.none) (ha':noStar a=true) (hb':noStar b=true) (ha:PE X a (rdE D W f)) (hb:PE X b (rdE D W g)) :
  PI X tg (.Call (.Name "range" p0) [a,b] [] pos) (rdI D W (V_ f g)):=by
 have hm:=C.glo _ hx
 rw[hg] at hm
 rintro pins s σ H R I ⟨φ,α,τ,μ,sr,mr,p⟩
 refine Call_ (w_ I (C.glb _ hx) hm boot_range (PyProof.Rows.callWith_type1 (thn (zr ha (zr hb qi (z4 hb')) (z4 ha') pos pins s σ H (λvs H1=>∃i j:Int,vs=[.int i,.int j]/\R (ItS i 1 (if i<j then (j-i-1) / 1+1 else 0:Int).toNat) H1) I ?_) ?_) (by rw[z4 ha',z4 hb']) (by rw[z4 hb'];rfl)))
 ·refine⟨φ,α,τ,μ,sr,mr,p.bind.mono λx μ1 α1 H1 st1 m1 q1 v1 d1=>⟨φ,α1,τ,μ1,sr.step st1,m1,q1.bind.mono λy μ2 α2 H2 st2 m2 q2 v2 d2=>?_⟩⟩
  cases x with
  |int i=>
   cases y with
   |int j=>
    have q2:Post D W φ α2 H2 σ _ (RE.grd (inL i/\inL j) (RE.ok (kM i j 1,lvT) μ2)):=q2
    obtain⟨hh,q2⟩:=q2.grd
    have d1:v1=.int _:=d1
    have d2:v2=.int _:=d2
    subst d1 d2
    exact⟨_,_,rfl,q2.ok (Stp.refl _ _) m2 _ _ jz (λ_ _ _ _ _ _ _=>True.intro) trivial⟩
   |_=>exact Post.elim q2
  |_=>exact Post.elim q2
 ·rintro us s1 ⟨vs,H1,I1,rv,i,j,rfl,q⟩
  cases rv with
  |cons r rr=>
   cases rr with
   |cons r' rr=>
    cases rr
    obtain⟨t,rfl⟩:=r
    obtain⟨t',rfl⟩:=r'
    exact call_range_2 (xl I1 (by omega) q)
theorem YY (C:Ck D W Γ X k) {p0:Pos} (hx:("range":Str)∈Γ.G) (hg:Γ.gl "range"=.none) (hs:noStar a=true) (ha:PE X a (rdE D W f)) :
  PI X tg (.Call (.Name "range" p0) [a] [] pos) (rdI D W (Kt f)):=by
 have hm:=C.glo _ hx
 rw[hg] at hm
 rintro pins s σ H R I ⟨φ,α,τ,μ,sr,mr,p⟩
 refine Call_ (w_ I (C.glb _ hx) hm boot_range (PyProof.Rows.callWith_type1 (thn (zr ha qi (z4 hs) pos pins s σ H (λvs H1=>∃j:Int,vs=[.int j]/\R (ItS 0 1 (if 0<j then (j-0-1) / 1+1 else 0:Int).toNat) H1) I ?_) ?_) (z4 hs) rfl))
 ·refine⟨φ,α,τ,μ,sr,mr,p.bind.mono λt μ' α' H' st m q v d=>?_⟩
  cases t with
  |int n=>
   have d:v=.int _:=d
   subst d
   have q:Post D W φ α' H' σ _ (RE.grd (inL n) (RE.ok (rangeT n,lvT) μ')):=q
   obtain⟨hn,q⟩:=q.grd
   have e2:(if 0<n then (n-0-1) / 1+1 else 0:Int).toNat=n.toNat:=by
    split
    ·rw[Int.ediv_one];congr 1;omega
    ·omega
   have e3:((List.range n.toNat).map λ(i:Nat)=>T.int (0+i * 1))=rangeT n:=by
    unfold rangeT
    refine List.map_congr_left λi _=>?_
    simp
   refine⟨n,rfl,?_⟩
   rw[e2]
   exact q.ok (Stp.refl _ _) m _ _ (e3▸jz) (λ_ _ _ _ _ _ _=>True.intro) trivial
  |_=>exact Post.elim q
 ·rintro us s1 ⟨vs,H1,I1,rv,j,rfl,q⟩
  cases rv with
  |cons r rr=>
   cases rr
   obtain⟨t,rfl⟩:=r
   exact call_range_1 (xl I1 (by omega) q)
noncomputable def idxs (N:List Str):List Expr->Option (List Nat)
 |[]=>some []
 |.Name x _::r=>match idx N x,idxs N r with
  |some i,some is=>some (i::is)
  |_,_=>none
 |_::_=>none
noncomputable def w5 (N:List Str):Expr->Option Tg
 |.Name x _=>(idx N x).map Tg.one
 |.Tuple es _ _=>(idxs N es).map Tg.tup
 |_=>none
noncomputable def z5:Expr->List Str
 |.Name x _=>[x]
 |.Tuple es _ _=>es.filterMap λe=>match e with|.Name x _=>some x|_=>none
 |_=>[]
noncomputable def Sto (X:Cx)(S:List Str):Prop:=∀x∈S,Loc X.env.scope x/\(X.fn x=true\/X.env.scope.names.lookup x=some .local)
theorem JO{S N:List Str}(hN:X.N=N)(nd:N.Nodup)(hS:Sto X S):∀{es:List Expr} {is:List Nat} {ts:List T} {τ τ':Sl},(∀e∈es,∀x p,e=.Name x p->x∈S)->idxs N es=some is->Wt is ts τ=some τ'->
  ∃t,PGs X es t/\(assignEach es X.env).length=ts.length/\(assignEach es X.env).findIdx? (·.1)=none/\∀{σ:St} {vs:List V} {φ α H} {Q:St->Hp->Prop},SRel D φ α H τ σ->DenL D φ α H ts vs->(∀σ',SRel D φ α H τ' σ'->Q σ' H)->t vs σ H Q
 |[],is,ts,τ,τ',_,h0,h=>by
  simp[idxs] at h0;subst h0
  cases ts with
  |nil=>
   simp[Wt] at h;subst h
   exact⟨z5P,UR,rfl,rfl,λsr l q=>⟨l,q _ sr⟩⟩
  |cons _ _=>simp[Wt] at h
 |e::es,is,ts,τ,τ',hn,h0,h=>by
  cases e with
  |Name x p0=>
   simp only[idxs] at h0
   split at h0
   ·rename_i i is' hi his
    cases h0
    cases ts with
    |nil=>simp[Wt] at h
    |cons t ts=>
     have h:Wt is' ts (xW τ i (some t))=some τ':=h
     have hx:=hn _ List.mem_cons_self x p0 rfl
     have pg:PG X (.Name x p0) (JA i):=JL (hN▸nd) (by rw[hN];exact vq hi) (hS x hx).1 (hS x hx).2
     obtain⟨u,pgs,hl,hf,hu⟩:=JO hN nd hS (λe he=>hn e (List.mem_cons_of_mem _ he)) his h
     refine⟨z1w (JA i) u,Xu pg pgs rfl,by simpa[assignEach] using hl,?_,λ{σ vs φ α H Q} sr l k=>?_⟩
     ·have e1:assignEach (.Name x p0::es) X.env=(false,assign (.Name x p0) X.env)::assignEach es X.env:=rfl
      rw[e1,List.findIdx?_cons]
      simp[hf]
     ·obtain⟨v,r,rfl,d,l⟩:=l
      exact⟨v,r,rfl,hu (sr.set d) l k⟩
   ·cases h0
  |_=>simp[idxs] at h0
theorem VB{S N:List Str}(hN:X.N=N)(nd:N.Nodup)(hS:Sto X S)(hc:X.calm=true){e:Expr}{tgt:Tg}{t:T}{τ τ':Sl}(hn:∀x∈z5 e,x∈S)(h0:w5 N e=some tgt)(h:asg tgt t τ=some τ'){v:V}{u:Value}(I:Inv X pins σ H s)(sr:SRel D φ α H τ σ)(d:Den D φ α H t v)(r:RelV v u) :
  wpAny (model X.prog X.w) X.A (assign e X.env u) (λ_ s'=>∃σ',Inv X pins σ' H s'/\SRel D φ α H τ' σ') X.xe s:=by
 cases e with
 |Name x p0=>
  simp only[w5] at h0
  cases q:idx N x with
  |none=>rw[q] at h0;cases h0
  |some i=>
   rw[q] at h0;cases h0
   cases (Option.some.inj h:xW τ i (some t)=τ')
   have hx:x∈S:=hn x (by simp[z5])
   refine thn (JL (i:=i) (hN▸nd) (by rw[hN];exact vq q) (hS x hx).1 (hS x hx).2 pins s σ H v u (λσ' H'=>H'=H/\σ'=σ.set i (some v)) I r ⟨rfl,rfl⟩) ?_
   rintro _ s1 ⟨σ',H',I1,rfl,rfl⟩
   exact⟨_,I1,sr.set d⟩
 |Tuple es kk p0=>
  simp only[w5] at h0
  cases q:idxs N es with
  |none=>rw[q] at h0;cases h0
  |some is=>
   rw[q] at h0;cases h0
   cases t with
   |tup ts=>
    obtain⟨g,pgs,hl,hf,hu⟩:=JO (D:=D) hN nd hS (λe he x p hx=>hn x (by subst hx;exact List.mem_filterMap.mpr ⟨_,he,rfl⟩)) q h
    obtain⟨ad,xs,rfl,_,_,q,l⟩:=d
    refine thn (z44 (k:=kk) (pos:=p0) hc pgs hl hf pins s σ H (.ref ad) u (λσ' H'=>H'=H/\SRel D φ α H τ' σ') I r ⟨ad,xs,rfl,.inl q,l.length.symm,hu sr l λσ' sr'=>⟨rfl,sr'⟩⟩) ?_
    rintro _ s1 ⟨σ',H',I1,rfl,sr'⟩
    exact⟨σ',I1,sr'⟩
   |_=>cases h
 |_=>simp[w5] at h0
end
end NH
end
section
namespace NH
open PySem PySem.Spec PyProof.Rows L2
theorem z01(env:Env):∀(names:List (Str×NameKind)) (cs:List (Str×Addr)),(∀p∈names,p.2=.free->∃c,env.cells.lookup p.1=some c)->
  ∃cl,(forIn names cs (λ(x:Str×NameKind) r=>if (x.2 == .free)=true then do let a ←cellOf env x.1;pure (ForInStep.yield ((x.1,a)::r)) else pure (ForInStep.yield r)):Sem (List (Str×Addr)))=pure cl/\
   (∀x c,cl.lookup x=some c->cs.lookup x=some c\/(env.cells.lookup x=some c/\∃p∈names,p.1=x/\p.2=.free))/\(∀x c,cs.lookup x=some c->∃c',cl.lookup x=some c')/\∀p∈names,p.2=.free->∃c,cl.lookup p.1=some c:=by
 intro names
 induction names with
 |nil=>intro cs _;exact⟨cs,rfl,λx c h=>.inl h,λx c h=>⟨c,h⟩,λp hp=>absurd hp (by simp)⟩
 |cons p names ih=>
  intro cs h
  rw[List.forIn_cons]
  by_cases hp:p.2=.free
  ·obtain⟨c,hc⟩:=h p List.mem_cons_self hp
   have e:cellOf env p.1=pure c:=by unfold cellOf;rw[hc]
   rw[if_pos (by simp[hp]),e]
   obtain⟨cl,e1,e2,e3,e4⟩:=ih ((p.1,c)::cs) λq hq=>h q (List.mem_cons_of_mem _ hq)
   refine⟨cl,e1,λx c' hx=>?_,λx c' hx=>?_,λq hq hf=>?_⟩
   ·rcases e2 x c' hx with z|⟨z,q,hq,z1,z2⟩
    ·rw[List.lookup_cons] at z
     cases hb:x == p.1 with
     |true=>
      simp[hb] at z
      subst z
      have hb':x=p.1:=by simpa using hb
      exact .inr ⟨by rw[hb'];exact hc,p,List.mem_cons_self,hb'.symm,hp⟩
     |false=>simp[hb] at z;exact .inl z
    ·exact .inr ⟨z,q,List.mem_cons_of_mem _ hq,z1,z2⟩
   ·cases hb:x == p.1 with
    |true=>exact e3 x c (by simp[List.lookup_cons,hb])
    |false=>exact e3 x c' (by simp[List.lookup_cons,hb,hx])
   ·rcases List.mem_cons.mp hq with rfl|hq
    ·exact e3 _ c (by simp[List.lookup_cons])
    ·exact e4 q hq hf
  ·rw[if_neg (by simp[hp])]
   obtain⟨cl,e1,e2,e3,e4⟩:=ih cs λq hq=>h q (List.mem_cons_of_mem _ hq)
   refine⟨cl,e1,λx c' hx=>?_,e3,λq hq hf=>?_⟩
   ·rcases e2 x c' hx with z|⟨z,q,hq,z1,z2⟩
    ·exact .inl z
    ·exact .inr ⟨z,q,List.mem_cons_of_mem _ hq,z1,z2⟩
   ·rcases List.mem_cons.mp hq with rfl|hq
    ·exact absurd hf hp
    ·exact e4 q hq hf
noncomputable def Zv(sc:Scope):List Str:=(sc.names.filter λp=>p.2 == .globalImplicit).map (·.1)
noncomputable def frees(sc:Scope):List Str:=(sc.names.filter λp=>p.2 == .free).map (·.1)
theorem vR{sc:Scope}{x:Str}:x∈frees sc↔∃p∈sc.names,p.1=x/\p.2=.free:=by
 unfold frees
 simp only[List.mem_map,List.mem_filter,beq_iff_eq]
 constructor
 ·rintro⟨p,⟨h1,h2⟩,h3⟩;exact⟨p,h1,h3,h2⟩
 ·rintro⟨p,h1,h3,h2⟩;exact⟨p,⟨h1,h2⟩,h3⟩
theorem V9{sc:Scope}{env:Env}(h:∀x∈frees sc,∃c,env.cells.lookup x=some c) :
  ∃cl,closureFor sc env=pure cl/\(∀x c,cl.lookup x=some c->env.cells.lookup x=some c/\x∈frees sc)/\∀x∈frees sc,∃c,cl.lookup x=some c:=by
 obtain⟨cl,e1,e2,e3,e4⟩:=z01 env sc.names [] λp hp hf=>h p.1 (vR.mpr ⟨p,hp,rfl,hf⟩)
 refine⟨cl,?_,λx c hx=>?_,λx hx=>?_⟩
 ·rw[←e1]
  unfold closureFor
  simp
 ·rcases e2 x c hx with z|⟨z,p,hp,z1,z2⟩
  ·simp at z
  ·exact⟨z,vR.mpr ⟨p,hp,z1,z2⟩⟩
 ·obtain⟨p,hp,rfl,hf⟩:=vR.mp hx
  exact e4 p hp hf
section
variable {M:Model}{A:Around}{E:Value->Shared->Prop}{s:Shared}{env:Env}
noncomputable def k9(M:Model)(A:Around)(E:Value->Shared->Prop)(use:Option (Value->Sem Unit))(Q:Value->Shared->Prop)(acc:Value)(ce:Env):Result->Shared->Prop
 |.ok _,t=>(match use with
  |none=>∃m,t.heap.Ns ce.locals m/\∀g,Heap.SameBut ce.locals t.heap g->Q acc {t with heap:=g}
  |some u=>wpAny M A (u acc) (λ_ t2=>∃m,t2.heap.Ns ce.locals m/\∀g,Heap.SameBut ce.locals t2.heap g->Q .none {t2 with heap:=g}) E t)
 |.error x,t=>∃m,t.heap.Ns ce.locals m/\∀g,Heap.SameBut ce.locals t.heap g->wpAny M A (passOn "comprehension.variables-let-go" x ce:Sem Value) (λ_ _=>False) E {t with heap:=g}
theorem z0R{e:Expr}{sc:Scope}{pos:Pos}{mk fst:Sem Value}{g:Comprehension}{gs:List Comprehension}{cl:List (Str×Addr)}{use:Option (Value->Sem Unit)}{Q:Value->Shared->Prop}
  (h1:clausesOf e=g::gs) (h2:∀x,foldedSetIterable g.iter env x=pure x) (h3:closureFor sc env=pure cl) (h4:sc.kind=.function) (h5:∀x∈sc.names,x.2=.local->sc.names.lookup x.1=some .local)
  (h:wpAny M A fst (λx t1=>wpAny M A (pyIter x) (λit t2=>wpAny M A mk (λacc t3=>wpAny M A (newFunctionEnv sc env.globals cl [] env.qual none .none (some env)) (λce t4=>
    codeAny M A (.compStart e 0 it acc {ce with scope:=relabel sc env}) (k9 M A E use Q acc {ce with scope:=relabel sc env}) t4) E t3) E t2) E t1) E s) :
  wpAny M A (comprehension e sc env pos mk false fst use) Q E s:=by
 unfold comprehension
 rw[h3,h1]
 have id2:∀(x:Value) (t:Shared),E x t->E x t:=λ_ _ z=>z
 refine wpAny_bind (wpAny_mono h (λx t1 q1=>?_) id2)
 refine wpAny_bind (wpAny_standAt (wpAny_bind (wpAny_of_eq (h2 x) (wpAny_bind (wpAny_holding (wpAny_mono q1 (λit t2 q2=>?_) id2))))))
 refine wpAny_standIf (wpAny_bind (wpAny_mono q2 (λacc t3 q3=>?_) id2))
 refine wpAny_bind (wpAny_pure (wpAny_bind (wpAny_mono q3 (λce t4 q4=>?_) id2)))
 dsimp only
 have lc:∀y∈(sc.names.filter λx=>(x.2 == .local || x.2 == .cell)&&x.1 != (".0":Str)),y.2=.local->Env.kindOf {ce with scope:=relabel sc env} y.1=some .local:=
  λy hy hl=>lookup_relabel_local (h5 y (List.mem_filter.mp hy).1 hl)
 have lr:∀y∈(sc.names.filter λx=>(x.2 == .local || x.2 == .cell)&&x.1 != (".0":Str)).reverse,y.2=.local->Env.kindOf {ce with scope:=relabel sc env} y.1=some .local:=
  λy hy=>lc y (List.mem_reverse.mp hy)
 refine wpAny_holding (wpAny_bind (wpAny_attempt (wpAny_holding (wpAny_run (codeAny_mono q4 λr t5 q5=>?_)))))
 cases r with
 |error x=>
  obtain⟨m,hn,q6⟩:=q5
  refine wpAny_bind (wpAny_holding (wpAny_comp_letGo (cenv:={ce with scope:=relabel sc env}) h4 _ t5 m lr hn λg m' _ sb=>?_))
  exact wpAny_mono (q6 g sb) (λ_ _ z=>z.elim) id2
 |ok f=>
  cases use with
  |none=>
   obtain⟨m,hn,q6⟩:=q5
   exact wpAny_bind (wpAny_holding (wpAny_comp_letGo (cenv:={ce with scope:=relabel sc env}) h4 _ t5 m lr hn λg m' _ sb=>wpAny_pure (q6 g sb)))
  |some u=>
   refine wpAny_bind (wpAny_rule (wpAny_bind (wpAny_holding (wpAny_mono q5 (λ_ t6 q6=>?_) id2))))
   obtain⟨m,hn,q6⟩:=q6
   refine wpAny_bind (wpAny_comp_letGo (cenv:={ce with scope:=relabel sc env}) h4 _ t6 m (λy hy=>?_) hn λg m' _ sb=>wpAny_pure (q6 g sb))
   rcases List.mem_append.mp hy with z|z
   ·exact lr y (List.mem_of_mem_drop z)
   ·exact lr y (List.mem_of_mem_take z)
end
section
variable {prog:Program}{w:World}{A:Around}{R:Result->Shared->Prop}{s:Shared}
theorem Y2(elt target iter:Expr)(ifs:List Expr)(scope:Scope)(pos:Pos)(it acc:Value)(env:Env) :
  compTurn (.ListComp elt [⟨target,iter,ifs,0⟩] scope pos) 0 it acc env=(standAt iter.pos >>= λ_=>pyNext it >>= λr=>match r with
   |none=>pure (.done .next)
   |some v=>letOwnedTupleGo target it v >>= λ_=>assign target env v >>= λ_=>
    (forIn ifs true λc s=>if s=true then isTrue c env (eval c env) >>= λok=>pure (ForInStep.yield ok) else pure (ForInStep.yield s)) >>= λok=>
     if ok=true then (eval elt env >>= λx=>call (.builtin "list.append") [acc,x] >>= λ_=>pure ()) >>= λ_=>
      again (.compLoop (.ListComp elt [⟨target,iter,ifs,0⟩] scope pos) 0 it acc env)
     else again (.compLoop (.ListComp elt [⟨target,iter,ifs,0⟩] scope pos) 0 it acc env)):=by rfl
noncomputable def kW(M:Model)(A:Around)(env:Env)(E:Value->Shared->Prop):List Expr->(Bool->Shared->Prop)->Shared->Prop
 |[],Q,s=>Q true s
 |c::cs,Q,s=>wpAny M A (isTrue c env (eval c env)) (λb s1=>if b=true then kW M A env E cs Q s1 else Q false s1) E s
theorem Zx{M:Model}{env:Env}{E:Value->Shared->Prop}{Q:Bool->Shared->Prop}:∀(cs:List Expr) {s:Shared},Q false s->
  wpAny M A (forIn cs false λc s=>if s=true then isTrue c env (eval c env) >>= λok=>pure (ForInStep.yield ok) else pure (ForInStep.yield s)) Q E s
 |[],s,h=>wpAny_pure h
 |c::cs,s,h=>by
  rw[List.forIn_cons]
  refine wpAny_bind ?_
  rw[if_neg (by decide)]
  exact wpAny_pure (Zx cs h)
theorem W4{M:Model}{env:Env}{E:Value->Shared->Prop}{Q:Bool->Shared->Prop}:∀(cs:List Expr) {s:Shared},kW M A env E cs Q s->
  wpAny M A (forIn cs true λc s=>if s=true then isTrue c env (eval c env) >>= λok=>pure (ForInStep.yield ok) else pure (ForInStep.yield s)) Q E s
 |[],s,h=>wpAny_pure h
 |c::cs,s,h=>by
  rw[List.forIn_cons]
  refine wpAny_bind ?_
  rw[if_pos rfl]
  refine wpAny_bind (thn h λb s1 h1=>wpAny_pure ?_)
  cases b with
  |true=>rw[if_pos rfl] at h1;exact W4 cs h1
  |false=>rw[if_neg (by decide)] at h1;exact Zx cs h1
theorem KW{elt target iter:Expr}{ifs:List Expr}{scope:Scope}{pos:Pos}{it acc:Value}{env:Env}(I:Nat->Shared->Prop)
  (turn:∀n s,I n s->wpAny (model prog w) A (pyNext it) (λr s₁=>match r with
   |none=>R (.ok .next) s₁
   |some v=>wpAny (model prog w) A (letOwnedTupleGo target it v) (λ_ s₂=>wpAny (model prog w) A (assign target env v) (λ_ s₃=>kW (model prog w) A env (notedBy (model prog w) A env λx s'=>R (.error x) s') ifs (λb s₄=>
     if b=true then wpAny (model prog w) A (eval elt env) (λx s₅=>wpAny (model prog w) A (call (.builtin "list.append") [acc,x]) (λ_ s₆=>∃m,m<n/\I m s₆) (λ_ _=>False) s₅) (notedBy (model prog w) A env λx s'=>R (.error x) s') s₄ else ∃m,m<n/\I m s₄) s₃) (λ_ _=>False) s₂) (λ_ _=>False) s₁) (λ_ _=>False) s)
  (n:Nat) (h:I n s):codeAny (model prog w) A (.compLoop (.ListComp elt [⟨target,iter,ifs,0⟩] scope pos) 0 it acc env) R s:=by
 refine codeAny_loop rfl I (λn s hI=>?_) n h
 show wpAny _ _ ((compTurn (.ListComp elt [⟨target,iter,ifs,0⟩] scope pos) 0 it acc env).onRaise (λx=>do noteFrame x env;theTreesLotGoes x)) _ _ s
 refine wpAny_noted ?_
 rw[Y2]
 have nx:∀{α:Type} {t:Sem α} {Q:α->Shared->Prop} {s:Shared} {N:Value->Shared->Prop},wpAny (model prog w) A t Q (λ_ _=>False) s->wpAny (model prog w) A t Q N s:=λh=>wpAny_mono h (λ_ _ q=>q) λ_ _ z=>z.elim
 refine wpAny_bind (wpAny_standAt (wpAny_bind (nx (thn (turn n s hI) λr s₁ h₁=>?_))))
 cases r with
 |none=>exact wpAny_pure h₁
 |some v=>
  refine wpAny_bind (nx (thn h₁ λ_ s₂ h₂=>?_))
  refine wpAny_bind (nx (thn h₂ λ_ s₃ h₃=>?_))
  refine wpAny_bind (thn (W4 ifs h₃) λb s₄ h₄=>?_)
  cases b with
  |true=>
   rw[if_pos rfl] at h₄ ⊢
   exact wpAny_bind (wpAny_bind (thn h₄ λx s₅ h₅=>wpAny_bind (nx (thn h₅ λ_ s₆ h₆=>wpAny_pure (wpAny_pure ⟨rfl,h₆⟩)))))
  |false=>
   rw[if_neg (by decide)] at h₄ ⊢
   exact wpAny_pure ⟨rfl,h₄⟩
end
noncomputable abbrev noW:XW:=λ_ _ _ _=>False
noncomputable def cxC (X:Cx)(N:List Str)(sc:Scope)(cl:List (Str×Addr))(C0:Addr)(s3:Shared)(H3:Hp)(fp:List Addr):Cx:=
 {X with N:=N,s₀:=s3,H₀:=H3,env:=compEnvC sc cl C0 X.env,outer:=X.stack,ex:=fp,fn:=λ_=>false,pn:=[],xe:=λ_ _=>False}
noncomputable def WR(N cel:List Str)(tg:Expr)(sc:Scope):Bool:=
 (sc.kind == .function)&&sc.names.all (λp=>p.2 != .cell)&&sc.names.all (λp=>p.2 != .local || sc.names.lookup p.1 == some .local)&&
 (z5 tg).all (λx=>sc.names.lookup x == some .local&&x != ("__debug__":Str)&&x != ("__classdict__":Str))&&(frees sc).all (λx=>(idx N x).isSome&&sc.names.lookup x == some .free&&cel.contains x&&x != ("__debug__":Str)&&x != ("__classdict__":Str))&&decide ((z5 tg++frees sc).Nodup)&&
 (Zv sc).all (λx=>sc.names.lookup x == some .globalImplicit)
structure CompOk(N cel:List Str)(tg:Expr)(sc:Scope):Prop where
 kind:sc.kind=.function
 noc:∀p∈sc.names,p.2≠.cell
 lcl:∀p∈sc.names,p.2=.local->sc.names.lookup p.1=some .local
 own:∀x∈z5 tg,sc.names.lookup x=some .local/\(x == ("__debug__":Str))=false/\(x == ("__classdict__":Str))=false
 fre:∀x∈frees sc,(∃i,idx N x=some i)/\sc.names.lookup x=some .free/\x∈cel/\(x == ("__debug__":Str))=false/\(x == ("__classdict__":Str))=false
 nd:(z5 tg++frees sc).Nodup
 glb:∀x∈Zv sc,sc.names.lookup x=some .globalImplicit
theorem KL{N cel:List Str}{tg:Expr}{sc:Scope}(h:WR N cel tg sc=true):CompOk N cel tg sc:=by
 unfold WR at h
 simp only[Bool.and_eq_true,List.all_eq_true,beq_iff_eq,bne_iff_ne,Bool.or_eq_true,decide_eq_true_eq,List.contains_iff_mem,Option.isSome_iff_exists,ne_eq] at h
 obtain⟨⟨⟨⟨⟨⟨h1,h2⟩,h3⟩,h4⟩,h5⟩,h6⟩,h7⟩:=h
 refine⟨h1,h2,λp hp hl=>?_,λx hx=>?_,λx hx=>?_,h6,h7⟩
 ·rcases h3 p hp with z|z
  ·exact absurd hl z
  ·exact z
 ·obtain⟨⟨a,b⟩,c⟩:=h4 x hx
  exact⟨a,by simpa using b,by simpa using c⟩
 ·obtain⟨⟨⟨⟨a,b⟩,c⟩,d⟩,e⟩:=h5 x hx
  exact⟨a,b,c,by simpa using d,by simpa using e⟩
theorem zG{env:Env}{x:Str}:∀{names:List (Str×NameKind)} {kd:NameKind},names.lookup x=some kd->
  (names.map λ(n,k)=>if (k == NameKind.free&&env.scope.kind == .function&&env.kindOf n == some .cell) then (n,NameKind.cell) else (n,k)).lookup x=some (if (kd == NameKind.free&&env.scope.kind == .function&&env.kindOf x == some .cell) then .cell else kd)
 |[],_,h=>by simp at h
 |(n,k)::r,kd,h=>by
  have ih:=@zG env x r kd
  rw[List.map_cons]
  rw[List.lookup_cons] at h
  cases hx:x == n with
  |true=>
   have hx':x=n:=by simpa using hx
   subst hx'
   simp at h
   subst h
   dsimp only
   split<;>simp_all[List.lookup_cons]
  |false=>
   simp only[hx] at h
   dsimp only
   split
   ·rw[List.lookup_cons];simp only[hx];exact ih h
   ·rw[List.lookup_cons];simp only[hx];exact ih h
end NH
end
section
namespace NH
open PySem PySem.Spec PyProof.Rows L2
section
variable {X:Cx}{D:DP}{W:XW}{Γ:Cn}{k:Nat}{pins:List (Addr×Obj)}{s2:Shared}{σ:St}{H2:Hp}{φ α:List Addr}{τ:Sl}{μ:Mem}{tg:Expr}{sc:Scope}{cl:List (Str×Addr)}{fp:List Addr}
noncomputable def QR (N:List Str)(σ:St)(fs:List Str):St:=fs.map λx=>(idx N x).bind λi=>(σ[i]?).join
noncomputable def xQ (N:List Str):List Str->Option (List Nat)
 |[]=>some []
 |x::r=>match idx N x,xQ N r with
  |some i,some is=>some (i::is)
  |_,_=>none
theorem Qm:∀(n:Nat) {fs:List Nat} {τ:Sl},blk n fs τ=List.replicate n none++VR fs τ
 |0,_,_=>rfl
 |n+1,fs,τ=>by
  show none::blk n fs τ=_
  rw[Qm n];rfl
theorem yb:∀{fs:List Nat} {τ:Sl},(VR fs τ).length=fs.length
 |[],_=>rfl
 |i::r,τ=>by show (VR r τ).length+1=_;rw[yb];rfl
theorem yE:∀{N xs:List Str} {fs:List Nat},xQ N xs=some fs->fs.length=xs.length
 |N,[],fs,h=>by cases h;rfl
 |N,x::r,fs,h=>by
  simp only[xQ] at h
  split at h
  ·rename_i i is h1 h2
   cases h
   simp[yE h2]
  ·cases h
theorem WK{N:List Str}{H:Hp}(sr:SRel D φ α H τ σ):∀{xs:List Str} {fs:List Nat},xQ N xs=some fs->∀(j:Nat) (t:T),(VR fs τ)[j]?=some (some t)->∃v,(QR N σ xs)[j]?=some (some v)/\Den D φ α H t v
 |[],fs,h,j,t,e=>by cases h;simp[VR] at e
 |x::r,fs,h,j,t,e=>by
  simp only[xQ] at h
  split at h
  ·rename_i i is h1 h2
   cases h
   cases j with
   |zero=>
    have e:some (KR τ i)=some (some t):=e
    obtain⟨v,hv,d⟩:=sr.get (Option.some.inj e)
    exact⟨v,by simp[QR,h1,hv],d⟩
   |succ j=>
    have e:(VR is τ)[j]?=some (some t):=e
    obtain⟨v,hv,d⟩:=WK sr h2 j t e
    exact⟨v,by simpa[QR] using hv,d⟩
  ·cases h
theorem z0n{N:List Str}{H:Hp}{ns xs:List Str}{fs:List Nat}(sr:SRel D φ α H τ σ)(h:xQ N xs=some fs):SRel D φ α H (blk ns.length fs τ) (ns.map (λ_=>none)++QR N σ xs):=by
 rw[Qm]
 refine⟨by simp[yb,yE h,QR],λj t e=>?_⟩
 rcases Nat.lt_or_ge j ns.length with hj|hj
 ·rw[List.getElem?_append_left (by simpa using hj),List.getElem?_replicate] at e
  split at e<;>cases e
 ·rw[List.getElem?_append_right (by simpa using hj)] at e
  rw[List.getElem?_append_right (by simpa using hj)]
  simp only[List.length_map,List.length_replicate] at e ⊢
  exact WK sr h _ t e
theorem WV(C:Ck D W Γ X k)(ok:CompOk Γ.N Γ.cel tg sc)(I2:Inv X pins σ H2 s2)(hf:∀b∈fp,QN X pins H2 b)(hfo:∀b∈fp,∃o,s2.heap.get? b=some o)(hcl:∀x c,cl.lookup x=some c->X.env.cells.lookup x=some c/\x∈frees sc)(hcl2:∀x∈frees sc,∃c,cl.lookup x=some c)
  {h1:Heap} (hns:h1.Ns (s2.heap.objs.size+1) (λ_=>none)) (hsb:Heap.SameBut (s2.heap.objs.size+1) ((s2.heap.push {cls:=.type "list",data:=.seq ([]:List Value).toArray}).push {cls:=.type "dict",data:=.dict #[]}) h1) {tk:Nat} :
  Inv X pins σ (upd H2 s2.heap.objs.size (.lst [])) {s2 with heap:=s2.heap.push {cls:=.type "list",data:=.seq ([]:List Value).toArray}}/\
  Inv (cxC X (z5 tg++frees sc) sc cl (s2.heap.objs.size+1) {s2 with heap:=s2.heap.push {cls:=.type "list",data:=.seq ([]:List Value).toArray}} (upd H2 s2.heap.objs.size (.lst [])) fp) []
   ((z5 tg).map (λ_=>none)++QR Γ.N σ (frees sc)) (upd H2 s2.heap.objs.size (.lst [])) {s2 with heap:=h1,toks:=tk}:=by
 have I3:Inv X pins σ (upd H2 s2.heap.objs.size (.lst [])) {s2 with heap:=s2.heap.push {cls:=.type "list",data:=.seq ([]:List Value).toArray}}:=I2.lnew (its:=[]) (t':=s2.toks) .nil (by simp)
 refine⟨I3,?_⟩
 generalize hA:s2.heap.push {cls:=.type "list",data:=.seq ([]:List Value).toArray}=HA at hsb I3 ⊢
 have szA:HA.objs.size=s2.heap.objs.size+1:=by rw[←hA,Heap.size_push]
 have old:∀b o,HA.get? b=some o->h1.get? b=some o:=λb o e=>hsb.extBut b o (by rw[←szA];exact Nat.ne_of_lt (Heap.lt_size e)) (Heap.get?_push_of_some _ e)
 have fresh:(upd H2 s2.heap.objs.size (.lst [])) (s2.heap.objs.size+1)=none:=by rw[←szA];exact I3.hok.fresh (Nat.le_refl _)
 have kindC:∀x∈frees sc,(cxC X (z5 tg++frees sc) sc cl (s2.heap.objs.size+1) {s2 with heap:=HA} (upd H2 s2.heap.objs.size (.lst [])) fp).env.kindOf x=some .cell\/(cxC X (z5 tg++frees sc) sc cl (s2.heap.objs.size+1) {s2 with heap:=HA} (upd H2 s2.heap.objs.size (.lst [])) fp).env.kindOf x=some .free:=λx hx=>by
  have:=zG (env:=X.env) (ok.fre x hx).2.1
  show (relabel sc X.env).names.lookup x=some .cell\/(relabel sc X.env).names.lookup x=some .free
  unfold relabel
  dsimp only
  rw[this]
  split
  ·exact .inl rfl
  ·exact .inr rfl
 refine⟨⟨I2.ok.mod,ok.kind,I2.ok.glob,I2.ok.blt,?_,?_,?_,λx c h=>absurd h (by simp[cxC]),I2.ok.hd,I2.ok.frames,.inl rfl,?_,?_,?_,?_,?_,?_,?_⟩,rfl,I2.bare,Un.kept old,⟨_,hns,?_⟩,?_,fresh,?_,λp hp=>absurd hp (by simp[cxC]),I3.hok.kept old,?_⟩
 ·show HA.objs.size<=s2.heap.objs.size+1
  omega
 ·intro x y c h1 h2
  exact I2.ok.inj x y c (hcl x c h1).1 (hcl y c h2).1
 ·intro x hx
  have hx':(relabel sc X.env).names.lookup x=some .cell\/(relabel sc X.env).names.lookup x=some .free:=hx
  by_cases hm:x∈frees sc
  ·exact hcl2 x hm
  ·exfalso
   cases q:sc.names.lookup x with
   |none=>
    have:(relabel sc X.env).names.lookup x=none:=by
     unfold relabel
     dsimp only
     rw[List.lookup_eq_none_iff] at q ⊢
     intro p hp
     obtain⟨p0,hp0,rfl⟩:=List.mem_map.mp hp
     have:=q p0 hp0
     try dsimp only
     split<;>exact this
    rw[this] at hx'
    rcases hx' with z|z<;>cases z
   |some kd=>
    have hr:=zG (env:=X.env) q
    have hx2:=hx'
    unfold relabel at hx2
    dsimp only at hx2
    rw[hr] at hx2
    have hmem:(x,kd)∈sc.names:=PySem.mem_of_lookup q
    by_cases hkf:kd=.free
    ·exact hm (vR.mpr ⟨_,hmem,rfl,hkf⟩)
    ·have e:(kd == NameKind.free)=false:=by simpa using hkf
     rw[e] at hx2
     simp only[Bool.false_and,Bool.false_eq_true,if_false,Option.some.injEq] at hx2
     rcases hx2 with z|z
     ·exact ok.noc _ hmem z
     ·exact hkf z
 ·intro b hb
  obtain⟨f0,f1,f2,f3,f4,f5⟩:=hf b hb
  obtain⟨o,ho⟩:=hfo b hb
  refine⟨?_,λx c h=>f4 x c (hcl x c h).1⟩
  show b≠s2.heap.objs.size+1
  exact Nat.ne_of_lt (Nat.lt_succ_of_lt (Heap.lt_size ho))
 ·intro b o e
  exact I3.bs b o e
 ·exact Nat.le_trans I3.ok.bsz I3.sz
 ·intro b o e hb
  obtain⟨f0,f1,f2,f3,f4,f5⟩:=hf b hb
  rcases f3 with z|z
  ·exact I2.ok.noex b o e z
  ·exact absurd (Nat.lt_of_lt_of_le (Heap.lt_size e) (Nat.le_trans I2.ok.bsz z)) (Nat.lt_irrefl _)
 ·intro b hb hfs
  obtain⟨f0,f1,f2,f3,f4,f5⟩:=hf b hb
  rcases List.mem_cons.mp (I2.stkSub b hfs) with z|z
  ·exact f1 z
  ·exact f2 z
 ·exact I3.stack
 ·intro b hb
  exact I3.stkFree b hb
 ·intro i x v hN hσ hv
  obtain⟨m,hn,hl⟩:=I2.loc
  by_cases hi:i<(z5 tg).length
  ·exfalso
   rw[List.getElem?_append_left (by simpa using hi),List.getElem?_map] at hσ
   cases q:(z5 tg)[i]? with
   |none=>rw[q] at hσ;cases hσ
   |some y=>rw[q] at hσ;cases hσ
  ·have hN':(frees sc)[i-(z5 tg).length]?=some x:=by
    have:(z5 tg++frees sc)[i]?=some x:=hN
    rwa[List.getElem?_append_right (by omega)] at this
   rw[List.getElem?_append_right (by simpa using hi)] at hσ
   simp only[List.length_map] at hσ
   unfold QR at hσ
   rw[List.getElem?_map,hN'] at hσ
   simp only[Option.map_some,Option.some.injEq] at hσ
   have hx:x∈frees sc:=List.mem_of_getElem? hN'
   obtain⟨⟨j,hj⟩,_,hcelm,_⟩:=ok.fre x hx
   rw[hj] at hσ
   simp only[Option.bind_some] at hσ
   cases u:σ[j]? with
   |none=>rw[u] at hσ;cases hσ
   |some o=>
    rw[u] at hσ
    simp only[Option.join_some] at hσ
    subst hσ
    obtain⟨w,rw',lk⟩:=hl j x v (by rw[C.hN];exact vq hj) u (C.vis x (wb hj))
    refine⟨w,rw',.inr ⟨kindC x hx,?_⟩⟩
    have kx:=C.cel x hcelm
    rcases lk with⟨z,_⟩|⟨_,c,hc,hcell⟩
    ·rw[z] at kx
     rcases kx with kx|kx<;>cases kx
    ·obtain⟨c',hc'⟩:=hcl2 x hx
     have:=(hcl x c' hc').1
     rw[hc] at this
     cases this
     refine⟨c,hc',?_⟩
     obtain⟨oc,ho,hd⟩:=hcell
     exact⟨oc,old c oc (by rw[←hA];exact Heap.get?_push_of_some _ ho),hd⟩
 ·intro x c h
  obtain⟨v,oc,ho,hd⟩:=I2.cell x c (hcl x c h).1
  exact⟨v,oc,old c oc (by rw[←hA];exact Heap.get?_push_of_some _ ho),hd⟩
 ·intro x c h
  exact I3.freeC x c (hcl x c h).1
 ·show _=(z5 tg++frees sc).length
  simp[QR]
end
end NH
end
section
namespace NH
open PySem PySem.Spec PyProof.Rows L2
section
variable {X:Cx}{D:DP}{W:XW}{Γ:Cn}{k:Nat}{pins:List (Addr×Obj)}{s:Shared}{σ:St}{H:Hp}{φ α:List Addr}{τ:Sl}{μ:Mem}{tg iter elt:Expr}{sc:Scope}{fp:List Addr}{pos pos':Pos}
noncomputable def inComp(Γ:Cn)(tg:Expr)(sc:Scope):Cn:={Γ with N:=z5 tg++frees sc,G:=(Zv sc).filter Γ.U.contains,cel:=frees sc,lam:=none}
theorem z0Q{W':XW}{pn:List (Addr×Obj)}{xe:Value->Shared->Prop}(C:Ck D W Γ X k)(ok:CompOk Γ.N Γ.cel tg sc){cl:List (Str×Addr)}{C0:Addr}{s3:Shared}{H3:Hp}
  (hxe:∀e s,XP {(cxC X (z5 tg++frees sc) sc cl C0 s3 H3 fp) with pn:=pn,xe:=xe} W' e s->xe e s):Ck D W' (inComp Γ tg sc) {(cxC X (z5 tg++frees sc) sc cl C0 s3 H3 fp) with pn:=pn,xe:=xe} k:=by
 have kindC:∀x∈frees sc,(relabel sc X.env).names.lookup x=some .cell\/(relabel sc X.env).names.lookup x=some .free:=λx hx=>by
  have:=zG (env:=X.env) (ok.fre x hx).2.1
  unfold relabel
  dsimp only
  rw[this]
  split
  ·exact .inl rfl
  ·exact .inr rfl
 have other:∀{x kd},sc.names.lookup x=some kd->kd≠.free->(relabel sc X.env).names.lookup x=some kd:=λ{x kd} h hk=>by
  have:=zG (env:=X.env) h
  unfold relabel
  dsimp only
  rw[this]
  have e:(kd == NameKind.free)=false:=by simpa using hk
  simp[e]
 refine⟨C.hK,rfl,ok.nd,λx hx=>?_,λx hx=>?_,λx hx=>?_,λx hx=>?_,λx hx=>?_,C.glU,kindC,C.isi,C.fld,C.xcx,C.ocx,C.clv,C.clm,C.rom,C.rmh,hxe,?_,LamOk.no rfl⟩
 ·rcases List.mem_append.mp hx with h|h
  ·exact .inl (other (ok.own x h).1 (by decide))
  ·rcases kindC x h with z|z
   ·exact .inr (.inl z)
   ·exact .inr (.inr z)
 ·rcases List.mem_append.mp hx with h|h
  ·exact (ok.own x h).2
  ·exact (ok.fre x h).2.2.2
 ·exact (C.glU x (by have:=(List.mem_filter.mp hx).2;simpa using this)).2
 ·exact other (ok.glb x (List.mem_filter.mp hx).1) (by decide)
 ·exact (C.glU x (by have:=(List.mem_filter.mp hx).2;simpa using this)).1
 ·obtain⟨e0,out,L,F⟩:=C.frm
  exact⟨e0,out,L,⟨F.stk,F.f0,F.fe⟩⟩
theorem Ur(ok:CompOk Γ.N Γ.cel tg sc){cl:List (Str×Addr)}{C0:Addr}{s3:Shared}{H3:Hp}:Sto (cxC X (z5 tg++frees sc) sc cl C0 s3 H3 fp) (z5 tg):=λx hx=>by
 have e:=zG (env:=X.env) (ok.own x hx).1
 have e':(relabel sc X.env).names.lookup x=some .local:=by
  unfold relabel
  dsimp only
  rw[e]
  rfl
 exact⟨.inl e',.inr e'⟩
theorem VT{M:List Str}{x:Str}:∀{L:List Str} {i:Nat},x∈L->idx (L++M) x=some i->i<L.length
 |[],_,h,_=>absurd h (by simp)
 |y::L,i,h,e=>by
  rw[List.cons_append] at e
  simp only[idx] at e
  split at e
  ·cases e;simp
  ·rename_i hn
   have hm:x∈L:=(List.mem_cons.mp h).resolve_left λz=>hn z.symm
   cases q:idx (L++M) x with
   |none=>rw[q] at e;cases e
   |some j=>rw[q] at e;cases e;simpa using VT hm q
theorem ZP{n i:Nat}{t:Option T}{τ:Sl}(h:i<n):∀j,n<=j->(xW τ i t)[j]?=τ[j]?:=λj hj=>by
 rw[Q0,List.getElem?_set_ne (by omega)]
theorem ZG{L M:List Str}:∀{es:List Expr} {is:List Nat} {ts:List T} {τ τ':Sl},(∀e∈es,∀x p,e=.Name x p->x∈L)->idxs (L++M) es=some is->Wt is ts τ=some τ'->∀j,L.length<=j->τ'[j]?=τ[j]?
 |[],is,ts,τ,τ',_,h0,h=>by
  cases h0
  cases ts with
  |nil=>cases h;exact λ_ _=>rfl
  |cons _ _=>cases h
 |e::es,is,ts,τ,τ',hn,h0,h=>by
  cases e with
  |Name x p0=>
   simp only[idxs] at h0
   split at h0
   ·rename_i i is' hi his
    cases h0
    cases ts with
    |nil=>cases h
    |cons t ts=>
     intro j hj
     rw[ZG (λe he=>hn e (List.mem_cons_of_mem _ he)) his (show Wt is' ts (xW τ i (some t))=some τ' from h) j hj]
     exact ZP (VT (hn _ List.mem_cons_self x p0 rfl) hi) j hj
   ·cases h0
  |_=>simp[idxs] at h0
theorem X_{M:List Str}{e:Expr}{tgt:Tg}{t:T}{τ τ':Sl}(h0:w5 (z5 e++M) e=some tgt)(h:asg tgt t τ=some τ'):∀j,(z5 e).length<=j->τ'[j]?=τ[j]?:=by
 cases e with
 |Name x p0=>
  simp only[w5] at h0
  cases q:idx (z5 (.Name x p0)++M) x with
  |none=>rw[q] at h0;cases h0
  |some i=>
   rw[q] at h0;cases h0
   cases (Option.some.inj h:xW τ i (some t)=τ')
   exact ZP (VT (by simp[z5]) q)
 |Tuple es kk p0=>
  simp only[w5] at h0
  cases q:idxs (z5 (.Tuple es kk p0)++M) es with
  |none=>rw[q] at h0;cases h0
  |some is=>
   rw[q] at h0;cases h0
   cases t with
   |tup ts=>exact ZG (λe he x p hx=>by subst hx;exact List.mem_filterMap.mpr ⟨_,he,rfl⟩) q h
   |_=>cases h
 |_=>simp[w5] at h0
noncomputable def VE (X:Cx)(D:DP)(W:XW):List Expr->List Dt->Prop
 |[],[]=>True
 |e::es,f::fs=>PT X e (rdT D W f)/\VE X D W es fs
 |_,_=>False
theorem XZ{M:Model}{A:Around}{β:Type}{R:β->Mem->List Addr->Hp->Prop}{fe:De}{kk:Option T->Mem->RE β}{Qf:Bool->Shared->Prop}:∀{cs:List Expr} {fs:List Dt} {s:Shared} {H:Hp} {α:List Addr} {μ:Mem},VE X D W cs fs->Inv X pins σ H s->SRel D φ α H τ σ->MRel D φ α H μ->Post D W φ α H σ R ((js fs fe τ μ).bind kk)->
  (∀s' H' α' μ',Inv X pins σ H' s'->Stp α H α' H'->SRel D φ α' H' τ σ->MRel D φ α' H' μ'->Post D W φ α' H' σ R ((fe τ μ').bind λy μ1=>kk (some y) μ1)->Qf true s')->
  (∀s' H' α' μ',Inv X pins σ H' s'->Stp α H α' H'->SRel D φ α' H' τ σ->MRel D φ α' H' μ'->Post D W φ α' H' σ R (kk none μ')->Qf false s')->
  kW (model X.prog X.w) X.A X.env X.xe cs Qf s
 |[],[],s,H,α,μ,_,I,sr,mr,p,h1,_=>h1 s H α μ I (Stp.refl _ _) sr mr p
 |[],_::_,_,_,_,_,h,_,_,_,_,_,_=>h.elim
 |_::_,[],_,_,_,_,h,_,_,_,_,_,_=>h.elim
 |c::cs,f::fs,s,H,α,μ,h,I,sr,mr,p,h1,h2=>by
  have p:Post D W φ α H σ R ((f τ μ).bind λb μ1=>(RE.br b (js fs fe τ μ1) (.ok none μ1)).bind kk):=p
  refine thn (z4F h.1 I sr mr p) ?_
  rintro b s1 ⟨H1,μ1,α1,I1,st1,sr1,mr1,p1⟩
  cases b with
  |true=>
   rw[if_pos rfl]
   exact XZ (M:=M) (A:=A) h.2 I1 sr1 mr1 p1 (λs' H' α' μ' a b=>h1 s' H' α' μ' a (st1.trans b)) (λs' H' α' μ' a b=>h2 s' H' α' μ' a (st1.trans b))
  |false=>
   rw[if_neg (by decide)]
   exact h2 s1 H1 α1 μ1 I1 st1 sr1 mr1 p1
end
end NH
end
section
namespace NH
open PySem PySem.Spec PyProof.Rows L2
section
variable {X:Cx}{D:DP}{W:XW}{Γ:Cn}{k:Nat}{pins:List (Addr×Obj)}{s:Shared}{σ:St}{H:Hp}{φ α:List Addr}{τ:Sl}{μ:Mem}{tg iter elt:Expr}{sc:Scope}{fp:List Addr}{pos pos':Pos}
theorem xP{M:Model}{A:Around}{env:Env}{E E':Value->Shared->Prop}{Q:Bool->Shared->Prop}(h:∀e s,E e s->E' e s):∀{cs:List Expr} {s:Shared},kW M A env E cs Q s->kW M A env E' cs Q s
 |[],_,q=>q
 |c::cs,s,q=>wpAny_mono q (λb s1 q1=>by
  cases b with
  |true=>rw[if_pos rfl] at q1 ⊢;exact xP h q1
  |false=>rw[if_neg (by decide)] at q1 ⊢;exact q1) h
theorem XTr.but{C0 x T:Addr}{cls fl:Value}{d:Option Addr}{h g:Heap}(t:XTr h x T cls d fl)(sb:Heap.SameBut C0 h g)(hx:x≠C0)(hT:T≠C0):XTr g x T cls d fl:=by
 obtain⟨oe,vs,a0,oT,ts,ho,hc,hd,hv0,hv1,hTx,hoT,hdT,h3⟩:=t
 exact⟨oe,vs,a0,oT,ts,sb.extBut x oe hx ho,hc,hd,hv0,hv1,hTx,sb.extBut T oT hT hoT,hdT,h3⟩
theorem xY{C0:Addr}{h':Heap}(I:Inv X pins σ H s)(xo:XOk X H C0)(hp:∀q∈pins,q.1≠C0)(sb:Heap.SameBut C0 s.heap h'):Inv X pins σ H {s with heap:=h'}:=
 W6 (ch:=[C0]) I (λb hb=>by rw[List.mem_singleton.mp hb];exact⟨xo,hp⟩) (λb o _ hc e=>sb.extBut b o (λz=>hc (by simp[z])) e) λb o _ hc e=>⟨o.slots,sb.extBut b o (λz=>hc (by simp[z])) e⟩
theorem xh{β:Type}{R:β->Mem->List Addr->Hp->Prop}{fi:Di}{fs:List Nat}{tgt:Tg}{ifs:List Expr}{cs:List Dt}{fe:De}{kk:List T->Mem->RE β}{use:Option (Value->Sem Unit)}{Qf:Value->Shared->Prop}
    (C:Ck D W Γ X k) (hc:Γ.calm=true) (ok:CompOk Γ.N Γ.cel tg sc) (hfs:xQ Γ.N (frees sc)=some fs) (htg:w5 (z5 tg++frees sc) tg=some tgt) (hi:PI X tg iter (rdI D W fi)) (hel:∀X' W',Ck D W' (inComp Γ tg sc) X' k->PE X' elt (rdE D W' fe)) (hts:∀X' W',Ck D W' (inComp Γ tg sc) X' k->VE X' D W' ifs cs) (hs:∀x,foldedSetIterable iter X.env x=pure x)
    (I:Inv X pins σ H s) (sr:SRel D φ α H τ σ) (mr:MRel D φ α H μ)
    (p:Post D W φ α H σ R ((fi τ μ).go λxs o μ1=>.grd (xs.length<=room) ((zA tgt (js cs fe) o (blk (z5 tg).length fs τ) xs μ1).bind kk)))
    (Kq : ∀ acc C0 s' α1 H1 H' α' ys vs μ',Inv X pins σ H' s' -> Stp α H α1 H1 -> Stp α1 H1 α' H' -> H1 acc = none -> acc ∉ φ -> acc ∉ α1 -> SRel D (φ ++ [acc]) α' H' τ σ -> MRel D (φ ++ [acc]) α' H' μ' -> H' acc = some (.lst vs) -> DenL D (φ ++ [acc]) α' H' ys vs -> Post D W φ α1 H1 σ R (kk ys μ') -> XOk X H' C0 -> (∀ q ∈ pins,q.1 ≠ C0) -> (∃ m,s'.heap.Ns C0 m) ->
      (match use with
        |none=>∃m,s'.heap.Ns C0 m/\∀g,Heap.SameBut C0 s'.heap g->Qf (.ref acc) {s' with heap:=g}
        |some u=>wpAny (model X.prog X.w) X.A (u (.ref acc)) (λ_ t2=>∃m,t2.heap.Ns C0 m/\∀g,Heap.SameBut C0 t2.heap g->Qf .none {t2 with heap:=g}) X.xe s')) :
    wpAny (model X.prog X.w) X.A (comprehension (.ListComp elt [⟨tg,iter,ifs,0⟩] sc pos) sc X.env pos' (newList []) false (eval iter X.env) use) Qf X.xe s:=by
  obtain⟨cl,hclos,hcl,hcl2⟩:=V9 (sc:=sc) (env:=X.env) λx hx=>I.ok.has x (C.cel x (ok.fre x hx).2.2.1)
  refine z0R (use := use) rfl hs hclos ok.kind ok.lcl (thn (hi pins s σ H (fun J H2 => ∃ xs o μ1 α1 Ok,ItV D J Ok xs /\ OkI D φ α1 H2 xs o Ok /\ o μ1 /\ Stp α H α1 H2 /\ MRel D φ α1 H2 μ1 /\
    Post D W φ α1 H2 σ R (.grd (xs.length<=room) ((zA tgt (js cs fe) o (blk (z5 tg).length fs τ) xs μ1).bind kk))) I
    ⟨φ,α,τ,μ,sr,mr,(show Post D W φ α H σ R ((fi τ μ).re.bind λpr μ1=>.grd (pr.1.length<=room) ((zA tgt (js cs fe) pr.2 (blk (z5 tg).length fs τ) pr.1 μ1).bind kk)) from p).bind.mono λpr μ' α' H' st m q J Ok iv okk lv=>⟨pr.1,pr.2,μ',α',Ok,iv,okk,lv,st,m,q⟩⟩) λv s1 h1=>thn h1 λitv s2 h2=>?_)
  obtain⟨it,fp,tn,J,H2,rfl,I2,Tn,tn0,f2,xs,Lv,μ1,α1,Ok,iv,okk,lv1,st1,mr1,p1⟩:=h2
  obtain⟨hroom,K0,Z0,q0,hk0,hz0⟩:=p1.grd
  have fo:∀b∈fp,∃o,s2.heap.get? b=some o:=λb hb=>let ⟨o,e,_⟩:=Tn.obj 0 _ tn0 b hb;⟨o,e⟩
  refine wpAny_newObj_type (wpAny_newFunctionEnv ok.noc (by intro y hy;simp at hy) (λh₁ hns₁ hsb₁=>?_) ok.kind)
  have sz:(s2.heap.push {cls:=.type "list",dict:=none,data:=.seq ([]:List Value).toArray}).objs.size=s2.heap.objs.size+1:=Heap.size_push ..
  dsimp only at hns₁ hsb₁ ⊢
  rw[sz] at hns₁ hsb₁ ⊢
  have hns:h₁.Ns (s2.heap.objs.size+1) (λ_=>none):=by simpa using hns₁
  obtain⟨I3,J0⟩:=WV (tk:=s2.toks+([]:List (Str×Value)).length) C ok I2 f2 fo hcl hcl2 hns hsb₁
  have hD:H2 s2.heap.objs.size=none:=I2.hok.fresh (Nat.le_refl _)
  have nph:s2.heap.objs.size∉φ:=zh mr1 hD
  have nal:s2.heap.objs.size∉α1:=zi mr1 hD
  have old:∀b o,s2.heap.get? b=some o->h₁.get? b=some o:=λb o e=>hsb₁.extBut b o (Nat.ne_of_lt (Nat.lt_succ_of_lt (Heap.lt_size e))) (Heap.get?_push_of_some _ (Heap.get?_push_of_some _ e))
  have n3:({s2 with heap:=s2.heap.push {cls:=.type "list",data:=.seq ([]:List Value).toArray}}:Shared).heap.get? (s2.heap.objs.size+1)=none:=Heap.get?_none_of_le (by show (s2.heap.push _).objs.size<=_;rw[Heap.size_push];exact Nat.le_refl _)
  have xo0:=v7 I3 n3
  have pn3:∀q∈pins,q.1≠s2.heap.objs.size+1:=λq hq z=>by
    have:=(I3.pin q (List.mem_append_right _ hq)).1
    rw[z,n3] at this;cases this
  generalize hS3:({s2 with heap:=s2.heap.push {cls:=.type "list",data:=.seq ([]:List Value).toArray}}:Shared)=S3 at I3 J0 n3
  generalize hH3:upd H2 s2.heap.objs.size (.lst [])=H3 at I3 J0 xo0
  generalize hXb:cxC X (z5 tg++frees sc) sc cl (s2.heap.objs.size+1) S3 H3 fp=Xb at J0
  have hXb':Xb.prog=X.prog/\Xb.w=X.w/\Xb.K=X.K/\Xb.A=X.A/\Xb.env=compEnvC sc cl (s2.heap.objs.size+1) X.env/\Xb.calm=X.calm/\Xb.pn=[]/\Xb.stack=X.stack/\Xb.N=z5 tg++frees sc/\Xb.fs=frs X.stack:=by subst hXb;exact⟨rfl,rfl,rfl,rfl,rfl,rfl,rfl,rfl,rfl,rfl⟩
  have sto:Sto Xb (z5 tg):=by subst hXb;exact Ur (Γ:=Γ) ok
  have cm:Xb.calm=true:=by rw[hXb'.2.2.2.2.2.1];exact C.clm hc
  have back:∀{s4:Shared} {σ4:St} {H4:Hp} {pp:List (Addr×Obj)},Inv Xb pp σ4 H4 s4->Inv X pins σ H4 s4:=λ{s4 σ4 H4 pp} I4=>by
    subst hXb
    exact I3.call' (ch:=fp) I4.os I4.base I4.hok I4.bare λb hb=>by
      obtain⟨f0,f1,f2',f3,f4,f5⟩:=f2 b hb
      exact⟨f3,f1,f4,f5⟩
  have fpk:∀{H':Hp},(∀b∈fp,H' b=none)->∀b∈fp,QN Xb [] H' b:=λhn b hb=>by
    obtain⟨f0,f1,f2',f3,f4,f5⟩:=f2 b hb
    obtain⟨o,ho⟩:=fo b hb
    subst hXb
    refine⟨hn b hb,Nat.ne_of_lt (Nat.lt_succ_of_lt (Heap.lt_size ho)),λz=>?_,.inl hb,λx c h=>f4 x c (hcl x c h).1,λq hq=>absurd hq (by simp[cxC])⟩
    rcases List.mem_cons.mp (I2.stkSub b z) with z|z
    · exact f1 z
    · exact f2' z
  have TnI:=Tn.item Xb hXb'.1 hXb'.2.1 hXb'.2.2.1 cm
  have TnD:=Tn.done Xb hXb'.1 hXb'.2.1 hXb'.2.2.1 cm
  obtain⟨e0,out,L,F⟩:=C.frm
  have ce:(compEnvC sc cl (s2.heap.objs.size+1) X.env).frame=some L:=F.fe
  have leave : ∀ {pp : List (Addr × Obj)} {e : Value} {t : Shared},(∀ b ∈ fp,∃ o,(b,o) ∈ pp) -> XP (Cx.pin' Xb pp) (fun cls d _ He => ∃ c fs' μ' α' Cc,Z0 c fs' μ' /\ Stp α1 H2 α' He /\ MRel D (φ ++ [s2.heap.objs.size]) α' He μ' /\ D.adr c = some Cc /\ cls = .ref Cc /\ XDict D (φ ++ [s2.heap.objs.size]) α' He fs' d) e t ->
      notedBy (model X.prog X.w) X.A (compEnvC sc cl (s2.heap.objs.size+1) X.env) (λx s'=>k9 (model X.prog X.w) X.A X.xe use Qf (.ref s2.heap.objs.size) (compEnvC sc cl (s2.heap.objs.size+1) X.env) (.error x) s') e t:=λ{pp e t} hpp xp=>by
    have Fb:Frm (Cx.pin' Xb pp) e0 out L:=⟨by show Xb.stack=_;rw[hXb'.2.2.2.2.2.2.2.1];exact F.stk,F.f0,by show Xb.env.frame=_;rw[hXb'.2.2.2.2.1];exact ce⟩
    have hfr:X.A.frames=some (Cx.pin' Xb pp).stack:=by show _=some Xb.stack;rw[hXb'.2.2.2.2.2.2.2.1];exact I.ok.frames
    unfold notedBy
    rw[show compEnvC sc cl (s2.heap.objs.size+1) X.env=(Cx.pin' Xb pp).env from hXb'.2.2.2.2.1.symm]
    refine Qj (X:=Cx.pin' Xb pp) Fb hfr xp λx cls d σe He T h' ee Ie ox oT tr w=>?_
    subst ee
    have en:(Cx.pin' Xb pp).env=compEnvC sc cl (s2.heap.objs.size+1) X.env:=hXb'.2.2.2.2.1
    rw[en]
    have Iu:Inv Xb pp σe He {t with heap:=h'}:=yX Ie
    have IX:=back Iu
    have nw:∀b,XOk (Cx.pin' Xb pp) He b->XOk X He b/\b≠s2.heap.objs.size+1:=λb o=>by
      have hb:b∉fp:=λz=>by
        obtain⟨ob,hm⟩:=hpp b z
        exact o.pin (b,ob) (List.mem_append_right _ hm) rfl
      have h3:S3.heap.get? b=none:=by
        have:=o.new
        subst hXb
        exact this.resolve_left hb
      have q:=v7 I3 h3
      refine⟨⟨o.free,q.loc,q.nfs,q.new,q.cel,q.pin⟩,?_⟩
      have:=o.loc
      have e2:(Cx.pin' Xb pp).env.locals=s2.heap.objs.size+1:=by rw[en];rfl
      rw[e2] at this;exact this
    have xoC:XOk X He (s2.heap.objs.size+1):=⟨by have:=Iu.free;rw[hXb'.2.2.2.2.1] at this;exact this,xo0.loc,xo0.nfs,xo0.new,xo0.cel,xo0.pin⟩
    obtain⟨m,hm,_⟩:=Iu.loc
    rw[hXb'.2.2.2.2.1] at hm
    refine⟨m,hm,λg sb=>?_⟩
    have sb':Heap.SameBut (s2.heap.objs.size+1) h' g:=sb
    have Ig:Inv X [] σ He {t with heap:=g}:=(xY IX xoC pn3 sb').pins_of λp hp=>absurd hp (by simp)
    have tg':=tr.but sb' (nw x ox).2 (nw T oT).2
    unfold PySem.passOn
    obtain⟨oe,vs',a0,oT',ts,ho,hcc,hd,hv0,hv1,hT,hoT,hdT,h3⟩:=id tg'
    refine wpAny_bind (wpAny_field ho hd hv1 ?_)
    rw[if_neg (show ¬((Value.ref T == Value.none)=true) from by simp)]
    have go:∀{t2:Shared},XP X W (.ref x) t2->wpAny (model X.prog X.w) X.A (throw (Value.ref x):Sem Value) (λ_ _=>False) X.xe t2:=λ{t2} xp=>wpAny_throw (C.xe _ _ xp)
    have fin:wpAny (model X.prog X.w) X.A (setFlight (.ref x) (compEnvC sc cl (s2.heap.objs.size+1) X.env).frame) (λ_ t2=>XP X W (.ref x) t2) X.xe {t with heap:=g}:=by
      refine xk (s:={t with heap:=g}) Ig (nw x ox).1 (nw T oT).1 tg' λh4 I4 tr4=>?_
      obtain⟨c,fs',μ',α',Cc,z,stp,m',ad,rfl,xd⟩:=w
      refine⟨x,.ref Cc,d,σ,He,some T,rawInt L,rfl,I4,(nw x ox).1,λt ht=>?_,?_,.inr ⟨L,F.fe,rfl⟩,?_⟩
      · have : t = T := by simpa using ht
        rw[this];exact (nw T oT).1
      · rw[ce] at tr4;exact tr4
      · refine hz0 c fs' μ' z α' He Cc d stp (m'.lk wJ (λa ha=>⟨rfl,λz=>m'.dis a ha (List.mem_append_left _ z)⟩) λb hb=>m'.phi b (List.mem_append_left _ hb)) ad (xd.lk wJ)
    first
      |exact wpAny_bind (thn fin λ_ t2 xp=>go xp)
      |exact wpAny_bind (wpAny_pure (wpAny_bind (thn fin λ_ t2 xp=>go xp)))
  have loop:codeAny (model X.prog X.w) X.A (.compLoop (.ListComp elt [⟨tg,iter,ifs,0⟩] sc pos) 0 (.ref it) (.ref s2.heap.objs.size) (compEnvC sc cl (s2.heap.objs.size+1) X.env)) (k9 (model X.prog X.w) X.A X.xe use Qf (.ref s2.heap.objs.size) (compEnvC sc cl (s2.heap.objs.size+1) X.env)) {s2 with heap:=h₁,toks:=s2.toks+([]:List (Str×Value)).length}:=by
    refine KW (fun n s' => ∃ i σ' H' α' μ' yT yV,n = xs.length - i /\ i <= xs.length /\ Inv Xb [] σ' H' s' /\ tn i s'.heap /\ (∀ b ∈ fp,H' b = none) /\
      Stp α1 H2 α' H'/\MRel D (φ++[s2.heap.objs.size]) α' H' μ'/\SRel D (φ++[s2.heap.objs.size]) α' H' (blk (z5 tg).length fs τ) σ'/\H' s2.heap.objs.size=some (.lst yV)/\DenL D (φ++[s2.heap.objs.size]) α' H' yT yV/\yT.length<=i/\
      Lv μ'/\zA tgt (js cs fe) Lv (blk (z5 tg).length fs τ) (xs.drop i) μ' (λrest μ2=>kk (yT++rest) μ2 K0 Z0) Z0) ?_ xs.length ?_
    · rintro n s' ⟨i,σ',H',α',μ',yT,yV,rfl,hi',Iv,tni,fr,stp,mr',sr',hacc,dly,hyl,lv',hcmi⟩
      have okH:Ok (φ++[s2.heap.objs.size]) α' H':=okk _ α' H' μ' ((kK hD).trans stp.lk) mr' lv'
      by_cases hlt:i<xs.length
      · have TI := TnI i [] s' σ' H' (fun _ _ => False) Iv (fpk fr) tni (iv.go i _ _ H' okH (by omega))
        rw[hXb'.2.2.2.1] at TI
        refine thn TI ?_
        rintro r s4 ⟨u,rfl,h4⟩
        refine thn h4 ?_
        rintro _ s5 ⟨x,H5,I5,r5,y5,tn5,fr5⟩
        obtain⟨sm5,dx'⟩:=iv.yld i _ _ H' x H5 xs[i] okH (by simp[hlt]) y5
        have stp:=stp.trans (Stp.new (α:=α') sm5)
        have sr':=sr'.step (Stp.new (α:=α') sm5)
        have mr':=mr'.new sm5
        have hacc:=sm5 _ _ hacc
        have dly:=dly.step (Stp.new (α:=α') sm5)
        have hdr:xs.drop i=xs[i]::xs.drop (i+1):=List.drop_eq_getElem_cons hlt
        rw[hdr] at hcmi
        obtain⟨τ',ha,hfe⟩:=hcmi
        have I5':=I5.pinned (fpk fr5) (Tn.obj _ _ tn5)
        have A6:=VB (S:=z5 tg) (X:=Xb) hXb'.2.2.2.2.2.2.2.2.1 ok.nd sto cm (λx h=>h) htg ha I5' sr' dx' r5
        rw[hXb'.1,hXb'.2.1,hXb'.2.2.2.1,hXb'.2.2.2.2.1,show Xb.xe=λ_ _=>False by subst hXb;rfl] at A6
        refine thn A6 ?_
        rintro _ s6 ⟨σ6,I6,sr6⟩
        generalize hpp:([]++yK fp s5.heap:List (Addr×Obj))=pp at I6
        have hppm:∀b∈fp,∃o,(b,o)∈pp:=λb hb=>by
          obtain⟨o,e,_⟩:=Tn.obj _ _ tn5 b hb
          exact⟨o,by rw[←hpp];exact List.mem_append_right _ (vo hb e)⟩
        generalize hW1:(λ(cls:Value) (d:Option Addr) (_:St) (He:Hp)=>∃c fs' μ' α' Cc,Z0 c fs' μ'/\Stp α1 H2 α' He/\MRel D (φ++[s2.heap.objs.size]) α' He μ'/\D.adr c=some Cc/\cls=.ref Cc/\XDict D (φ++[s2.heap.objs.size]) α' He fs' d:XW)=W1
        have lv:∀e t,XP (Cx.pin' Xb pp) W1 e t->notedBy (model X.prog X.w) X.A (compEnvC sc cl (s2.heap.objs.size+1) X.env) (λx s'=>k9 (model X.prog X.w) X.A X.xe use Qf (.ref s2.heap.objs.size) (compEnvC sc cl (s2.heap.objs.size+1) X.env) (.error x) s') e t:=λe t xp=>by
          rw[←hW1] at xp;exact leave hppm xp
        have ck:Ck D W1 (inComp Γ tg sc) ((Cx.pin' Xb pp).wish (XP (Cx.pin' Xb pp) W1)) k:=by
          subst hXb
          exact z0Q (W':=W1) (pn:=[]++pp) (xe:=XP (Cx.pin' (cxC X (z5 tg++frees sc) sc cl (s2.heap.objs.size+1) S3 H3 fp) pp) W1) C ok λe s p=>Zq (X:=Cx.pin' (cxC X (z5 tg++frees sc) sc cl (s2.heap.objs.size+1) S3 H3 fp) pp) p
        have I6':Inv ((Cx.pin' Xb pp).wish (XP (Cx.pin' Xb pp) W1)) [] σ6 H5 s6:=(Y3 I6).wish _
        have next : ∀ {s7 : Shared} {H7 : Hp} {α7 : List Addr} {μ7 : Mem} {yT' : List T} {yV' : List V},Inv ((Cx.pin' Xb pp).wish (XP (Cx.pin' Xb pp) W1)) [] σ6 H7 s7 -> Stp α1 H2 α7 H7 -> MRel D (φ ++ [s2.heap.objs.size]) α7 H7 μ7 -> SRel D (φ ++ [s2.heap.objs.size]) α7 H7 τ' σ6 -> H7 s2.heap.objs.size = some (.lst yV') -> DenL D (φ ++ [s2.heap.objs.size]) α7 H7 yT' yV' -> yT'.length <= i + 1 ->
            Lv μ7->zA tgt (js cs fe) Lv (blk (z5 tg).length fs τ) (xs.drop (i+1)) μ7 (λrest μ2=>kk (yT'++rest) μ2 K0 Z0) Z0->
            ∃ m,m < xs.length - i /\ ∃ i σ' H' α' μ' yT yV,m = xs.length - i /\ i <= xs.length /\ Inv Xb [] σ' H' s7 /\ tn i s7.heap /\ (∀ b ∈ fp,H' b = none) /\ Stp α1 H2 α' H' /\ MRel D (φ ++ [s2.heap.objs.size]) α' H' μ' /\ SRel D (φ ++ [s2.heap.objs.size]) α' H' (blk (z5 tg).length fs τ) σ' /\ H' s2.heap.objs.size = some (.lst yV) /\ DenL D (φ ++ [s2.heap.objs.size]) α' H' yT yV /\ yT.length <= i /\
              Lv μ'/\zA tgt (js cs fe) Lv (blk (z5 tg).length fs τ) (xs.drop i) μ' (λrest μ2=>kk (yT++rest) μ2 K0 Z0) Z0:=λ{s7 H7 α7 μ7 yT' yV'} I7 st7 m7 sr7 ac7 dy7 hy7 lv7 q7=>by
          have I7u:Inv Xb pp σ6 H7 s7:=yX I7.unwish
          have pinned:∀b∈fp,∃o,s5.heap.get? b=some o/\s7.heap.get? b=some o/\H7 b=none:=λb hb=>by
            obtain⟨o,e,_⟩:=Tn.obj _ _ tn5 b hb
            have:=I7u.pin (b,o) (List.mem_append_right _ (by rw[←hpp];exact List.mem_append_right _ (vo hb e)))
            exact⟨o,e,this.1,this.2.1⟩
          refine⟨xs.length-(i+1),by omega,i+1,σ6,H7,α7,μ7,yT',yV',rfl,hlt,I7u.pins_of (λp hp=>absurd hp (by simp)),Tn.keep _ _ _ tn5 (λb hb o e=>?_),λb hb=>(pinned b hb).choose_spec.2.2,st7,m7,⟨?_,λj t e=>?_⟩,ac7,dy7,hy7,lv7,q7⟩
          · obtain ⟨o',e1,e2,_⟩ := pinned b hb
            rw[e] at e1;cases e1;exact e2
          · have := I7u.len
            rw[hXb'.2.2.2.2.2.2.2.2.1] at this
            rw[Qm,this]
            simp[yb,yE hfs]
          · have hj:(z5 tg).length<=j:=by
              rcases Nat.lt_or_ge j (z5 tg).length with h|h
              · rw [Qm,List.getElem?_append_left (by simpa using h),List.getElem?_replicate] at e
                split at e<;>cases e
              · exact h
            exact sr7.val j t (by rw[X_ htg ha j hj];exact e)
        have P0:Post D W1 (φ++[s2.heap.objs.size]) α' H5 σ6 (λ(o:Option T) μ7 α7 H7=>match o with
            |some y=>∀v,Den D (φ++[s2.heap.objs.size]) α7 H7 y v->Lv μ7/\zA tgt (js cs fe) Lv (blk (z5 tg).length fs τ) (xs.drop (i+1)) μ7 (λys μ2=>kk (yT++y::ys) μ2 K0 Z0) Z0
            |none=>Lv μ7/\zA tgt (js cs fe) Lv (blk (z5 tg).length fs τ) (xs.drop (i+1)) μ7 (λys μ2=>kk (yT++ys) μ2 K0 Z0) Z0) ((js cs fe τ' μ').bind λo μ7=>RE.ok o μ7):=by
          refine⟨_,Z0,hfe,λo μ7 e α7 H7 st m=>?_,λc fs' μ7 z α7 H7 Cc d st m ad xd=>?_⟩
          · cases o with
            |some y=>exact λv _=>e
            |none=>exact e
          · rw[←hW1];exact⟨c,fs',μ7,α7,Cc,z,stp.trans st,m,ad,rfl,xd⟩
        have ep:((Cx.pin' Xb pp).wish (XP (Cx.pin' Xb pp) W1)).prog=X.prog:=hXb'.1
        have ew:((Cx.pin' Xb pp).wish (XP (Cx.pin' Xb pp) W1)).w=X.w:=hXb'.2.1
        have eA:((Cx.pin' Xb pp).wish (XP (Cx.pin' Xb pp) W1)).A=X.A:=hXb'.2.2.2.1
        have ee:((Cx.pin' Xb pp).wish (XP (Cx.pin' Xb pp) W1)).env=compEnvC sc cl (s2.heap.objs.size+1) X.env:=hXb'.2.2.2.2.1
        have nD:s2.heap.objs.size∉α':=λz=>mr'.dis _ z (by simp)
        have G := XZ (X := (Cx.pin' Xb pp).wish (XP (Cx.pin' Xb pp) W1)) (M := model X.prog X.w) (A := X.A) (Qf := fun b s₄ => if b = true then wpAny (model X.prog X.w) X.A (eval elt (compEnvC sc cl (s2.heap.objs.size + 1) X.env)) (fun x s₅ => wpAny (model X.prog X.w) X.A (call (.builtin "list.append") [.ref s2.heap.objs.size,x]) (fun _ s₆ => ∃ m,m < xs.length - i /\ ∃ i σ' H' α' μ' yT yV,m = xs.length - i /\ i <= xs.length /\ Inv Xb [] σ' H' s₆ /\ tn i s₆.heap /\ (∀ b ∈ fp,H' b = none) /\ Stp α1 H2 α' H' /\ MRel D (φ ++ [s2.heap.objs.size]) α' H' μ' /\ SRel D (φ ++ [s2.heap.objs.size]) α' H' (blk (z5 tg).length fs τ) σ' /\ H' s2.heap.objs.size = some (.lst yV) /\ DenL D (φ ++ [s2.heap.objs.size]) α' H' yT yV /\ yT.length <= i /\
              Lv μ'/\zA tgt (js cs fe) Lv (blk (z5 tg).length fs τ) (xs.drop i) μ' (λrest μ2=>kk (yT++rest) μ2 K0 Z0) Z0) (λ_ _=>False) s₅) (notedBy (model X.prog X.w) X.A (compEnvC sc cl (s2.heap.objs.size+1) X.env) λx s'=>k9 (model X.prog X.w) X.A X.xe use Qf (.ref s2.heap.objs.size) (compEnvC sc cl (s2.heap.objs.size+1) X.env) (.error x) s') s₄ else ∃m,m<xs.length-i/\∃i σ' H' α' μ' yT yV,m=xs.length-i/\i<=xs.length/\Inv Xb [] σ' H' s₄/\tn i s₄.heap/\(∀b∈fp,H' b=none)/\Stp α1 H2 α' H'/\MRel D (φ++[s2.heap.objs.size]) α' H' μ'/\SRel D (φ++[s2.heap.objs.size]) α' H' (blk (z5 tg).length fs τ) σ'/\H' s2.heap.objs.size=some (.lst yV)/\DenL D (φ++[s2.heap.objs.size]) α' H' yT yV/\yT.length<=i/\
              Lv μ'/\zA tgt (js cs fe) Lv (blk (z5 tg).length fs τ) (xs.drop i) μ' (λrest μ2=>kk (yT++rest) μ2 K0 Z0) Z0) (hts _ W1 ck) I6' sr6 mr' P0 (λs7 H7 α7 μ7 I7 st7 sr7 m7 p7=>?_) (λs7 H7 α7 μ7 I7 st7 sr7 m7 p7=>?_)
        · rw [ep,ew,eA,ee] at G
          exact xP (λe t h=>lv e t h) G
        · rw [if_pos rfl]
          have E7:=sub (hel _ W1 ck) I7 sr7 m7 p7
          rw[ep,ew,eA,ee] at E7
          refine wpAny_mono E7 (λx8 s8 h8=>?_) λe t h=>lv e t h
          obtain⟨v8,H8,y8,μ8,α8,I8,r8,st8,sr8,m8,d8,p8⟩:=h8
          have q8:=p8.ok (Stp.refl _ _) m8 v8 d8
          have acc8:H8 s2.heap.objs.size=some (.lst yV):=st8.keep _ _ (λz=>m7.dis _ z (by simp)) (st7.keep _ _ nD hacc)
          have hyv:yV.length<=i:=by rw[←dly.length];exact hyl
          have AP:=Zt (X:=Cx.pin' Xb pp) [] s8 σ6 H8 (.ref s2.heap.objs.size) [v8] (.ref s2.heap.objs.size) [x8] (λ_ H9=>H9=upd H8 s2.heap.objs.size (.lst (yV++[v8]))) I8.unwish rfl (.cons r8 .nil) ⟨_,yV,v8,rfl,rfl,acc8,Nat.lt_of_le_of_lt hyv (Nat.lt_of_lt_of_le hlt (zp hroom)),rfl⟩
          rw[show (Cx.pin' Xb pp).prog=X.prog from hXb'.1,show (Cx.pin' Xb pp).w=X.w from hXb'.2.1,show (Cx.pin' Xb pp).A=X.A from hXb'.2.2.2.1,show (Cx.pin' Xb pp).xe=λ_ _=>False by subst hXb;rfl] at AP
          refine thn AP ?_
          rintro x9 s9 ⟨v9,H9,I9,r9,rfl⟩
          have inphi:s2.heap.objs.size∈φ++[s2.heap.objs.size]:=by simp
          have t:=(stp.trans st7).trans st8
          have one:DenL D (φ++[s2.heap.objs.size]) α8 H8 [y8] [v8]:=⟨v8,[],rfl,d8,rfl⟩
          refine next (I9.wish _) ⟨t.ext,λb o n e=>?_,λb e=>t.live b ?_⟩ (m8.lk (yB inphi) (λa ha'=>⟨by rw[z7 (λz=>m8.dis a ha' (by rw[z];simp))],m8.dis a ha'⟩) (λb hb=>?_)) (sr8.lk (yB inphi)) z6 ((((dly.step st7).step st8).append one).lk (yB inphi)) (by simp;omega) q8.1 (by simpa using q8.2)
          · rw[z7 (zF e hD)];exact t.keep b o n e
          · by_cases hb : b = s2.heap.objs.size
            · rw[hb,z6] at e;cases e
            · rw[z7 hb] at e;exact e
          · by_cases hb' : b = s2.heap.objs.size
            · rw[hb',z6];exact⟨_,rfl⟩
            · rw[z7 hb'];exact m8.phi b hb
        · rw [if_neg (by decide)]
          exact next I7 (stp.trans st7) m7 sr7 (st7.keep _ _ nD hacc) (dly.step st7) (by omega) (p7.ok (Stp.refl _ _) m7).1 (p7.ok (Stp.refl _ _) m7).2
      · have hie : i = xs.length := by omega
        have TD:=TnD i [] s' σ' H' (λ_ _=>False) Iv (fpk fr) tni (by rw[hie];exact iv.stop _ _ H' okH)
        rw[hXb'.2.2.2.1] at TD
        refine thn TD ?_
        rintro r s4 ⟨rfl,I4⟩
        have hdr:xs.drop i=[]:=by rw[hie];simp
        rw[hdr] at hcmi
        have q4:kk yT μ' K0 Z0:=by
          have:kk (yT++[]) μ' K0 Z0:=hcmi
          simpa using this
        have I5:=back I4
        obtain⟨m,hm,_⟩:=I4.loc
        rw[hXb'.2.2.2.2.1] at hm
        exact Kq s2.heap.objs.size (s2.heap.objs.size+1) s4 α1 H2 H' α' yT yV μ' I5 st1 stp hD nph nal (((sr.step st1).lk (kK hD)).step stp) mr' hacc dly ⟨K0,Z0,q4,hk0,hz0⟩ ⟨by have:=I4.free;rw[hXb'.2.2.2.2.1] at this;exact this,xo0.loc,xo0.nfs,xo0.new,xo0.cel,xo0.pin⟩ pn3 ⟨m,hm⟩
    · have sm : xg H2 H3 := by rw [← hH3]; exact zb hD
      refine⟨0,_,_,α1,μ1,[],[],rfl,Nat.zero_le _,J0,Tn.keep _ _ _ tn0 λb hb o e=>old b o e,λb hb=>?_,Stp.new sm,?_,?_,by rw[←hH3];exact z6,rfl,Nat.le_refl _,lv1,by simpa using q0⟩
      · obtain ⟨o,ho⟩ := fo b hb
        rw[←hH3,z7 (Nat.ne_of_lt (Heap.lt_size ho))]
        exact (f2 b hb).1
      · refine mr1.lk (WJ hD sm) (fun a ha => ?_) fun b hb => ?_
        · have na : a ≠ s2.heap.objs.size := fun z => nal (z ▸ ha)
          exact⟨by rw[←hH3];exact z7 na,λz=>(List.mem_append.mp z).elim (mr1.dis a ha) λz=>na (List.mem_singleton.mp z)⟩
        · rcases List.mem_append.mp hb with z | z
          · obtain ⟨o,e⟩ := mr1.phi b z
            exact⟨o,sm b o e⟩
          · rw[List.mem_singleton.mp z,←hH3,z6];exact⟨_,rfl⟩
      · exact (z0n (sr.step st1) hfs).lk (WJ hD sm)
  exact codeAny_compStart_list loop (wpAny_mono (Tn.self _ 0 _ _ _ (Tn.keep _ _ _ tn0 λb hb o e=>old b o e) loop) (λ_ _ q=>q) λ_ _ q=>q)
end
end NH
end
section
namespace NH
open PySem PySem.Spec PyProof.Rows L2
section
variable {X:Cx}{D:DP}{W:XW}{Γ:Cn}{k:Nat}{pins:List (Addr×Obj)}{s:Shared}{σ:St}{H:Hp}{φ α:List Addr}{τ:Sl}{μ:Mem}{tg iter elt:Expr}{sc:Scope}{pos:Pos}{fi:Di}{fs:List Nat}{tgt:Tg}{ifs:List Expr}{cs:List Dt}{fe:De}
theorem WE{β:Type}{R:β->Mem->List Addr->Hp->Prop}{kk:T->Mem->RE β}{acc:Addr}{α1 α':List Addr}{H1 H':Hp}{ys:List T}{vs:List V}{μ':Mem}(st:Stp α1 H1 α' H')(hn:H1 acc=none)(nph:acc∉φ)(mr:MRel D (φ++[acc]) α' H' μ')(ha:H' acc=some (.lst vs))(dl:DenL D (φ++[acc]) α' H' ys vs)(p:Post D W φ α1 H1 σ R (kk (.lst ys) μ')) :
  MRel D φ α' H' μ'/\Den D φ α' H' (.lst ys) (.ref acc)/\Post D W φ α' H' σ R (kk (.lst ys) μ'):=
 ⟨mr.lk wJ (λa ha=>⟨rfl,λz=>mr.dis a ha (List.mem_append_left _ z)⟩) λb hb=>mr.phi b (List.mem_append_left _ hb),⟨acc,vs,rfl,nph,λz=>mr.dis _ z (by simp),.inl ha,dl.lk wJ⟩,p.step st⟩
theorem jr{acc:Addr}{α':List Addr}{H':Hp}:Lk (φ++[acc]) α' H' φ (α'++[acc]) H':=⟨λa o n1 n2 e=>⟨λz=>n1 (List.mem_append_left _ z),λz=>(List.mem_append.mp z).elim n2 λz=>n1 (by rw[List.mem_singleton.mp z];simp),e⟩,λi a e=>by
 rw[List.getElem?_append_left (List.getElem?_eq_some_iff.mp e).1];exact e⟩
theorem ZF{acc:Addr}{α1 α':List Addr}{H1 H':Hp}{ys:List T}{vs:List V}{μ':Mem}(st:Stp α1 H1 α' H')(hn:H1 acc=none)(nph:acc∉φ)(mr:MRel D (φ++[acc]) α' H' μ')(ha:H' acc=some (.lst vs))(dl:DenL D (φ++[acc]) α' H' ys vs) :
  Stp α1 H1 (α'++[acc]) H'/\MRel D φ (α'++[acc]) H' (μ'++[.lst ys])/\Den D φ (α'++[acc]) H' (.mut μ'.length) (.ref acc):=by
 have nal:acc∉α':=λz=>mr.dis _ z (by simp)
 refine⟨?_,⟨by simp[mr.len],?_,λb hb=>?_,λb hb=>mr.phi b (List.mem_append_left _ hb),λi a o e1 e2=>?_⟩,acc,by rw[←mr.len,List.getElem?_append_right (Nat.le_refl _)];simp,rfl⟩
 ·obtain⟨β,e,hβ⟩:=st.ext
  exact⟨⟨β++[acc],by rw[e];simp,λb hb=>(List.mem_append.mp hb).elim (hβ b) λz=>by rw[List.mem_singleton.mp z];exact hn⟩,st.keep,st.live⟩
 ·rw[List.nodup_append]
  exact⟨mr.nd,by simp,λa ha b hb z=>nal (by rw[List.mem_singleton.mp hb] at z;exact z▸ha)⟩
 ·rcases List.mem_append.mp hb with h|h
  ·exact λz=>mr.dis b h (List.mem_append_left _ z)
  ·rw[List.mem_singleton.mp h];exact nph
 ·by_cases hi:i<α'.length
  ·rw[List.getElem?_append_left hi] at e1
   rw[List.getElem?_append_left (by rw[←mr.len];exact hi)] at e2
   exact (mr.ob i a o e1 e2).lk jr rfl
  ·have hl:=mr.len
   rw[List.getElem?_append_right (by omega)] at e1 e2
   have hi':i-α'.length=0:=by
    by_cases z:i-α'.length=0
    ·exact z
    ·rw[List.getElem?_eq_none (by simp;omega)] at e1;cases e1
   have hi2:i-μ'.length=0:=by omega
   rw[hi'] at e1
   rw[hi2] at e2
   have e1:some acc=some a:=e1
   have e2:some (MO.lst ys)=some o:=e2
   cases e1;cases e2
   exact⟨vs,ha,dl.lk jr⟩
theorem JG(C:Ck D W Γ X k)(hc:Γ.calm=true)(ok:CompOk Γ.N Γ.cel tg sc)(hfs:xQ Γ.N (frees sc)=some fs)(htg:w5 (z5 tg++frees sc) tg=some tgt)(hi:PI X tg iter (rdI D W fi))(hel:∀X' W',Ck D W' (inComp Γ tg sc) X' k->PE X' elt (rdE D W' fe))(hts:∀X' W',Ck D W' (inComp Γ tg sc) X' k->VE X' D W' ifs cs)(hs:∀x,foldedSetIterable iter X.env x=pure x) :
  PE X (.ListComp elt [⟨tg,iter,ifs,0⟩] sc pos) (rdE D W (qL (z5 tg).length fs tgt fi cs fe)):=by
 rintro pins s σ H Q I ⟨φ,α,τ,μ,sr,mr,p⟩
 rw[eval_ListComp]
 refine xh (kk:=λys μ=>RE.ok (T.lst ys) μ) (use:=none) (Qf:=EP X pins σ Q) C hc ok hfs htg hi hel hts hs I sr mr p ?_
 rintro acc C0 s' α1 H1 H' α' ys vs μ' I' st1 st hn nph nal sr' m ha dl post xo hp ⟨mm,hm⟩
 obtain⟨m2,d,post⟩:=WE (kk:=λt μ=>RE.ok t μ) st hn nph m ha dl post
 exact⟨mm,hm,λg sb=>⟨.ref acc,H',xY I' xo hp sb,rfl,post.here m2 d⟩⟩
theorem YA(C:Ck D W Γ X k)(hc:Γ.calm=true)(ok:CompOk Γ.N Γ.cel tg sc)(hfs:xQ Γ.N (frees sc)=some fs)(htg:w5 (z5 tg++frees sc) tg=some tgt)(hi:PI X tg iter (rdI D W fi))(hel:∀X' W',Ck D W' (inComp Γ tg sc) X' k->PE X' elt (rdE D W' fe))(hts:∀X' W',Ck D W' (inComp Γ tg sc) X' k->VE X' D W' ifs cs)(hs:∀x,foldedSetIterable iter X.env x=pure x) :
  PE X (.ListComp elt [⟨tg,iter,ifs,0⟩] sc pos) (rdE D W (kO (z5 tg).length fs tgt fi cs fe)):=by
 rintro pins s σ H Q I ⟨φ,α,τ,μ,sr,mr,p⟩
 rw[eval_ListComp]
 refine xh (kk:=λys μ=>RE.ok (T.mut μ.length) (μ++[MO.lst ys])) (use:=none) (Qf:=EP X pins σ Q) C hc ok hfs htg hi hel hts hs I sr mr p ?_
 rintro acc C0 s' α1 H1 H' α' ys vs μ' I' st1 st hn nph nal sr' m ha dl post xo hp ⟨mm,hm⟩
 obtain⟨st2,m2,d⟩:=ZF st hn nph m ha dl
 exact⟨mm,hm,λg sb=>⟨.ref acc,H',xY I' xo hp sb,rfl,post.ok st2 m2 _ d⟩⟩
theorem qC{x:Str}{g:GM}(h:Γ.look x=g)(hg:g≠.bad):x∈Γ.G/\Γ.gl x=g:=by
 unfold Cn.look at h
 split at h
 ·rename_i hm
  exact⟨by simpa using hm,h⟩
 ·exact absurd h.symm hg
theorem QY{iter:Expr}(h:w9 iter=true):∀x,foldedSetIterable iter X.env x=pure x:=by
 intro x
 cases iter<;>first|rfl|(simp[w9] at h)
end
end NH
end
section
namespace NH
open PySem PySem.Spec PyProof.Rows L2
noncomputable def PostS(D:DP)(W:XW)(φ α:List Addr)(H:Hp)(E:Ends)(o:Out):Prop:=
 ∃Q:En,o Q/\(∀τ μ,Q.nx τ μ->∀α' H' σ',Stp α H α' H'->MRel D φ α' H' μ->SRel D φ α' H' τ σ'->E.nx σ' H')/\
  (∀τ μ,Q.bk τ μ->∀α' H' σ',Stp α H α' H'->MRel D φ α' H' μ->SRel D φ α' H' τ σ'->E.bk σ' H')/\
  (∀τ μ,Q.ct τ μ->∀α' H' σ',Stp α H α' H'->MRel D φ α' H' μ->SRel D φ α' H' τ σ'->E.ct σ' H')/\
  (∀t μ,Q.rt t μ->∀α' H' v,Stp α H α' H'->MRel D φ α' H' μ->Den D φ α' H' t v->E.rt v H')/\
  (∀c fs τ μ,Q.ex c fs τ μ->∀α' H' σ' C d,Stp α H α' H'->MRel D φ α' H' μ->SRel D φ α' H' τ σ'->D.adr c=some C->XDict D φ α' H' fs d->W (.ref C) d σ' H')
noncomputable def rdS (D:DP)(W:XW)(f:Ds):TS:=λE σ H=>∃φ α τ μ,SRel D φ α H τ σ/\MRel D φ α H μ/\PostS D W φ α H E (f τ μ)
structure Sk(D:DP)(W:XW)(Γ:Cn)(X:Cx)(k:Nat):Prop extends Ck D W Γ X k where
 sto:Sto X Γ.N
 lcl:∀x∈Γ.N,Γ.cel.contains x=false->X.env.scope.names.lookup x=some .local
 pso:PassesOwn (model X.prog X.w) X.A X.env X.xe
 xmt:∀t x c,(x,c)∈Γ.cls->c<40->∀Ct Cc,D.adr t=some Ct->X.mg x=some (.ref Cc)->PySem.W.exmOne X.K (.ref Ct) (.ref Cc)=some (jT t c)
section
variable {X:Cx}{D:DP}{W:XW}{Γ:Cn}{k:Nat}{pins:List (Addr×Obj)}{s:Shared}{σ:St}{H:Hp}{φ α:List Addr}{τ:Sl}{μ:Mem}{f g:De}{a b c e:Expr}{pos:Pos}{E:Ends}{u v:Ds}
theorem PostS.step{α':List Addr}{H':Hp}{o:Out}(p:PostS D W φ α H E o)(st:Stp α H α' H'):PostS D W φ α' H' E o:=by
 obtain⟨Q,q,h1,h2,h3,h4,h5⟩:=p
 exact⟨Q,q,λτ μ z α2 H2 σ2 s2=>h1 τ μ z α2 H2 σ2 (st.trans s2),λτ μ z α2 H2 σ2 s2=>h2 τ μ z α2 H2 σ2 (st.trans s2),λτ μ z α2 H2 σ2 s2=>h3 τ μ z α2 H2 σ2 (st.trans s2),λτ μ z α2 H2 σ2 s2=>h4 τ μ z α2 H2 σ2 (st.trans s2),λc fs τ μ z α2 H2 σ2 C d s2=>h5 c fs τ μ z α2 H2 σ2 C d (st.trans s2)⟩
theorem PostS.elim{C:Prop}(p:PostS D W φ α H E Out.st):C:=by obtain⟨_,q,_⟩:=p;exact q.elim
theorem PostS.nx{τ:Sl}{μ:Mem}(p:PostS D W φ α H E (.nx τ μ)){α':List Addr}{H':Hp}{σ':St}(s:Stp α H α' H')(m:MRel D φ α' H' μ)(r:SRel D φ α' H' τ σ'):E.nx σ' H':=by
 obtain⟨Q,q,h1,_⟩:=p
 exact h1 τ μ q α' H' σ' s m r
theorem PostS.rt{t:T}{μ:Mem}(p:PostS D W φ α H E (.rt t μ)){α':List Addr}{H':Hp}{v:V}(s:Stp α H α' H')(m:MRel D φ α' H' μ)(r:Den D φ α' H' t v):E.rt v H':=by
 obtain⟨Q,q,_,_,_,h,_⟩:=p
 exact h t μ q α' H' v s m r
theorem PostS.ex{c:Nat}{fs:List (Nat×T)}{τ:Sl}{μ:Mem}(p:PostS D W φ α H E (.ex c fs τ μ)){α':List Addr}{H':Hp}{σ':St}{C:Addr}{d:Option Addr}(s:Stp α H α' H')(m:MRel D φ α' H' μ)(r:SRel D φ α' H' τ σ')(ad:D.adr c=some C)(x:XDict D φ α' H' fs d):W (.ref C) d σ' H':=by
 obtain⟨Q,q,_,_,_,_,h⟩:=p
 exact h c fs τ μ q α' H' σ' C d s m r ad x
theorem PostS.grd{c:Prop}{o:Out}(p:PostS D W φ α H E (Out.grd c o)):c/\PostS D W φ α H E o:=by
 obtain⟨Q,q,h⟩:=p
 exact⟨q.1,Q,q.2,h⟩
theorem PostS.som{γ:Type}{o:Option γ}{k:γ->Out}(p:PostS D W φ α H E (Out.som o k)):∃a,o=some a/\PostS D W φ α H E (k a):=by
 obtain⟨Q,⟨a,e,q⟩,h⟩:=p
 exact⟨a,e,Q,q,h⟩
theorem PostS.br{b:Bool}{r s:Out}(p:PostS D W φ α H E (Out.br b r s)):(b=true/\PostS D W φ α H E r)\/(b=false/\PostS D W φ α H E s):=by
 obtain⟨Q,q,h⟩:=p
 cases b with
 |true=>exact .inl ⟨rfl,Q,q,h⟩
 |false=>exact .inr ⟨rfl,Q,q,h⟩
theorem PostS.ex2{δ1 δ2:Type}{P P2:δ1->δ2->Prop}{r:δ1->δ2->Out}(p:PostS D W φ α H E (λQ=>∃x y,P x y/\P2 x y/\r x y Q)):∃x y,P x y/\P2 x y/\PostS D W φ α H E (r x y):=by
 obtain⟨Q,⟨x,y,h1,h2,q⟩,h⟩:=p
 exact⟨x,y,h1,h2,Q,q,h⟩
theorem PostS.ex1{δ1:Type}{P P2:δ1->Prop}{r:δ1->Out}(p:PostS D W φ α H E (λQ=>∃x,P x/\P2 x/\r x Q)):∃x,P x/\P2 x/\PostS D W φ α H E (r x):=by
 obtain⟨Q,⟨x,h1,h2,q⟩,h⟩:=p
 exact⟨x,h1,h2,Q,q,h⟩
theorem PostS.out{β:Type}{r:RE β}{kk:β->Mem->Out}(sr:SRel D φ α H τ σ)(p:PostS D W φ α H E (r.out τ kk)):Post D W φ α H σ (λt μ' α' H'=>PostS D W φ α' H' E (kk t μ')) r:=by
 obtain⟨Q,q,h⟩:=p
 refine⟨_,_,q,λa μ' e α' H' st m=>PostS.step ⟨Q,e,h⟩ st,λc fs μ' e α' H' C d st m ad xd=>?_⟩
 exact h.2.2.2.2 c fs τ μ' e α' H' σ C d st m (sr.step st) ad xd
theorem z2E(ha:PE X a (rdE D W f)):PS X (.Return (some a) pos) (rdS D W (zj f)):=by
 rintro pins s σ H E I ⟨φ,α,τ,μ,sr,mr,p⟩
 refine z1Q ha pins s σ H E I ⟨φ,α,τ,μ,sr,mr,(PostS.out sr p).mono λt μ' α' H' st m q v d=>PostS.rt q (Stp.refl _ _) m d⟩
theorem z0L:PS X (.Return none pos) (rdS D W YK):=by
 rintro pins s σ H E I ⟨φ,α,τ,μ,sr,mr,p⟩
 exact z0H pins s σ H E I (PostS.rt p (Stp.refl _ _) mr rfl)
theorem z0N(hs:swapsWith a none pos.line X.env=pure false)(ha:PE X a (rdE D W f)):PS X (.Expr a pos) (rdS D W (zI f)):=by
 rintro pins s σ H E I ⟨φ,α,τ,μ,sr,mr,p⟩
 refine Ju ha hs pins s σ H E I ⟨φ,α,τ,μ,sr,mr,(PostS.out sr p).mono λt μ' α' H' st m q v d=>PostS.nx q (Stp.refl _ _) m (sr.step st)⟩
theorem UA:PSs X [] (rdS D W (w4 [])):=by
 rintro pins s σ H E I ⟨φ,α,τ,μ,sr,mr,p⟩
 exact z0r pins s σ H E I (PostS.nx p (Stp.refl _ _) mr sr)
theorem Yf{st:Stmt}{r:List Stmt}{fs:List Ds}(h1:PS X st (rdS D W u))(h2:PSs X r (rdS D W (w4 fs))):PSs X (st::r) (rdS D W (w4 (u::fs))):=by
 rintro pins s σ H E I ⟨φ,α,τ,μ,sr,mr,Q,q,h3,h4,h5,h6,h7⟩
 refine Wy h1 h2 pins s σ H E I ⟨φ,α,τ,μ,sr,mr,_,q,λτ1 μ1 e α' H' σ' st m sr'=>?_,h4,h5,h6,h7⟩
 exact⟨φ,α',τ1,μ1,sr',m,PostS.step ⟨Q,e,h3,h4,h5,h6,h7⟩ st⟩
noncomputable def WX (X:Cx)(D:DP)(W:XW):List Stmt->List Ds->Prop
 |[],[]=>True
 |e::es,f::fs=>PS X e (rdS D W f)/\WX X D W es fs
 |_,_=>False
theorem vS:∀{sts:List Stmt} {fs:List Ds},WX X D W sts fs->PSs X sts (rdS D W (w4 fs))
 |[],[],_=>UA
 |st::r,f::fs,h=>Yf h.1 (vS h.2)
 |[],_::_,h=>h.elim
 |_::_,[],h=>h.elim
theorem z5O{ft:Dt}{as bs:List Stmt}{us vs:List Ds}(hc:PT X c (rdT D W ft))(ha:WX X D W as us)(hb:WX X D W bs vs):PS X (.If c as bs pos) (rdS D W (sIf ft us vs)):=by
 rintro pins s σ H E I ⟨φ,α,τ,μ,sr,mr,p⟩
 refine z5l hc (vS ha) (vS hb) pins s σ H E I ⟨φ,α,τ,μ,sr,mr,(PostS.out sr p).mono λb μ' α' H' st m q=>?_⟩
 rcases PostS.br q with⟨rfl,q⟩|⟨rfl,q⟩
 ·exact⟨φ,α',τ,μ',sr.step st,m,q⟩
 ·exact⟨φ,α',τ,μ',sr.step st,m,q⟩
theorem Up(C:Sk D W Γ X k){x:Str}{i:Nat}{p0:Pos}(hi:idx Γ.N x=some i)(hs:swapsWith a (some (.Name x p0)) pos.line X.env=pure false)(ha:PE X a (rdE D W f)):PS X (.Assign [.Name x p0] a pos) (rdS D W (zq i f)):=by
 rintro pins s σ H E I ⟨φ,α,τ,μ,sr,mr,p⟩
 have hx:=wb hi
 refine z2R (i:=i) (X:=X) (by rw[C.hN];exact C.nd) (by rw[C.hN];exact vq hi) (C.sto x hx).1 ha hs (C.sto x hx).2 pins s σ H E I ⟨φ,α,τ,μ,sr,mr,(PostS.out sr p).mono λt μ' α' H' st m q v d=>?_⟩
 exact PostS.nx q (Stp.refl _ _) m ((sr.step st).set d)
theorem QP{N:List Str}:∀{es:List Expr} {is:List Nat},idxs N es=some is->∀e∈es,∀x p,e=.Name x p->x∈N
 |[],_,_,e,he,_,_,_=>absurd he (by simp)
 |e0::es,is,h,e,he,x,p,hx=>by
  cases e0 with
  |Name y p0=>
   simp only[idxs] at h
   split at h
   ·rename_i i is' hi his
    rcases List.mem_cons.mp he with rfl|he
    ·cases hx;exact wb hi
    ·exact QP his e he x p hx
   ·cases h
  |_=>simp[idxs] at h
theorem Yp{N:List Str}{e:Expr}{tgt:Tg}(h:w5 N e=some tgt):∀x∈z5 e,x∈N:=by
 intro x hx
 cases e with
 |Name y p=>
  simp[z5] at hx
  subst hx
  simp only[w5] at h
  cases q:idx N x with
  |none=>rw[q] at h;cases h
  |some i=>exact wb q
 |Tuple es kk p=>
  obtain⟨e,he,q⟩:=List.mem_filterMap.mp hx
  simp only[w5] at h
  cases q2:idxs N es with
  |none=>rw[q2] at h;cases h
  |some is=>
   cases e with
   |Name y p0=>
    have q:some y=some x:=q
    cases q
    exact QP q2 _ he x p0 rfl
   |_=>cases q
 |_=>simp[z5] at hx
theorem z1t(C:Sk D W Γ X k)(hc:X.calm=true){tg:Expr}{tgt:Tg}(ht:w5 Γ.N tg=some tgt):PG X tg (λv σ H Q=>∃φ α τ t τ',SRel D φ α H τ σ/\Den D φ α H t v/\asg tgt t τ=some τ'/\∀σ',SRel D φ α H τ' σ'->Q σ' H):=by
 rintro pins s σ H v u Q I r ⟨φ,α,τ,t,τ',sr,d,ha,q⟩
 refine thn (VB (S:=Γ.N) C.hN C.nd C.sto hc (Yp ht) ht ha I sr d r) ?_
 rintro _ s1 ⟨σ',I1,sr'⟩
 exact⟨σ',H,I1,q σ' sr'⟩
noncomputable def jL:Expr->Bool
 |.Call _ _ _ _=>true
 |.Name _ _=>true
 |.Subscript _ _ _=>true
 |.Attribute _ _ _=>true
 |_=>false
theorem z3G(C:Sk D W Γ X k)(hc:Γ.calm=true){es:List Expr}{is:List Nat}{kk:Nat}{p0:Pos}(hp:jL a=true)(hn:idxs Γ.N es=some is)(ha:PE X a (rdE D W f)):PS X (.Assign [.Tuple es kk p0] a pos) (rdS D W (z2Z is f)):=by
 rintro pins s σ H E I ⟨φ,α,τ,μ,sr,mr,p⟩
 have h1:swapsWithSole [.Tuple es kk p0] a pos.line X.env=pure false:=by cases a<;>first|(simp[jL] at hp;done)|rfl
 have h2:swappedStores [.Tuple es kk p0] a X.env=pure none:=by cases a<;>first|(simp[jL] at hp;done)|rfl
 refine Ve ha (z1t C (C.clm hc) (tg:=.Tuple es kk p0) (tgt:=.tup is) (by simp[w5,hn])) h1 h2 rfl pins s σ H E I ⟨φ,α,τ,μ,sr,mr,(PostS.out sr p).mono λt μ' α' H' st m q v d=>?_⟩
 obtain⟨τ',h,q⟩:=PostS.som q
 exact⟨φ,α',τ,t,τ',sr.step st,d,h,λσ' sr'=>PostS.nx q (Stp.refl _ _) m sr'⟩
theorem z3l(C:Sk D W Γ X k){o:Expr}{x:Str}{n:Nat}{p1:Pos}{go:De}(hn:(x,n)∈Γ.fld)(ha:PE X a (rdE D W f))(ho:PE X o (rdE D W go)) :
  PS X (.Assign [.Attribute o x p1] a pos) (rdS D W (qb go n f)):=by
 rintro pins s σ H E I ⟨φ,α,τ,μ,sr,mr,p⟩
 have hs:swapsWith a (some (.Attribute o x p1)) pos.line X.env=pure false:=by cases a<;>rfl
 refine z3q ho ha hs pins s σ H E I ⟨φ,α,τ,μ,sr,mr,(PostS.out sr p).mono λt μ1 α1 H1 st1 m1 q v d=>?_⟩
 have sr1:=sr.step st1
 refine⟨φ,α1,τ,μ1,sr1,m1,(PostS.out sr1 q).mono λot μ2 α2 H2 st2 m2 q2 ov dv=>?_⟩
 split at q2
 case h_2=>exact PostS.elim q2
 rename_i i
 obtain⟨c,fs,hμ,hl,q2⟩:=PostS.ex2 q2
 obtain⟨y,hx,rfl⟩:=dv
 obtain⟨C0,dx,gs,ad,hH,df⟩:=m2.ob i y _ hx hμ
 obtain⟨fx,cl,na⟩:=C.fld c C0 x n ad hn
 refine⟨y,C0,dx,gs,rfl,hH,cl,na,by rw[←df.length];omega,?_⟩
 have st3:Stp α2 H2 α2 (upd H2 y (.ins C0 dx (wU x v gs))):=Stp.turn (List.mem_of_getElem? hx) ⟨_,hH⟩
 have hi:i<μ2.length:=(List.getElem?_eq_some_iff.mp hμ).1
 exact PostS.nx q2 st3 (m2.turn hx hi st3 ⟨C0,dx,_,ad,z6,DenF.put fx (df.step st3) ((d.step st2).step st3)⟩) ((sr1.step st2).step st3)
theorem set_list:z2b X (λo i v H Q=>∃l k xs,o=.ref l/\i=.int k/\H l=some (.lst xs)/\0<=k/\k<xs.length/\k<9223372036854775808/\Q (upd H l (.lst (xs.set k.toNat v)))):=by
 intro pins s σ H o i v ov iv u Q I ro ri rv h
 obtain⟨l,k,xs,rfl,rfl,hH,h0,h1,h2,q⟩:=h
 cases ro
 obtain⟨t,rfl⟩:=ri
 obtain⟨z,its,n,r,hl,e⟩:=I.lstM hH
 refine PySem.W.ki_setAt (n:=n) (items:=its.toArray) e h0 (by simpa using h2) (by rw[List.size_toArray,←hl];exact h1) ?_
 exact⟨_,I.lset (t':=s.toks) (ys:=xs.set k.toNat v) (its':=its.set k.toNat u) (f:=λa=>a.setIfInBounds k.toNat u) hH e (by simp) (Vals.set rv _ r) (by rw[List.length_set];exact z),q⟩
theorem z46(C:Sk D W Γ X k){o:Expr}{p1:Pos}{fo fb:De}(hb':qo b=true)(ha:PE X a (rdE D W f))(ho:PE X o (rdE D W fo))(hb:PE X b (rdE D W fb)) :
  PS X (.Assign [.Subscript o b p1] a pos) (rdS D W (z5j fo fb f)):=by
 rintro pins s σ H E I ⟨φ,α,τ,μ,sr,mr,p⟩
 have h1:swapsWithSole [.Subscript o b p1] a pos.line X.env=pure false:=by cases a<;>rfl
 have h2:swappedStores [.Subscript o b p1] a X.env=pure none:=by cases a<;>rfl
 refine Ve ha (Xo ho hb set_list (λv=>by cases b<;>first|(simp[qo] at hb';done)|rfl)) h1 h2 rfl pins s σ H E I ⟨φ,α,τ,μ,sr,mr,(PostS.out sr p).mono λt μ1 α1 H1 st1 m1 q v d=>?_⟩
 have sr1:=sr.step st1
 refine⟨φ,α1,τ,μ1,sr1,m1,(PostS.out sr1 q).mono λot μ2 α2 H2 st2 m2 q2 ov dv=>?_⟩
 have sr2:=sr1.step st2
 refine⟨φ,α2,τ,μ2,sr2,m2,(PostS.out sr2 q2).mono λit μ3 α3 H3 st3 m3 q3 iv di=>?_⟩
 have d3:=(d.step st2).step st3
 split at q3
 case h_2=>exact PostS.elim q3
 rename_i i kk
 have dv:=dv.step st3
 obtain⟨ts,hμ,hk,q3⟩:=PostS.ex1 q3
 obtain⟨x,hx,rfl⟩:=dv
 have di:iv=.int kk:=di
 subst di
 obtain⟨xs,hH,l⟩:=m3.ob i x _ hx hμ
 have st4:Stp α3 H3 α3 (upd H3 x (.lst (xs.set kk.toNat v))):=Stp.turn (List.mem_of_getElem? hx) ⟨_,hH⟩
 have hi:i<μ3.length:=(List.getElem?_eq_some_iff.mp hμ).1
 exact⟨x,kk,xs,rfl,rfl,hH,hk.1,by rw[←l.length];exact hk.2.1,hk.2.2,PostS.nx q3 st4 (m3.turn hx hi st4 ⟨_,z6,DenL.set (l.step st4) (d3.step st4)⟩) ((sr2.step st3).step st4)⟩
theorem z3W(C:Sk D W Γ X k)(hc:Γ.calm=true){tg iter:Expr}{tgt:Tg}(ht:w5 Γ.N tg=some tgt){fi:Di}{body:List Stmt}{vs:List Ds}(hi:PI X tg iter (rdI D W fi))(hb:WX X D W body vs)(hs:∀x,foldedSetIterable iter X.env x=pure x) :
  PS X (.For tg iter body [] pos) (rdS D W (kR tgt fi vs)):=by
 rintro pins s σ H E I ⟨φ,α,τ,μ,sr,mr,p⟩
 refine z29 C.pso (C.clm hc) hi (z1t C (C.clm hc) ht) (vS hb) hs pins s σ H E I ⟨φ,α,τ,μ,sr,mr,(PostS.out sr (show PostS D W φ α H E ((fi τ μ).re.out τ λpr μ1=>forM tgt (w4 vs) pr.2 pr.1 τ μ1) from p)).mono λpr μ1 α1 H1 st1 m1 q J Ok iv okk lv1=>?_⟩
 obtain⟨xs,o⟩:=pr
 obtain⟨Q,q,h1,h2,h3,h4,h5⟩:=q
 refine⟨λi m σ' H'=>m=xs.length-i/\i<=xs.length/\∃α' τ' μ',Stp α1 H1 α' H'/\MRel D φ α' H' μ'/\SRel D φ α' H' τ' σ'/\o μ'/\forM tgt (w4 vs) o (xs.drop i) τ' μ' Q,⟨xs.length,by simp,Nat.zero_le _,α1,τ,μ1,Stp.refl _ _,m1,sr.step st1,lv1,by simpa using q⟩,?_⟩
 rintro i m σ' H' ⟨rfl,hi',α',τ',μ',stp,mr',sr',lv',pf⟩
 have okH:Ok φ α' H':=okk _ α' H' μ' stp.lk mr' lv'
 by_cases hlt:i<xs.length
 ·refine .inr ⟨iv.go i _ _ H' okH hlt,λσ2 H2=>∃α2 τ2 μ2,Stp α1 H1 α2 H2/\MRel D φ α2 H2 μ2/\SRel D φ α2 H2 τ2 σ2/\o μ2/\forM tgt (w4 vs) o (xs.drop (i+1)) τ2 μ2 Q,λσ2 H2 h2=>⟨xs.length-(i+1),by omega,rfl,hlt,h2⟩,λx H2 y=>?_⟩
  obtain⟨sm,dx⟩:=iv.yld i _ _ H' x H2 xs[i] okH (by simp[hlt]) y
  have stp:=stp.trans (Stp.new (α:=α') sm)
  have sr':=sr'.step (Stp.new (α:=α') sm)
  have mr':=mr'.new sm
  rw[List.drop_eq_getElem_cons hlt] at pf
  obtain⟨τ3,ha,pf⟩:=pf
  refine⟨φ,α',τ',xs[i],τ3,sr',dx,ha,λσ3 sr3=>⟨φ,α',τ3,μ',sr3,mr',_,pf,?_,?_,?_,?_,?_⟩⟩
  ·exact λτ4 μ4 e α4 H4 σ4 st4 m4 sr4=>⟨α4,τ4,μ4,stp.trans st4,m4,sr4,e⟩
  ·exact λτ4 μ4 e α4 H4 σ4 st4 m4 sr4=>h1 τ4 μ4 e α4 H4 σ4 (stp.trans st4) m4 sr4
  ·exact λτ4 μ4 e α4 H4 σ4 st4 m4 sr4=>⟨α4,τ4,μ4,stp.trans st4,m4,sr4,e⟩
  ·exact λt μ4 e α4 H4 v st4 m4 d4=>h4 t μ4 e α4 H4 v (stp.trans st4) m4 d4
  ·exact λc fs τ4 μ4 e α4 H4 σ4 Cc d st4 m4 sr4=>h5 c fs τ4 μ4 e α4 H4 σ4 Cc d (stp.trans st4) m4 sr4
 ·have hie:i=xs.length:=by omega
  rw[hie,List.drop_length] at pf
  exact .inl ⟨by rw[hie];exact iv.stop _ _ H' okH,h1 τ' μ' pf α' H' σ' stp mr' sr'⟩
theorem XT(C:Sk D W Γ X k){ft:Dt}{body:List Stmt}{vs:List Ds}(hc:PT X c (rdT D W ft))(hb:WX X D W body vs):PS X (.While c body [] pos) (rdS D W (Qk ft vs)):=by
 rintro pins s σ H E I ⟨φ,α,τ,μ,sr,mr,Q,⟨J,⟨N,hN⟩,hJ⟩,h1,h2,h3,h4,h5⟩
 refine Y4 C.pso hc (vS hb) pins s σ H E I ?_
 refine⟨λm σ' H'=>∃α' τ' μ',Stp α H α' H'/\MRel D φ α' H' μ'/\SRel D φ α' H' τ' σ'/\J m τ' μ',⟨N,α,τ,μ,Stp.refl _ _,mr,sr,hN⟩,?_⟩
 rintro m σ' H' ⟨α',τ',μ',stp,mr',sr',pf⟩
 refine⟨φ,α',τ',μ',sr',mr',_,_,hJ m τ' μ' pf,λb μ1 e α2 H2 st2 m2=>?_,λc fs μ1 e α2 H2 Cc d st2 m2 ad xd=>h5 c fs τ' μ1 e α2 H2 σ' Cc d (stp.trans st2) m2 (sr'.step st2) ad xd⟩
 cases b with
 |false=>exact h1 τ' μ1 e α2 H2 σ' (stp.trans st2) m2 (sr'.step st2)
 |true=>
  rw[if_pos rfl]
  have t2:=stp.trans st2
  refine⟨λσ4 H4=>∃j,j<m/\∃α4 τ4 μ4,Stp α H α4 H4/\MRel D φ α4 H4 μ4/\SRel D φ α4 H4 τ4 σ4/\J j τ4 μ4,λσ4 H4 h4=>h4,φ,α2,τ',μ1,sr'.step st2,m2,_,e,?_,?_,?_,?_,?_⟩
  ·exact λτ4 μ4 ⟨j,hj,q⟩ α4 H4 σ4 st4 m4 sr4=>⟨j,hj,α4,τ4,μ4,t2.trans st4,m4,sr4,q⟩
  ·exact λτ4 μ4 e α4 H4 σ4 st4 m4 sr4=>h1 τ4 μ4 e α4 H4 σ4 (t2.trans st4) m4 sr4
  ·exact λτ4 μ4 ⟨j,hj,q⟩ α4 H4 σ4 st4 m4 sr4=>⟨j,hj,α4,τ4,μ4,t2.trans st4,m4,sr4,q⟩
  ·exact λt μ4 e α4 H4 v st4 m4 d4=>h4 t μ4 e α4 H4 v (t2.trans st4) m4 d4
  ·exact λc fs τ4 μ4 e α4 H4 σ4 Cc d st4 m4 sr4=>h5 c fs τ4 μ4 e α4 H4 σ4 Cc d (t2.trans st4) m4 sr4
theorem UZ(C:Sk D W Γ X k)(hc:Γ.calm=true){tg iter elt:Expr}{sc:Scope}{fi:Di}{fs:List Nat}{tgt:Tg}{ifs:List Expr}{cs:List Dt}{fe:De}{x:Str}{ix:Nat}{p0 p1:Pos}(hix:idx Γ.N x=some ix)(ok:CompOk Γ.N Γ.cel tg sc)(hfs:xQ Γ.N (frees sc)=some fs)(htg:w5 (z5 tg++frees sc) tg=some tgt)(hi:PI X tg iter (rdI D W fi))(hel:∀X' W',Ck D W' (inComp Γ tg sc) X' k->PE X' elt (rdE D W' fe))(hts:∀X' W',Ck D W' (inComp Γ tg sc) X' k->VE X' D W' ifs cs)(hs:∀x,foldedSetIterable iter X.env x=pure x)
  (own:Bool) (hsw:swapsWith (.ListComp elt [⟨tg,iter,ifs,0⟩] sc p1) (some (.Name x p0)) pos.line X.env=pure true) :
  PS X (.Assign [.Name x p0] (.ListComp elt [⟨tg,iter,ifs,0⟩] sc p1) pos) (rdS D W (zq ix (match own with|true=>kO (z5 tg).length fs tgt fi cs fe|false=>qL (z5 tg).length fs tgt fi cs fe))):=by
 rintro pins s σ H E I ⟨φ,α,τ,μ,sr,mr,p⟩
 rw[exec_Assign_Name_used _ _ _ _ hsw]
 refine wpAny_bind (wpAny_standAt (wpAny_bind ?_))
 show wpAny _ _ (do let _ ←comprehension (.ListComp elt [⟨tg,iter,ifs,0⟩] sc p1) sc X.env _ (newList []) false (eval iter X.env) (some (assign (.Name x p0) X.env))) _ _ s
 refine wpAny_bind (thn (xh (kk:=λys μ=>match own with|true=>RE.ok (T.mut μ.length) (μ++[MO.lst ys])|false=>RE.ok (T.lst ys) μ) (use:=some (assign (.Name x p0) X.env)) (Qf:=λ_ s'=>∃σ' H',Inv X pins σ' H' s'/\E.nx σ' H') C.toCk hc ok hfs htg hi hel hts hs I sr mr (PostS.out sr (by cases own<;>exact p)) ?_) λ_ s' hq=>wpAny_pure (wpAny_pure hq))
 rintro acc C0 s' α1 H1 H' α' ys vs μ' I' st1 st hn nph nal sr' m ha dl post xo hp ⟨mm,hm⟩
 have hx:=wb hix
 obtain⟨oc,es,ep,hoc,hdc,hrest⟩:=hm
 have I2:Inv X (pins++[(C0,oc)]) σ H' s':=I'.pins_of λp hp'=>(List.mem_append.mp hp').elim (λz=>I'.pin p (List.mem_append_right _ z)) λz=>by
  rw[List.mem_singleton.mp z]
  exact⟨hoc,xo.free,xo.loc,xo.nfs,λv e=>by rw[hdc] at e;cases e⟩
 have fin:∀{α'':List Addr} {t:T} {μ2:Mem},SRel D φ α'' H' τ σ->Den D φ α'' H' t (.ref acc)->(∀σ',SRel D φ α'' H' (xW τ ix (some t)) σ'->E.nx σ' H')->wpAny (model X.prog X.w) X.A (assign (.Name x p0) X.env (.ref acc)) (λ_ t2=>∃m,t2.heap.Ns C0 m/\∀g,Heap.SameBut C0 t2.heap g->∃σ' H',Inv X pins σ' H' {t2 with heap:=g}/\E.nx σ' H') X.xe s':=λ{α'' t μ2} sr2 d q=>by
  refine thn (VB (e:=.Name x p0) (S:=Γ.N) (tgt:=.one ix) (t:=t) (τ:=τ) C.hN C.nd C.sto (C.clm hc) (λy hy=>by simp[z5] at hy;rw[hy];exact hx) (by simp[w5,hix]) rfl I2 sr2 d (show RelV (.ref acc) (.ref acc) from rfl)) ?_
  rintro _ s2 ⟨σ',I3,sr3⟩
  have hpin:=(I3.pin (C0,oc) (List.mem_append_right _ (List.mem_append_right _ (List.mem_singleton.mpr rfl)))).1
  refine⟨mm,⟨oc,es,ep,hpin,hdc,hrest⟩,λg sb=>⟨σ',H',?_,q σ' sr3⟩⟩
  exact xY (I3.pins_of λp hp'=>I3.pin p (List.mem_append_right _ (List.mem_append_left _ hp'))) xo hp sb
 cases own with
 |false=>
  obtain⟨m2,d,post⟩:=WE (kk:=λt μ=>RE.ok t μ) st hn nph m ha dl post
  exact fin (μ2:=μ') (sr'.lk wJ) d λσ' sr3=>PostS.nx (post.ok (Stp.refl _ _) m2) (Stp.refl _ _) m2 sr3
 |true=>
  obtain⟨st2,m2,d⟩:=ZF st hn nph m ha dl
  exact fin (μ2:=μ') (sr'.lk jr) d λσ' sr3=>PostS.nx (post.ok st2 m2) (Stp.refl _ _) m2 sr3
end
end NH
end
section
namespace NH
open PySem PySem.Spec PyProof.Rows L2
noncomputable def z5i(C:Addr)(h:Heap):Prop:=∃tl N nm q bs hd sn sub ab col dd k0 k1 k2 k3 k5 mN,h.get? C=some (excClassObj nm q C N bs tl hd sn sub ab col dd k0 k1 k2 k3 k5 "ValueError.__new__")/\h.Ns N mN/\mN "__init__"=none/\OwnTail h zC tl
theorem W9 {K:PySem.W.Frag} {h:Heap} {C:Addr} (kin:K.In h) (e:PySem.W.excIn K C zC "ValueError.__new__"=true):z5i C h:=by
 simp only[PySem.W.excIn] at e
 revert e
 cases hk:K.lookup C with
 |none=>intro e;cases e
 |some o=>
  intro e
  split at e
  case h_2=>cases e
  rename_i dd cd sl ho
  cases ho
  split at e
  case h_2=>cases e
  rename_i C' tl k0 k1 k2 k3 n k5 hm hs
  simp only[Bool.and_eq_true,beq_iff_eq,Bool.not_eq_true'] at e
  obtain⟨⟨⟨⟨⟨e1,e2⟩,e3⟩,e4⟩,e5⟩,e6⟩:=e
  cases cd
  rename_i nm bs mro ns qn hd sn sub ab col del
  simp only at hm e3 e5 e6
  cases e1;cases e2;cases hm;cases e3
  have hsl:sl=#[k0,k1,k2,k3,some (.builtin "ValueError.__new__"),k5]:=by
   cases sl;simp only at hs;rw[hs]
  cases hsl
  exact⟨tl,ns,nm,qn,bs,hd,sn,sub,ab,col,dd,k0,k1,k2,k3,k5,h.nsMap ns,kin _ _ hk,.of_isNs (PySem.W.isNs_of_in kin e5),PySem.W.nsMap_none_of_in kin e5 e6,PySem.W.tail_of_in kin e4⟩
section
variable {X:Cx}{D:DP}{W:XW}{Γ:Cn}{k:Nat}{pins:List (Addr×Obj)}{s:Shared}{σ:St}{H:Hp}{φ α:List Addr}{τ:Sl}{μ:Mem}{a b c e:Expr}{pos:Pos}{E:Ends}{es:List Expr}{fs:List De}
theorem Yu(C:Sk D W Γ X k)(hc:Γ.calm=true){x:Str}{n:Nat}{p0 p1:Pos}(hx:x∈Γ.G)(hg:Γ.gl x=.xcl n)(ha:EsOk X D W (a::es) fs) :
  PS X (.Raise (some (.Call (.Name x p0) (a::es) [] p1)) none pos) (rdS D W (zy n fs)):=by
 rintro pins s σ H E I ⟨φ,α,τ,μ,sr,mr,p⟩
 have q:=C.glo x hx
 rw[hg] at q
 obtain⟨C0,ad,hm,hex⟩:=q
 have hs:=ha.stars
 obtain⟨tl,N,nm,qn,bs,hd,sn,sub,ab,col,dd,k0,k1,k2,k3,k5,mN,o1,o2,o3,o4⟩:=W9 I.ok.mod.kin hex
 have hb:tl.contains (.type "BaseException")=true:=o4.hasType PySem.F.excBase_ValueError.hasBase
 have hp:(backTo p1 (starEach (a::es) X.env)).any (·.1)=false:=zY hs
 refine wpAny_Raise_call_subT (nm:=nm) (q:=qn) (C:=C0) (N:=N) (bs:=bs) (bm:=tl) (hdct:=hd) (sn:=sn) (sub:=sub) (ab:=ab) (col:=col) (dd:=dd) (k0:=k0) (k1:=k1) (k2:=k2) (k3:=k3) (k5:=k5) (mN:=mN) PySem.F.excBase_ValueError hb (I.ok.hd (C.clm hc)) hp o3 ?_
 refine wc I (C.glb x hx) hm ⟨rfl,?_⟩ (C.dbG x hx)
 have hs1:noStar a=true:=by simp only[List.all_cons,Bool.and_eq_true] at hs;exact hs.1
 have sA:=thn (wq ha p1 pins s σ H (λvs H1=>∃ts μ1 α1,Stp α H α1 H1/\SRel D φ α1 H1 τ σ/\MRel D φ α1 H1 μ1/\DenL D φ α1 H1 ts vs/\PostS D W φ α1 H1 E (.grd (ts.length<=room) (.ex n [] τ μ1))) I ⟨φ,α,τ,μ,sr,mr,(PostS.out sr p).mono λts μ' α' H' st m q vs d _=>⟨ts,μ',α',st,sr.step st,m,d,q⟩⟩) (Q':=λus s1=>us.length<=sizeLine/\s1.heap.get? C0=some (excClassObj nm qn C0 N bs tl hd sn sub ab col dd k0 k1 k2 k3 k5 "ValueError.__new__")/\s1.heap.Ns N mN/\OwnTail s1.heap zC tl/\∀h' e,Heap.MadeExcOf s1.heap h' e (.ref C0) us->X.xe (.ref e) {s1 with heap:=h'}) ?_
 ·rw[z4 hs1] at sA ⊢
  exact Calls.evalArgs_plain (thn sA λus s1 h1=>⟨rfl,h1⟩)
 ·rintro us s1 ⟨vs,H1,I1,r,ts,μ1,α1,st,sr1,m1,dl,q⟩
  obtain⟨hl,q⟩:=PostS.grd q
  refine⟨?_,I1.bk _ _ o1,o2.keeps I1.bk,o4.keeps I1.bk,λh' e mk=>?_⟩
  ·have e1:=dl.length
   have e2:=r.length
   have:=zp hl
   rw[←e2,←e1]
   exact this
  ·exact C.xe _ _ (z0C I1 mk (PostS.ex q (Stp.refl _ _) m1 sr1 ad rfl))
end
end NH
end
section
namespace NH
open PySem PySem.Spec PyProof.Rows L2
structure Rec where
 e:Cn->Expr->Option De
 t:Cn->Expr->Option Dt
 w:Cn->Expr->Option Dt
 i:Cn->Expr->Option Di
 o:Cn->Expr->Option De
 s:Cn->Stmt->Option Ds
noncomputable abbrev ER:=Rec->Cn->Expr->Option De
noncomputable abbrev TR:=Rec->Cn->Expr->Option Dt
noncomputable abbrev IR:=Rec->Cn->Expr->Option Di
noncomputable abbrev SR:=Rec->Cn->Stmt->Option Ds
structure Rules where
 e:List ER
 t:List TR
 w:List TR
 i:List IR
 o:List ER
 s:List SR
noncomputable def QA {α β:Type}:List (Rec->Cn->α->Option β)->Rec->Cn->α->Option β
 |[],_,_,_=>none
 |f::fs,r,Γ,e=>match f r Γ e with
  |some d=>some d
  |none=>QA fs r Γ e
noncomputable def comp (R:Rules):Nat->Rec
 |0=>⟨λ_ _=>none,λ_ _=>none,λ_ _=>none,λ_ _=>none,λ_ _=>none,λ_ _=>none⟩
 |n+1=>⟨QA R.e (comp R n),QA R.t (comp R n),QA R.w (comp R n),QA R.i (comp R n),QA R.o (comp R n),QA R.s (comp R n)⟩
noncomputable def YZ(tg e:Expr):Bool:=match e with
 |.Call (.Name x _) _ _ _=>(x != ("enumerate":Str)&&x != ("zip":Str)) || (match tg with|.Tuple _ _ _=>true|_=>false)
 |_=>true
structure RecOk(D:DP)(r:Rec):Prop where
 e:∀{X W Γ k e f},Ck D W Γ X k->r.e Γ e=some f->PE X e (rdE D W f)
 t:∀{X W Γ k e f},Ck D W Γ X k->r.t Γ e=some f->PT X e (rdT D W f)
 w:∀{X W Γ k e f},Ck D W Γ X k->r.w Γ e=some f->PW X e (rdT D W f)
 i:∀{X W Γ k tg e f},Ck D W Γ X k->YZ tg e=true->r.i Γ e=some f->PI X tg e (rdI D W f)
 o:∀{X W Γ k e f},Ck D W Γ X k->r.o Γ e=some f->PE X e (rdE D W f)
 s:∀{X W Γ k e f},Sk D W Γ X k->r.s Γ e=some f->PS X e (rdS D W f)
noncomputable def EOk (D:DP)(f:ER):Prop:=∀r,RecOk D r->∀{X W Γ k e d},Ck D W Γ X k->f r Γ e=some d->PE X e (rdE D W d)
noncomputable def TOk (D:DP)(f:TR):Prop:=∀r,RecOk D r->∀{X W Γ k e d},Ck D W Γ X k->f r Γ e=some d->PT X e (rdT D W d)
noncomputable def WOk (D:DP)(f:TR):Prop:=∀r,RecOk D r->∀{X W Γ k e d},Ck D W Γ X k->f r Γ e=some d->PW X e (rdT D W d)
noncomputable def IOk (D:DP)(f:IR):Prop:=∀r,RecOk D r->∀{X W Γ k tg e d},Ck D W Γ X k->YZ tg e=true->f r Γ e=some d->PI X tg e (rdI D W d)
noncomputable def SOk (D:DP)(f:SR):Prop:=∀r,RecOk D r->∀{X W Γ k e d},Sk D W Γ X k->f r Γ e=some d->PS X e (rdS D W d)
noncomputable def xN{α:Type}(P:α->Prop):List α->Prop
 |[]=>True
 |f::fs=>P f/\xN P fs
structure RulesOk(D:DP)(R:Rules):Prop where
 e:xN (EOk D) R.e
 t:xN (TOk D) R.t
 w:xN (WOk D) R.w
 i:xN (IOk D) R.i
 o:xN (EOk D) R.o
 s:xN (SOk D) R.s
theorem vf{α β:Type}{P:(Rec->Cn->α->Option β)->Prop}{C:Prop}{r:Rec}{Γ:Cn}{e:α}{d:β}:∀{fs:List (Rec->Cn->α->Option β)},xN P fs->(∀f,P f->f r Γ e=some d->C)->QA fs r Γ e=some d->C
 |[],_,_,h=>by cases h
 |f::fs,a,k,h=>by
  unfold QA at h
  cases q:f r Γ e with
  |some d'=>rw[q] at h;cases h;exact k f a.1 q
  |none=>rw[q] at h;exact vf a.2 k h
theorem vn{D:DP}{R:Rules}(H:RulesOk D R):∀n,RecOk D (comp R n)
 |0=>⟨λ_ h=>(by cases h),λ_ h=>(by cases h),λ_ h=>(by cases h),λ_ _ h=>(by cases h),λ_ h=>(by cases h),λ_ h=>(by cases h)⟩
 |n+1=>⟨λC h=>vf H.e (λf p q=>p _ (vn H n) C q) h,λC h=>vf H.t (λf p q=>p _ (vn H n) C q) h,λC h=>vf H.w (λf p q=>p _ (vn H n) C q) h,λC ht h=>vf H.i (λf p q=>p _ (vn H n) C ht q) h,λC h=>vf H.o (λf p q=>p _ (vn H n) C q) h,λC h=>vf H.s (λf p q=>p _ (vn H n) C q) h⟩
noncomputable def gd{α:Type}(b:Bool)(o:Option α):Option α:=match b with
 |true=>o
 |false=>none
theorem zo{α:Type}{b:Bool}{o:Option α}{x:α}(h:gd b o=some x):b=true/\o=some x:=by
 cases b with
 |true=>exact⟨rfl,h⟩
 |false=>cases h
theorem bnd{α β:Type}{o:Option α}{f:α->Option β}{x:β}(h:o.bind f=some x):∃a,o=some a/\f a=some x:=Option.bind_eq_some_iff.mp h
noncomputable def zf {α β:Type}(f:α->Option β):List α->Option (List β)
 |[]=>some []
 |a::r=>(f a).bind λb=>(zf f r).bind λbs=>some (b::bs)
noncomputable def cEs (r:Rec)(Γ:Cn)(es:List Expr):Option (List De):=zf (λe=>gd (noStar e) (r.e Γ e)) es
section
variable {D:DP}{r:Rec}{X:Cx}{W:XW}{Γ:Cn}{k:Nat}
theorem wt(h:RecOk D r)(C:Ck D W Γ X k):∀{es:List Expr} {fs:List De},cEs r Γ es=some fs->EsOk X D W es fs
 |[],fs,e=>by cases e;trivial
 |a::es,fs,e=>by
  obtain⟨f,h1,e⟩:=bnd e
  obtain⟨gs,h2,e⟩:=bnd e
  cases e
  obtain⟨h3,h4⟩:=zo h1
  exact⟨h3,h.e C h4,wt h C h2⟩
theorem k8(h:RecOk D r)(C:Ck D W Γ X k):∀{es:List Expr} {fs:List Dt},zf (r.t Γ) es=some fs->VE X D W es fs
 |[],fs,e=>by cases e;trivial
 |a::es,fs,e=>by
  obtain⟨f,h1,e⟩:=bnd e
  obtain⟨gs,h2,e⟩:=bnd e
  cases e
  exact⟨h.t C h1,k8 h C h2⟩
theorem vP(h:RecOk D r)(C:Sk D W Γ X k):∀{es:List Stmt} {fs:List Ds},zf (r.s Γ) es=some fs->WX X D W es fs
 |[],fs,e=>by cases e;trivial
 |a::es,fs,e=>by
  obtain⟨f,h1,e⟩:=bnd e
  obtain⟨gs,h2,e⟩:=bnd e
  cases e
  exact⟨h.s C h1,vP h C h2⟩
end
noncomputable def z4O:ER:=λ_ _ e=>match e with
 |.Constant c _ _=>(match c with
  |.int i=>some (eC (.int i))
  |.bool b=>some (eC (.bl b))
  |.none=>some (eC .non)
  |.str x=>some (eC (.str x))
  |_=>none)
 |_=>none
theorem U_{D:DP}:EOk D z4O:=by
 intro r H X W Γ k e d C h
 cases e with
 |Constant c j p=>
  cases c with
  |int i=>cases h;exact z3j
  |bool i=>cases h;exact z51
  |none=>cases h;exact z3g
  |str i=>cases h;exact z3Q
  |_=>cases h
 |_=>cases h
noncomputable def z1O:ER:=λ_ Γ e=>match e with
 |.Name x _=>(match idx Γ.N x with
  |some i=>some (eV i)
  |none=>(match Γ.look x with
   |.cst t=>some (eC t)
   |_=>none))
 |_=>none
theorem z0S{D:DP}:EOk D z1O:=by
 intro r H X W Γ k e d C h
 cases e with
 |Name x p=>
  simp only[z1O] at h
  cases q:idx Γ.N x with
  |some i=>rw[q] at h;cases h;exact z4n C q
  |none=>
   rw[q] at h
   cases hl:Γ.look x with
   |cst t=>
    simp only[hl] at h
    cases h
    obtain⟨hx,hg⟩:=qC hl (by intro z;cases z)
    exact z3k C hx hg
   |_=>simp[hl] at h
 |_=>cases h
noncomputable def z4S:ER:=λr Γ e=>match e with
 |.BinOp a op b _=>(r.e Γ a).bind λf=>(r.e Γ b).bind λg=>some (za op f g)
 |_=>none
theorem Uw{D:DP}:EOk D z4S:=by
 intro r H X W Γ k e d C h
 cases e with
 |BinOp a op b p=>
  obtain⟨f,h1,h⟩:=bnd h
  obtain⟨g,h2,h⟩:=bnd h
  cases h
  exact z4y (H.e C h1) (H.e C h2)
 |_=>cases h
noncomputable def rUn:ER:=λr Γ e=>match e with
 |.UnaryOp op a _=>(r.e Γ a).bind λf=>(match op with
  |.USub=>some (z4A f)
  |.Not=>some (z0m f)
  |_=>none)
 |_=>none
theorem z3p{D:DP}:EOk D rUn:=by
 intro r H X W Γ k e d C h
 cases e with
 |UnaryOp op a p=>
  obtain⟨f,h1,h⟩:=bnd h
  cases op with
  |USub=>cases h;exact z3h (H.e C h1)
  |Not=>cases h;exact z2t (H.e C h1)
  |_=>cases h
 |_=>cases h
noncomputable def z1F:ER:=λr Γ e=>match e with
 |.BoolOp op es p=>(match es with
  |[a]=>r.e Γ a
  |a::b::l=>(r.e Γ a).bind λf=>(r.e Γ (.BoolOp op (b::l) p)).bind λg=>some (match op with|.And=>QJ f g|.Or=>eOr f g)
  |[]=>none)
 |_=>none
theorem U9{D:DP}:EOk D z1F:=by
 intro r H X W Γ k e d C h
 cases e with
 |BoolOp op es p=>
  match es with
  |[]=>cases h
  |[a]=>exact z4f (H.e C h)
  |a::b::l=>
   obtain⟨f,h1,h⟩:=bnd h
   obtain⟨g,h2,h⟩:=bnd h
   cases h
   cases op with
   |And=>exact z45 (H.e C h1) (H.e C h2)
   |Or=>exact z5t (H.e C h1) (H.e C h2)
 |_=>cases h
noncomputable def chs (r:Rec)(Γ:Cn):List CmpOp->List Expr->Option (List (CmpOp×De))
 |[],[]=>some []
 |op::ops,e::es=>gd (jf op) ((r.e Γ e).bind λf=>(chs r Γ ops es).bind λps=>some ((op,f)::ps))
 |_,_=>none
theorem Yy{D:DP}{r:Rec}{X:Cx}{W:XW}{Γ:Cn}{k:Nat}(H:RecOk D r)(C:Ck D W Γ X k):∀{ops:List CmpOp} {es:List Expr} {ps:List (CmpOp×De)},chs r Γ ops es=some ps->Kl X D W es ps/\ps.map (·.1)=ops/\ps.all (λp=>jf p.1)=true
 |[],[],ps,h=>by cases h;exact⟨trivial,rfl,rfl⟩
 |[],_::_,ps,h=>by cases h
 |_::_,[],ps,h=>by cases h
 |op::ops,e::es,ps,h=>by
  obtain⟨hb,h⟩:=zo h
  obtain⟨f,h1,h⟩:=bnd h
  obtain⟨qs,h2,h⟩:=bnd h
  cases h
  obtain⟨k1,k2,k3⟩:=Yy H C h2
  exact⟨⟨H.e C h1,k1⟩,by simp[k2],by simp[hb,k3]⟩
noncomputable def z2X (r:Rec)(Γ:Cn)(a:Expr)(ops:List CmpOp)(es:List Expr):Option De:=(r.e Γ a).bind λf=>(match ops,es with
 |[op],[b]=>gd (wM op b) ((r.e Γ b).bind λg=>some (zu op f g))
 |_::_::_,_::_::_=>(chs r Γ ops es).bind λps=>some (eCh f ps)
 |_,_=>none)
theorem JB{D:DP}{r:Rec}{X:Cx}{W:XW}{Γ:Cn}{k:Nat}(H:RecOk D r)(C:Ck D W Γ X k){a:Expr}{ops:List CmpOp}{es:List Expr}{p:Pos}{d:De}(h:z2X r Γ a ops es=some d):PE X (.Compare a ops es p) (rdE D W d)/\PT X (.Compare a ops es p) (rdT D W (tE d)):=by
 obtain⟨f,h1,h⟩:=bnd h
 match ops,es with
 |[op],[b]=>
  obtain⟨ho,h⟩:=zo h
  obtain⟨g,h2,h⟩:=bnd h
  cases h
  exact⟨z2j C ho (H.e C h1) (H.e C h2),VV C ho (H.e C h1) (H.e C h2)⟩
 |op::op'::ops,e::e'::es=>
  obtain⟨ps,h2,h⟩:=bnd h
  cases h
  obtain⟨k1,k2,k3⟩:=Yy H C h2
  match ps with
  |[]=>cases k2
  |[p1]=>simp at k2
  |p1::p2::ps=>
   simp only[List.map_cons,List.cons.injEq] at k2
   obtain⟨rfl,rfl,rfl⟩:=k2
   exact⟨Xi C k3 (H.e C h1) k1,WL C k3 (H.e C h1) k1⟩
 |[],es=>cases h
 |[_],[]=>cases h
 |[_],_::_::_=>cases h
 |_::_::_,[]=>cases h
 |_::_::_,[_]=>cases h
noncomputable def z5z:ER:=λr Γ e=>match e with
 |.Compare a ops es _=>z2X r Γ a ops es
 |_=>none
theorem z12{D:DP}:EOk D z5z:=by
 intro r H X W Γ k e d C h
 cases e with
 |Compare a ops es p=>exact (JB H C h).1
 |_=>cases h
noncomputable def z5D:ER:=λr Γ e=>match e with
 |.IfExp c a b _=>(r.t Γ c).bind λt=>(r.e Γ a).bind λf=>(r.e Γ b).bind λg=>some (eIf t f g)
 |_=>none
theorem UQ{D:DP}:EOk D z5D:=by
 intro r H X W Γ k e d C h
 cases e with
 |IfExp c a b p=>
  obtain⟨t,h0,h⟩:=bnd h
  obtain⟨f,h1,h⟩:=bnd h
  obtain⟨g,h2,h⟩:=bnd h
  cases h
  exact z5G (H.t C h0) (H.e C h1) (H.e C h2)
 |_=>cases h
noncomputable def z4I:ER:=λr Γ e=>match e with
 |.Attribute a x _=>gd (zL a) ((r.e Γ a).bind λf=>(Γ.fld.lookup x).bind λn=>some (z9 f n))
 |_=>none
theorem Uy{D:DP}:EOk D z4I:=by
 intro r H X W Γ k e d C h
 cases e with
 |Attribute a x p=>
  obtain⟨hp,h⟩:=zo h
  obtain⟨f,h1,h⟩:=bnd h
  obtain⟨n,h2,h⟩:=bnd h
  cases h
  exact z3a C hp (lookup_mem h2) (H.e C h1)
 |_=>cases h
noncomputable def prt (r:Rec)(Γ:Cn):Option Expr->Option Dp
 |none=>some pN
 |some e=>(r.e Γ e).bind λf=>some (pS f)
theorem Xq{D:DP}{r:Rec}{X:Cx}{W:XW}{Γ:Cn}{k:Nat}(H:RecOk D r)(C:Ck D W Γ X k){o:Option Expr}{d:Dp}(h:prt r Γ o=some d):PO X o (rdO D W d):=by
 cases o with
 |none=>cases h;exact z0e
 |some e=>
  obtain⟨f,h1,h⟩:=bnd h
  cases h
  exact z0O (H.e C h1)
noncomputable def z2P:ER:=λr Γ e=>match e with
 |.Subscript a b _=>(match b with
  |.Slice lo hi st _=>(match st with
   |none=>(r.e Γ a).bind λf=>(prt r Γ lo).bind λl=>(prt r Γ hi).bind λu=>some (eSl f l u)
   |some _=>none)
  |b=>gd (qo b) ((r.e Γ a).bind λf=>(r.e Γ b).bind λg=>some (eIx f g)))
 |_=>none
theorem z0A{D:DP}:EOk D z2P:=by
 intro r H X W Γ k e d C h
 cases e with
 |Subscript a b p=>
  have gen:∀{b},gd (qo b) ((r.e Γ a).bind λf=>(r.e Γ b).bind λg=>some (eIx f g))=some d->PE X (.Subscript a b p) (rdE D W d):=λ{b} h=>by
   obtain⟨hp,h⟩:=zo h
   obtain⟨f,h1,h⟩:=bnd h
   obtain⟨g,h2,h⟩:=bnd h
   cases h
   exact z4W hp C.hK (H.e C h1) (H.e C h2)
  cases b with
  |Slice lo hi st p2=>
   cases st with
   |some _=>cases h
   |none=>
    obtain⟨f,h1,h⟩:=bnd h
    obtain⟨l,h2,h⟩:=bnd h
    obtain⟨u,h3,h⟩:=bnd h
    cases h
    exact Xg (H.e C h1) (Xq H C h2) (Xq H C h3)
  |_=>exact gen h
 |_=>cases h
noncomputable def z5u:ER:=λr Γ e=>match e with
 |.List es _=>gd (decide (es.length<=room)) ((cEs r Γ es).bind λfs=>some (Z8 fs))
 |.Tuple es _ _=>gd (decide (es.length<=room)) ((cEs r Γ es).bind λfs=>some (qP fs))
 |_=>none
theorem z1b{D:DP}:EOk D z5u:=by
 intro r H X W Γ k e d C h
 cases e with
 |List es p=>
  obtain⟨hl,h⟩:=zo h
  obtain⟨fs,h1,h⟩:=bnd h
  cases h
  exact z3C (of_decide_eq_true hl) (wt H C h1)
 |Tuple es kk p=>
  obtain⟨hl,h⟩:=zo h
  obtain⟨fs,h1,h⟩:=bnd h
  cases h
  exact z2T (of_decide_eq_true hl) (wt H C h1)
 |_=>cases h
noncomputable def z2N:ER:=λr Γ e=>match e with
 |.Call (.Name x _) es [] _=>gd ((idx Γ.N x).isNone&&Γ.calm) ((cEs r Γ es).bind λfs=>(match Γ.look x with
  |.fn g=>some (z8 g fs)
  |.mk c true g=>some (eMk c g fs)
  |_=>none))
 |_=>none
theorem Uz{D:DP}:EOk D z2N:=by
 intro r H X W Γ k e d C h
 unfold z2N at h
 split at h
 ·rename_i x p0 es pos
  obtain⟨hb,h⟩:=zo h
  simp only[Bool.and_eq_true] at hb
  obtain⟨fs,h1,h⟩:=bnd h
  cases hl:Γ.look x with
  |fn g=>
   simp only[hl] at h
   cases h
   obtain⟨hx,hg⟩:=qC hl (by intro z;cases z)
   exact z16 C hx hg hb.2 (wt H C h1)
  |mk c z g=>
   cases z with
   |true=>
    simp only[hl] at h
    cases h
    obtain⟨hx,hg⟩:=qC hl (by intro z;cases z)
    exact z13 C hx hg hb.2 (wt H C h1)
   |false=>simp[hl] at h
  |_=>simp[hl] at h
 ·cases h
noncomputable def rB1 (nm:Str)(op:T->Mem->RE T)(cl:Bool):ER:=λr Γ e=>match e with
 |.Call (.Name x _) [a] [] _=>gd (x == nm&&(idx Γ.N x).isNone&&noStar a&&(!cl || Γ.calm)) ((r.e Γ a).bind λf=>(match Γ.look x with
  |.none=>some (eB1 op f)
  |_=>none))
 |_=>none
theorem QG{D:DP}{nm:Str}{op:T->Mem->RE T}{cl:Bool}(H1:∀{X:Cx} {W:XW} {Γ:Cn} {k:Nat} {a:Expr} {f:De} {p0 pos:Pos},Ck D W Γ X k->nm∈Γ.G->Γ.gl nm=.none->(cl=true->Γ.calm=true)->noStar a=true->PE X a (rdE D W f)->PE X (.Call (.Name nm p0) [a] [] pos) (rdE D W (eB1 op f))):EOk D (rB1 nm op cl):=by
 intro r H X W Γ k e d C h
 unfold rB1 at h
 split at h
 ·rename_i x p0 a pos
  have hh:=zo h
  clear h
  obtain⟨hb,h⟩:=hh
  simp only[Bool.and_eq_true,beq_iff_eq,Bool.or_eq_true,Bool.not_eq_true'] at hb
  obtain⟨⟨⟨rfl,h2⟩,h3⟩,h4⟩:=hb
  obtain⟨f,h1,h⟩:=bnd h
  cases hl:Γ.look x with
  |none=>
   simp only[hl] at h
   cases h
   obtain⟨hx,hg⟩:=qC hl (by intro z;cases z)
   exact H1 C hx hg (λz=>h4.resolve_left (by rw[z];simp)) h3 (H.e C h1)
  |_=>simp[hl] at h
 ·cases h
noncomputable def z5K:ER:=rB1 "len" vF false
theorem z0D{D:DP}:EOk D z5K:=QG λC hx hg _ hs ha=>Xz C hx hg boot_len (by decide) hs z5H ha
noncomputable def z1o:ER:=rB1 "list" Jq false
theorem Y7{D:DP}:EOk D z1o:=QG λC hx hg _ hs ha=>z5x C hx hg (by decide +kernel) (by decide) hs z2O ha
noncomputable def z5r:ER:=rB1 "all" K4 true
theorem z0w{D:DP}:EOk D z5r:=QG λC hx hg hc hs ha=>Xz C hx hg boot_all (by decide) hs (z5b (C.clm (hc rfl))) ha
noncomputable def z2m:ER:=λr Γ e=>match e with
 |.Call (.Name x _) [a,c] [] _=>gd (x == ("isinstance":Str)&&(idx Γ.N x).isNone&&noStar a) ((r.e Γ a).bind λf=>(uk Γ c).bind λcs=>(match Γ.look x with
  |.none=>some (vW cs f)
  |_=>none))
 |_=>none
theorem UU{D:DP}:EOk D z2m:=by
 intro r H X W Γ k e d C h
 unfold z2m at h
 split at h
 ·rename_i x p0 a c pos
  have hh:=zo h
  clear h
  obtain⟨hb,h⟩:=hh
  simp only[Bool.and_eq_true,beq_iff_eq] at hb
  obtain⟨⟨rfl,h2⟩,h3⟩:=hb
  obtain⟨f,h1,h⟩:=bnd h
  obtain⟨cs,h4,h⟩:=bnd h
  cases hl:Γ.look "isinstance" with
  |none=>
   simp only[hl] at h
   cases h
   obtain⟨hx,hg⟩:=qC hl (by intro z;cases z)
   exact z3e C hx hg h3 h4 (H.e C h1)
  |_=>simp[hl] at h
 ·cases h
noncomputable def rM1 (nm:Str)(cb:De->De->De):ER:=λr Γ e=>match e with
 |.Call (.Attribute o m pa) [a] [] pc=>gd (m == nm&&zL o&&noStar a&&pa.endLine == pc.line) ((r.e Γ o).bind λf=>(r.e Γ a).bind λg=>some (cb f g))
 |_=>none
theorem YN{D:DP}{nm:Str}{cb:De->De->De}(H1:∀{X:Cx} {W:XW} {Γ:Cn} {k:Nat} {o a:Expr} {f g:De} {pa pc:Pos},Ck D W Γ X k->zL o=true->noStar a=true->(pa.endLine == pc.line)=true->PE X o (rdE D W f)->PE X a (rdE D W g)->PE X (.Call (.Attribute o nm pa) [a] [] pc) (rdE D W (cb f g))):EOk D (rM1 nm cb):=by
 intro r H X W Γ k e d C h
 unfold rM1 at h
 split at h
 ·have hh:=zo h
  clear h
  obtain⟨hb,h⟩:=hh
  simp only[Bool.and_eq_true] at hb
  obtain⟨⟨⟨h0,h2⟩,h3⟩,h4⟩:=hb
  have h0:=beq_iff_eq.mp h0
  subst h0
  obtain⟨f,h1,h⟩:=bnd h
  obtain⟨g,h5,h⟩:=bnd h
  cases h
  exact H1 C h2 h3 h4 (H.e C h1) (H.e C h5)
 ·cases h
noncomputable def z4K:ER:=rM1 "append" We
theorem z0Y{D:DP}:EOk D z4K:=YN λC hp hs hl ho ha=>z3A hp hs hl ho ha
noncomputable def z1W (r:Rec)(Γ:Cn)(elt tg iter:Expr)(ifs:List Expr)(sc:Scope)(mk:Nat->List Nat->Tg->Di->List Dt->De->De):Option De:=
 gd (Γ.calm&&WR Γ.N Γ.cel tg sc&&w9 iter&&YZ tg iter) ((xQ Γ.N (frees sc)).bind λfs=>(w5 (z5 tg++frees sc) tg).bind λtgt=>(r.i Γ iter).bind λfi=>(zf (r.t (inComp Γ tg sc)) ifs).bind λcs=>(r.e (inComp Γ tg sc) elt).bind λfe=>some (mk (z5 tg).length fs tgt fi cs fe))
theorem Jw{r:Rec}{Γ:Cn}{elt tg iter:Expr}{ifs:List Expr}{sc:Scope}{mk:Nat->List Nat->Tg->Di->List Dt->De->De}{d:De}(h:z1W r Γ elt tg iter ifs sc mk=some d) :
  ∃fs tgt fi cs fe,Γ.calm=true/\CompOk Γ.N Γ.cel tg sc/\(w9 iter=true/\YZ tg iter=true)/\xQ Γ.N (frees sc)=some fs/\w5 (z5 tg++frees sc) tg=some tgt/\r.i Γ iter=some fi/\zf (r.t (inComp Γ tg sc)) ifs=some cs/\r.e (inComp Γ tg sc) elt=some fe/\d=mk (z5 tg).length fs tgt fi cs fe:=by
 obtain⟨hb,h⟩:=zo h
 simp only[Bool.and_eq_true] at hb
 obtain⟨fs,h1,h⟩:=bnd h
 obtain⟨tgt,h2,h⟩:=bnd h
 obtain⟨fi,h3,h⟩:=bnd h
 obtain⟨cs,h4,h⟩:=bnd h
 obtain⟨fe,h5,h⟩:=bnd h
 cases h
 exact⟨fs,tgt,fi,cs,fe,hb.1.1.1,KL hb.1.1.2,⟨hb.1.2,hb.2⟩,h1,h2,h3,h4,h5,rfl⟩
noncomputable def YJ:ER:=λr Γ e=>match e with
 |.ListComp elt [⟨tg,iter,ifs,z⟩] sc _=>gd (z == 0) (z1W r Γ elt tg iter ifs sc qL)
 |_=>none
theorem Xr{D:DP}:EOk D YJ:=by
 intro r H X W Γ k e d C h
 unfold YJ at h
 split at h
 ·have hh:=zo h
  clear h
  obtain⟨hz,h⟩:=hh
  have hz:=beq_iff_eq.mp hz
  subst hz
  obtain⟨fs,tgt,fi,cs,fe,h1,h2,h3,h4,h5,h6,h7,h8,rfl⟩:=Jw h
  exact JG C h1 h2 h4 h5 (H.i C h3.2 h6) (λX' W' C'=>H.e C' h8) (λX' W' C'=>k8 H C' h7) (QY h3.1)
 ·cases h
noncomputable def z1D:TR:=λr Γ e=>match e with
 |.Name _ _=>(r.e Γ e).bind λf=>some (tE f)
 |.Call _ _ _ _=>(r.e Γ e).bind λf=>some (tE f)
 |.Subscript _ _ _=>(r.e Γ e).bind λf=>some (tE f)
 |.Attribute _ _ _=>(r.e Γ e).bind λf=>some (tE f)
 |.Compare a ops es _=>(z2X r Γ a ops es).bind λf=>some (tE f)
 |.UnaryOp op a _=>(match op with
  |.Not=>(r.t Γ a).bind λf=>some (zQ f)
  |_=>none)
 |.BoolOp _ _ _=>r.w Γ e
 |_=>none
theorem Yn{D:DP}:TOk D z1D:=by
 intro r H X W Γ k e d C h
 cases e with
 |Name x p=>
  obtain⟨f,h1,h⟩:=bnd h
  cases h
  exact Jz (H.e C h1) λ_=>rfl
 |Call f args kws p=>
  obtain⟨f,h1,h⟩:=bnd h
  cases h
  exact Jz (H.e C h1) λ_=>rfl
 |Subscript a b p=>
  obtain⟨f,h1,h⟩:=bnd h
  cases h
  exact Jz (H.e C h1) λ_=>rfl
 |Attribute a b p=>
  obtain⟨f,h1,h⟩:=bnd h
  cases h
  exact Jz (H.e C h1) λ_=>rfl
 |Compare a ops es p=>
  obtain⟨f,h1,h⟩:=bnd h
  cases h
  exact (JB H C h1).2
 |UnaryOp op a p=>
  cases op with
  |Not=>
   obtain⟨f,h1,h⟩:=bnd h
   cases h
   exact z3w (H.t C h1)
  |_=>cases h
 |BoolOp op es p=>exact (H.w C h).pt
 |_=>cases h
noncomputable def Xd:TR:=λr Γ e=>match e with
 |.BoolOp op es p=>(match es with
  |[a]=>r.t Γ a
  |a::b::l=>(r.t Γ a).bind λf=>(r.w Γ (.BoolOp op (b::l) p)).bind λg=>some (match op with|.And=>vj f g|.Or=>tOr f g)
  |[]=>none)
 |_=>none
theorem JX{D:DP}:WOk D Xd:=by
 intro r H X W Γ k e d C h
 cases e with
 |BoolOp op es p=>
  match es with
  |[]=>cases h
  |[a]=>
   cases op with
   |And=>exact z0p (H.t C h)
   |Or=>exact z1J (H.t C h)
  |a::b::l=>
   obtain⟨f,h1,h⟩:=bnd h
   obtain⟨g,h2,h⟩:=bnd h
   cases h
   cases op with
   |And=>exact z3v (H.t C h1) (H.w C h2)
   |Or=>exact z5C (H.t C h1) (H.w C h2)
 |_=>cases h
noncomputable def XQ:IR:=λr Γ e=>match e with
 |.Call (.Name x _) as [] _=>gd (x == ("range":Str)&&(idx Γ.N x).isNone&&as.all noStar) (match Γ.look x with
  |.none=>(match as with
   |[a]=>(r.e Γ a).bind λf=>some (Kt f)
   |[a,b]=>(r.e Γ a).bind λf=>(r.e Γ b).bind λg=>some (V_ f g)
   |[a,b,c]=>(r.e Γ a).bind λf=>(r.e Γ b).bind λg=>(r.e Γ c).bind λh=>some (z1x f g h)
   |_=>none)
  |_=>none)
 |_=>none
theorem Xe{D:DP}:IOk D XQ:=by
 intro r H X W Γ k tg e d C ht h
 unfold XQ at h
 split at h
 ·rename_i x p0 as pos
  have hh:=zo h
  clear h
  obtain⟨hb,h⟩:=hh
  simp only[Bool.and_eq_true] at hb
  obtain⟨⟨h0,h2⟩,h3⟩:=hb
  have h0:=beq_iff_eq.mp h0
  subst h0
  cases hl:Γ.look "range" with
  |none=>
   obtain⟨hx,hg⟩:=qC hl (by intro z;cases z)
   simp only[hl] at h
   match as with
   |[]=>cases h
   |[a]=>
    simp only[List.all_cons,Bool.and_eq_true] at h3
    obtain⟨f,h1,h⟩:=bnd h
    cases h
    exact YY C hx hg h3.1 (H.e C h1)
   |[a,b]=>
    simp only[List.all_cons,Bool.and_eq_true] at h3
    obtain⟨f,h1,h⟩:=bnd h
    obtain⟨g,h4,h⟩:=bnd h
    cases h
    exact KS C hx hg h3.1 h3.2.1 (H.e C h1) (H.e C h4)
   |[a,b,c]=>
    simp only[List.all_cons,Bool.and_eq_true] at h3
    obtain⟨f,h1,h⟩:=bnd h
    obtain⟨g,h4,h⟩:=bnd h
    obtain⟨g2,h5,h⟩:=bnd h
    cases h
    exact K9 C hx hg h3.1 h3.2.1 h3.2.2.1 (H.e C h1) (H.e C h4) (H.e C h5)
   |_::_::_::_::_=>cases h
  |_=>simp[hl] at h
 ·cases h
noncomputable def riE:IR:=λr Γ e=>(r.e Γ e).bind λf=>some (iE f)
theorem z2f{D:DP}:IOk D riE:=by
 intro r H X W Γ k tg e d C ht h
 obtain⟨f,h1,h⟩:=bnd h
 cases h
 exact z14 (H.e C h1)
noncomputable def z1l:ER:=λr Γ e=>match e with
 |.List es _=>gd (decide (es.length<=room)) ((cEs r Γ es).bind λfs=>some (KD fs))
 |_=>none
theorem Uj{D:DP}:EOk D z1l:=by
 intro r H X W Γ k e d C h
 cases e with
 |List es p=>
  obtain⟨hl,h⟩:=zo h
  obtain⟨fs,h1,h⟩:=bnd h
  cases h
  exact z24 (of_decide_eq_true hl) (wt H C h1)
 |_=>cases h
noncomputable def roE:ER:=λr Γ e=>r.e Γ e
theorem z22{D:DP}:EOk D roE:=λr H _ _ _ _ _ _ C h=>H.e C h
end NH
end
section
namespace NH
open PySem PySem.Spec PyProof.Rows L2
noncomputable def K2 (r:Rec)(Γ:Cn)(x:Str)(e:Expr):Option De:=match Γ.own.contains x with
 |true=>r.o Γ e
 |false=>r.e Γ e
theorem Qy{D:DP}{r:Rec}{X:Cx}{W:XW}{Γ:Cn}{k:Nat}(H:RecOk D r)(C:Ck D W Γ X k){x:Str}{e:Expr}{d:De}(h:K2 r Γ x e=some d):PE X e (rdE D W d):=by
 unfold K2 at h
 cases q:Γ.own.contains x with
 |true=>rw[q] at h;exact H.o C h
 |false=>rw[q] at h;exact H.e C h
noncomputable def z1I:SR:=λr Γ s=>match s with
 |.Return o _=>(match o with
  |some e=>(K2 r Γ "return" e).bind λf=>some (zj f)
  |none=>some YK)
 |_=>none
theorem Xc{D:DP}:SOk D z1I:=by
 intro r H X W Γ k e d C h
 cases e with
 |Return o p=>
  cases o with
  |none=>cases h;exact z0L
  |some e=>
   obtain⟨f,h1,h⟩:=bnd h
   cases h
   exact z2E (Qy H C.toCk h1)
 |_=>cases h
noncomputable def isCall:Expr->Bool
 |.Call _ _ _ _=>true
 |.Constant _ _ _=>true
 |_=>false
noncomputable def z1s:SR:=λr Γ s=>match s with
 |.Expr e _=>gd (isCall e) ((r.e Γ e).bind λf=>some (zI f))
 |_=>none
theorem Yi{D:DP}:SOk D z1s:=by
 intro r H X W Γ k e d C h
 cases e with
 |Expr e p=>
  obtain⟨hb,h⟩:=zo h
  obtain⟨f,h1,h⟩:=bnd h
  cases h
  exact z0N (by cases e<;>first|(simp[isCall] at hb;done)|rfl) (H.e C.toCk h1)
 |_=>cases h
noncomputable def z4D:SR:=λr Γ s=>match s with
 |.If c a b _=>(r.t Γ c).bind λt=>(zf (r.s Γ) a).bind λus=>(zf (r.s Γ) b).bind λvs=>some (sIf t us vs)
 |_=>none
theorem UL{D:DP}:SOk D z4D:=by
 intro r H X W Γ k e d C h
 cases e with
 |If c a b p=>
  obtain⟨t,h1,h⟩:=bnd h
  obtain⟨us,h2,h⟩:=bnd h
  obtain⟨vs,h3,h⟩:=bnd h
  cases h
  exact z5O (H.t C.toCk h1) (vP H C h2) (vP H C h3)
 |_=>cases h
noncomputable def Qi:Expr->Bool
 |.ListComp _ _ _ _=>true
 |.SetComp _ _ _ _=>true
 |.DictComp _ _ _ _ _=>true
 |_=>false
noncomputable def z57 (r:Rec)(Γ:Cn)(t e:Expr):Option Ds:=match t with
 |.Name x _=>(idx Γ.N x).bind λi=>(match e with
  |.ListComp elt gs sc _=>(match gs with
   |[g]=>gd (g.is_async == 0) ((z1W r Γ elt g.target g.iter g.ifs sc (match Γ.own.contains x with|true=>kO|false=>qL)).bind λf=>some (zq i f))
   |_=>none)
  |e=>gd (!Qi e) ((K2 r Γ x e).bind λf=>some (zq i f)))
 |.Tuple es _ _=>gd (Γ.calm&&jL e) ((idxs Γ.N es).bind λis=>(r.e Γ e).bind λf=>some (z2Z is f))
 |.Attribute o x _=>(Γ.fld.lookup x).bind λn=>(K2 r Γ x e).bind λf=>(r.e Γ o).bind λgo=>some (qb go n f)
 |.Subscript o b _=>gd (qo b) ((r.e Γ e).bind λf=>(r.e Γ o).bind λgo=>(r.e Γ b).bind λgb=>some (z5j go gb f))
 |_=>none
noncomputable def z1i:SR:=λr Γ s=>match s with
 |.Assign ts e _=>(match ts with
  |[t]=>z57 r Γ t e
  |_=>none)
 |_=>none
theorem z0z{D:DP}{r:Rec}(H:RecOk D r){X:Cx}{W:XW}{Γ:Cn}{k:Nat}{t e:Expr}{pos:Pos}{d:Ds}(C:Sk D W Γ X k)(h:z57 r Γ t e=some d):PS X (.Assign [t] e pos) (rdS D W d):=by
 cases t with
 |Name x p=>
  obtain⟨i,hi,h⟩:=bnd h
  have gen:Qi e=false->gd (!Qi e) ((K2 r Γ x e).bind λf=>some (zq i f))=some d->PS X (.Assign [.Name x p] e pos) (rdS D W d):=λhc h=>by
   obtain⟨_,h⟩:=zo h
   obtain⟨f,h1,h⟩:=bnd h
   cases h
   exact Up C hi (by cases e<;>first|(simp[Qi] at hc;done)|rfl) (Qy H C.toCk h1)
  cases e with
  |ListComp elt gs sc pc=>
   match gs with
   |[]=>cases h
   |_::_::_=>cases h
   |[⟨tg,iter,ifs,z⟩]=>
    have hh:=zo h
    clear h gen
    obtain⟨hz,h⟩:=hh
    have hz:z=0:=beq_iff_eq.mp hz
    subst hz
    obtain⟨f,h1,h⟩:=bnd h
    cases h
    obtain⟨fs,tgt,fi,cs,fe,q1,q2,q3,q4,q5,q6,q7,q8,rfl⟩:=Jw h1
    have he:(match Γ.own.contains x with|true=>kO|false=>qL) (z5 tg).length fs tgt fi cs fe=(match Γ.own.contains x with|true=>kO (z5 tg).length fs tgt fi cs fe|false=>qL (z5 tg).length fs tgt fi cs fe):=by cases Γ.own.contains x<;>rfl
    have key:∀bb,swapsWith (.ListComp elt [⟨tg,iter,ifs,0⟩] sc pc) (some (.Name x p)) pos.line X.env=pure bb->PS X (.Assign [.Name x p] (.ListComp elt [⟨tg,iter,ifs,0⟩] sc pc) pos) (rdS D W (zq i (match Γ.own.contains x with|true=>kO (z5 tg).length fs tgt fi cs fe|false=>qL (z5 tg).length fs tgt fi cs fe))):=λbb hsw=>by
     cases bb with
     |true=>exact UZ C q1 hi q2 q4 q5 (H.i C.toCk q3.2 q6) (λX' W' C'=>H.e C' q8) (λX' W' C'=>k8 H C' q7) (QY q3.1) _ hsw
     |false=>
      refine Up C hi hsw ?_
      cases Γ.own.contains x with
      |true=>exact YA C.toCk q1 q2 q4 q5 (H.i C.toCk q3.2 q6) (λX' W' C'=>H.e C' q8) (λX' W' C'=>k8 H C' q7) (QY q3.1)
      |false=>exact JG C.toCk q1 q2 q4 q5 (H.i C.toCk q3.2 q6) (λX' W' C'=>H.e C' q8) (λX' W' C'=>k8 H C' q7) (QY q3.1)
    rw[he]
    exact key _ rfl
  |SetComp _ _ _ _=>cases h
  |DictComp _ _ _ _ _=>cases h
  |_=>exact gen rfl h
 |Tuple es kk p=>
  obtain⟨hb,h⟩:=zo h
  simp only[Bool.and_eq_true] at hb
  obtain⟨is,h1,h⟩:=bnd h
  obtain⟨f,h2,h⟩:=bnd h
  cases h
  exact z3G C hb.1 hb.2 h1 (H.e C.toCk h2)
 |Attribute o x p=>
  obtain⟨n,h1,h⟩:=bnd h
  obtain⟨f,h2,h⟩:=bnd h
  obtain⟨go,h3,h⟩:=bnd h
  cases h
  exact z3l C (lookup_mem h1) (Qy H C.toCk h2) (H.e C.toCk h3)
 |Subscript o b p=>
  obtain⟨hb,h⟩:=zo h
  obtain⟨f,h1,h⟩:=bnd h
  obtain⟨go,h2,h⟩:=bnd h
  obtain⟨gb,h3,h⟩:=bnd h
  cases h
  exact z46 C hb (H.e C.toCk h1) (H.e C.toCk h2) (H.e C.toCk h3)
 |_=>cases h
theorem YE{D:DP}:SOk D z1i:=by
 intro r H X W Γ k e d C h
 cases e with
 |Assign ts e p=>
  match ts with
  |[]=>cases h
  |[t]=>exact z0z H C h
  |_::_::_=>cases h
 |_=>cases h
noncomputable def z1A:SR:=λr Γ s=>match s with
 |.For tg it b els _=>gd (Γ.calm&&w9 it&&els.isEmpty&&YZ tg it) ((w5 Γ.N tg).bind λtgt=>(r.i Γ it).bind λfi=>(zf (r.s Γ) b).bind λvs=>some (kR tgt fi vs))
 |_=>none
theorem YM{D:DP}:SOk D z1A:=by
 intro r H X W Γ k e d C h
 cases e with
 |For tg it b els p=>
  obtain⟨hb,h⟩:=zo h
  simp only[Bool.and_eq_true] at hb
  obtain⟨tgt,h1,h⟩:=bnd h
  obtain⟨fi,h2,h⟩:=bnd h
  obtain⟨vs,h3,h⟩:=bnd h
  cases h
  cases els with
  |nil=>exact z3W C hb.1.1.1 h1 (H.i C.toCk hb.2 h2) (vP H C h3) (QY hb.1.1.2)
  |cons _ _=>simp at hb
 |_=>cases h
noncomputable def z1m:SR:=λr Γ s=>match s with
 |.While c b els _=>gd els.isEmpty ((r.t Γ c).bind λt=>(zf (r.s Γ) b).bind λvs=>some (Qk t vs))
 |_=>none
theorem U0{D:DP}:SOk D z1m:=by
 intro r H X W Γ k e d C h
 cases e with
 |While c b els p=>
  obtain⟨hb,h⟩:=zo h
  obtain⟨t,h1,h⟩:=bnd h
  obtain⟨vs,h3,h⟩:=bnd h
  cases h
  cases els with
  |nil=>exact XT C (H.t C.toCk h1) (vP H C h3)
  |cons _ _=>simp at hb
 |_=>cases h
noncomputable def XJ:SR:=λr Γ s=>match s with
 |.Raise (some (.Call (.Name x _) (a::as) [] _)) none _=>gd (Γ.calm&&(idx Γ.N x).isNone) ((cEs r Γ (a::as)).bind λfs=>(match Γ.look x with
  |.xcl c=>some (zy c fs)
  |_=>none))
 |_=>none
theorem YF{D:DP}:SOk D XJ:=by
 intro r H X W Γ k e d C h
 unfold XJ at h
 split at h
 ·rename_i x p0 a as p1 p2
  obtain⟨hb,h⟩:=zo h
  simp only[Bool.and_eq_true] at hb
  obtain⟨fs,h1,h⟩:=bnd h
  cases hl:Γ.look x with
  |xcl c=>
   simp only[hl] at h
   cases h
   obtain⟨hx,hg⟩:=qC hl (by intro z;cases z)
   exact Yu C hb.1 hx hg (wt H C.toCk h1)
  |_=>simp[hl] at h
 ·cases h
structure MdOk(D:DP)(P:Program)(w:World)(K:PySem.W.Frag)(mg:Str->Option Value)(base:Heap)(Γ:Cn)(k:Nat):Prop where
 hK:K=D.K
 glo:∀x∈Γ.U,GlOkM D P w K mg base k x (Γ.gl x)/\(x == ("__debug__":Str))=false
 isi:∀t x c,(x,c)∈Γ.cls->∀u v,WH D t u->yD mg x v->PySem.W.kitOne K u v=some (jT t c)
 fld:∀c C x f,D.cad c=some C->(x,f)∈Γ.fld->D.fn f=some x/\Cls K C/\NoAttr K C x
 xcx:∀c C,D.adr c=some C->XCls K C
 ocx:∀c C,D.cad c=some C->OCls K C
 clv:∀x c,(x,c)∈Γ.cls->∃u v,yD mg x u/\ClsV v u
 xmt:∀t x c,(x,c)∈Γ.cls->c<40->∀Ct Cc,D.adr t=some Ct->mg x=some (.ref Cc)->PySem.W.exmOne K (.ref Ct) (.ref Cc)=some (jT t c)
noncomputable def xR(Γ:Cn)(ps:List Str)(sc:Scope):Bool:=
 (sc.kind == .function)&&!sc.isCoroutine&&!sc.isGenerator&&decide (Γ.N.Nodup)&&(Γ.N.take ps.length == ps)&&sc.names.all (λy=>y.2 != .free)&&
 Γ.N.all (λx=>x != ("__debug__":Str)&&x != ("__classdict__":Str)&&(if Γ.cel.contains x then sc.names.lookup x == some .cell else sc.names.lookup x == some .local))&&
 Γ.G.all (λx=>Γ.U.contains x&&sc.names.lookup x == some .globalImplicit)&&Γ.cel.all (λx=>Γ.N.contains x)&&Γ.calm
theorem Zh{X:Cx}{W:XW}{e:Value}{s:Shared}(p:XP X W e s):X.A.frames=some X.stack:=by
 obtain⟨_,_,_,_,_,_,_,_,I,_⟩:=p
 exact I.ok.frames
theorem Jh:∀(ts:List T) (n:Nat),z1f ts n=ts.map some++List.replicate n none
 |[],n=>by
  have:∀n,pad n=List.replicate n none:=λn=>by
   induction n with
   |zero=>rfl
   |succ n ih=>show none::pad n=_;rw[ih];rfl
  exact this n
 |t::r,n=>by show some t::z1f r n=_;rw[Jh r n];rfl
section
variable {D:DP}{P:Program}{w:World}{K:PySem.W.Frag}{mg:Str->Option Value}{base:Heap}{Γ:Cn}{k n:Nat}
theorem VN{φ α:List Addr}{H:Hp}{N:List Str}{ts:List T}{vs:List V}(d:DenL D φ α H ts vs):SRel D φ α H (z1f ts (N.length-ts.length)) (L2.start N vs):=by
 have hl:=d.length
 rw[Jh]
 refine⟨by simp[L2.start,hl],λi t e=>?_⟩
 by_cases hi:i<ts.length
 ·rw[List.getElem?_append_left (by simpa using hi),List.getElem?_map] at e
  cases q:ts[i]? with
  |none=>rw[q] at e;cases e
  |some t'=>
   rw[q] at e
   have e:some (some t')=some (some t):=e
   cases e
   obtain⟨v,hv,dv⟩:=d.get q
   refine⟨v,?_,dv⟩
   unfold L2.start
   rw[List.getElem?_append_left (by rw[List.length_map,←hl];exact hi),List.getElem?_map,hv]
   rfl
 ·rw[List.getElem?_append_right (by simpa using hi),List.getElem?_replicate] at e
  split at e<;>cases e
theorem vg{R:Rules}(HR:RulesOk D R){f:Addr}{name qual:Str}{params:Arguments}{body:List Stmt}{scope:Scope}{dV kV doc pm cdv ct oc:Value}{an od:Option Addr}{osl:Array (Option Value)}{ps:List Str}{m:Nat}{ds:List Ds}
    (M:MdOk D P w K mg base Γ k) (lk:K.lookup f=some ⟨oc,od,.func (PySem.W.fnOf name qual params body scope dV kV doc pm an cdv ct),osl⟩) (hcd:PySem.W.codeIn K cdv qual=true) (hs:xR Γ ps scope=true) (hm:Γ.N.length=ps.length+m) (hds:zf ((comp R n).s Γ) body=some ds) (hlam:LamOk D mg base cdv (qual++".<locals>.") k Γ.lam:=by exact LamOk.no rfl) :
    FnOk P w K mg base (CX1 P w) (k+1) f (PySem.W.fnOf name qual params body scope dV kV doc pm an cdv ct) ps (spN D ps.length (fnW ps.length m ds)):=by
  simp only[xR,Bool.and_eq_true,List.all_eq_true,beq_iff_eq,Bool.not_eq_true',decide_eq_true_eq,bne_iff_ne,ne_eq] at hs
  obtain⟨⟨⟨⟨⟨⟨⟨⟨⟨h1,h2⟩,h3⟩,h4⟩,h5⟩,h6⟩,h7⟩,h8⟩,h9⟩,h10⟩:=hs
  have kin:∀x∈Γ.N,(Γ.cel.contains x=true/\scope.names.lookup x=some .cell)\/(Γ.cel.contains x=false/\scope.names.lookup x=some .local):=λx hx=>by
    have q:=(h7 x hx).2
    cases hc:Γ.cel.contains x with
    |true=>rw[hc,if_pos rfl] at q;exact .inl ⟨rfl,beq_iff_eq.mp q⟩
    |false=>rw[hc] at q;exact .inr ⟨rfl,beq_iff_eq.mp q⟩
  have loc:∀x∈Γ.N,scope.names.lookup x=some .local\/scope.names.lookup x=some .cell:=λx hx=>(kin x hx).elim (λz=>.inr z.2) λz=>.inl z.2
  have S:FnScope Γ.N ps scope:=⟨h1,h2,h3,h4,h5,λx hx=>loc x (by rw[←h5] at hx;exact List.mem_of_mem_take hx),h6⟩
  refine z1H lk hcd S (λvs H Q E q=>q.1) λA outer s H vs Q E hr hsp=>?_
  obtain⟨hl,φ,α,ts,μ,d,mr,K0,Z0,⟨hle,q⟩,hk0,hz0⟩:=hsp
  generalize hX:WQ (CX1 P w) P w K mg base Γ.N qual scope f cdv A outer s H E=X
  have F:Frm X (envOfC qual scope s.heap.objs.size f cdv) outer s.heap.objs.size:=by rw[←hX];exact⟨rfl,rfl,rfl⟩
  have C:Sk D (wOf E) Γ (X.wish (XP X (wOf E))) k:=by
    have xe:∀e s,XP (X.wish (XP X (wOf E))) (wOf E) e s->XP X (wOf E) e s:=λe s p=>Zq p
    have pso:PassesOwn (model X.prog X.w) X.A X.env (XP X (wOf E)):=λe s p=>Ks F (Zh p) e s p
    subst hX
    exact { hK := M.hK,hN := rfl,nd := h4,vis := fun x hx => (loc x hx).elim .inl fun z => .inr (.inl z),dbg := fun x hx => ⟨beq_eq_false_iff_ne.mpr (h7 x hx).1.1,beq_eq_false_iff_ne.mpr (h7 x hx).1.2⟩,
            dbG:=λx hx=>(M.glo x (by simpa using (h8 x hx).1)).2,glb:=λx hx=>(h8 x hx).2,glo:=λx hx=>(M.glo x (by simpa using (h8 x hx).1)).1,glU:=M.glo,
            cel:=λx hx=>.inl ((kin x (by simpa using h9 x hx)).elim (λz=>z.2) λz=>by have:=z.1;rw[List.contains_iff_mem.mpr hx] at this;cases this),
            isi:=M.isi,fld:=M.fld,xcx:=M.xcx,ocx:=M.ocx,clv:=M.clv,clm:=λ_=>rfl,rom:=λ_=>hr,rmh:=⟨hr.dp,hr.un⟩,xe:=xe,frm:=⟨_,_,_,F.stk,F.f0,F.fe⟩,lam:=hlam,
            sto:=λx hx=>⟨loc x hx,.inl rfl⟩,lcl:=λx hx hc=>(kin x hx).elim (λz=>by rw[z.1] at hc;cases hc) λz=>z.2,pso:=pso,xmt:=M.xmt}
  have B:PSs X body (rdS D (wOf E) (w4 ds)):=λpins s1 σ1 H1 E1 I1 q=>by
    refine wpAny_mono (vS (vP (vn HR n) C hds) pins s1 σ1 H1 E1 (I1.wish _) q) (λf s' q=>q.unwish) λe s' p=>?_
    have p:XP X (wOf E) e s':=p
    have:=U1 (M:=model X.prog X.w) (F2:=λe' s''=>CX1 X.prog X.w X.outer X.H₀ X.s₀ E e' s'') F (Zh p) (by rw[←hX];rfl) p
    subst hX
    exact this
  have hmm:Γ.N.length-ts.length=m:=by omega
  refine⟨_,B,φ,α,_,μ,VN d,mr,{nx:=λ_ μ1=>K0 .non μ1,rt:=K0,bk:=λ_ _=>False,ct:=λ_ _=>False,ex:=λc fs _ μ1=>Z0 c fs μ1},by rw[hmm];exact q,λ_ μ1 z α' H' σ' st m _=>hk0 _ _ z α' H' st m .non rfl,λ_ _ z=>z.elim,λ_ _ z=>z.elim,λt μ1 z α' H' v st m dv=>hk0 _ _ z α' H' st m v dv,λc fs _ μ1 z α' H' σ' C1 dd st m _ ad xd=>hz0 c fs μ1 z α' H' C1 dd st m ad xd⟩
theorem qv{n m:Nat}{ds:List Ds}:∀ts μ K Z,fnW n m ds ts μ K Z->ts.length=n:=λ_ _ _ _ h=>h.1
end
end NH
end
section
namespace NH
open PySem PySem.Spec PyProof.Rows L2
noncomputable def WS:PySem.W.Frag->Bool
 |[]=>true
 |p::r=>(match p.2.cls with|.type t=>t != "list" | _=>true)&&WS r
theorem Jb:∀{K:PySem.W.Frag} {a:Addr} {o:Obj},WS K=true->K.lookup a=some o->o.cls≠.type "list"
 |[],_,_,_,h=>by cases h
 |(b,p)::r,a,o,hn,h=>by
  simp only[WS,Bool.and_eq_true] at hn
  rw[List.lookup_cons] at h
  cases q:a == b with
  |true=>
   rw[q] at h
   cases h
   intro e
   have h1:=hn.1
   rw[e] at h1
   exact absurd h1 (by decide)
  |false=>rw[q] at h;exact Jb hn.2 h
theorem Z9{D:DP}{φ α:List Addr}{H:Hp}:∀(ns:List Int),DenL D φ α H (ns.map T.int) (ns.map V.int)
 |[]=>rfl
 |n::r=>⟨.int n,r.map V.int,rfl,rfl,Z9 r⟩
noncomputable def FLD:List Str:=["moments","houses","counts","start","turns","holder","lease","until","is_cut","shape","grants","house","begin","end","ahead","stride","keeper","mark","newest","batches","has_fallen","clock","kept","common","given","now","seats","world","line","by"]
theorem z2K:FLD.Nodup:=by decide +kernel
structure Ads where
 xs:List (Nat×Addr)
 cs:List (Nat×Addr)
noncomputable def mkD (K:PySem.W.Frag)(A:Ads)(clo:Nat->Addr->Option HO->List V->Prop)(tabs:Nat->Option (Addr×List Pos×Str):=λ_=>none):DP:=⟨K,λc=>A.xs.lookup c,λc=>A.cs.lookup c,λi=>FLD[i]?,λi j x h1 h2=>uE z2K h1 h2,clo,tabs⟩
noncomputable def cn (cls fld:List (Str×Nat))(gs:List (Str×GM))(N G cel own:List Str)(lam:Option (Nat×List Pos):=none):Cn where
 N:=N
 G:=G
 calm:=true
 gl:=λx=>(gs.lookup x).getD .bad
 cls:=cls
 fld:=fld
 U:=gs.map (·.1)
 cel:=cel
 own:=own
 lam:=lam
noncomputable def tys(A:Ads):List (Nat×Value):=[(0,.type "NoneType"),(1,.type "bool"),(2,.type "int"),(3,.type "str"),(4,.type "tuple"),(5,.type "list"),(6,.type "dict")]++(A.xs.map λp=>(p.1,Value.ref p.2))++A.cs.map λp=>(p.1,Value.ref p.2)
noncomputable def Yt(K:PySem.W.Frag)(c:Str):Option Value:=match PySem.W.nsIn K mainGlobals c with
 |some (some v)=>some v
 |some none=>if c == ("__name__":Str) then none else bootBuiltins c
 |none=>none
noncomputable def z5E:Value->Bool
 |.ref _=>true
 |.type _=>true
 |_=>false
noncomputable def isC(o:Option (Option Value))(s:String):Bool:=match o with
 |some (some (.builtin x))=>x == s
 |_=>false
theorem yU{o:Option (Option Value)}{s:String}(h:isC o s=true):o=some (some (.builtin s)):=by
 unfold isC at h
 split at h
 ·rw[beq_iff_eq.mp h]
 ·cases h
noncomputable def Yz(o:Option (Option Value)):Bool:=match o with
 |some none=>true
 |_=>false
theorem QE{o:Option (Option Value)}(h:Yz o=true):o=some none:=by
 unfold Yz at h
 split at h
 ·rfl
 ·cases h
noncomputable def isB(o:Option Bool)(b:Bool):Bool:=match o with|some c=>c == b|none=>false
theorem yv{o:Option Bool}{b:Bool}(h:isB o b=true):o=some b:=by
 cases o with
 |none=>cases h
 |some c=>have:(c == b)=true:=h;rw[beq_iff_eq.mp this]
noncomputable def z0_ (K:PySem.W.Frag)(C:Addr):Bool:=isC (PySem.W.findIn K (.ref C) "__class__") "object.__class__"&&isC (PySem.W.specialIn K (.builtin "object.__class__") "__get__") "getset_descriptor.__get__"&&isB (PySem.W.takesIn K (.builtin "object.__class__")) true&&isB (PySem.W.mroIn K C (.type "object")) true
noncomputable def z1h(K:PySem.W.Frag)(C:Addr):Bool:=z0_ K C&&isC (PySem.W.findIn K (.ref C) "__getattribute__") "BaseException.__getattribute__"&&Yz (PySem.W.findIn K (.ref C) "__getattr__")&&isB (PySem.W.mroIn K C (.type "BaseException")) true&&(PySem.W.clsIn K C).isSome
noncomputable def YG(K:PySem.W.Frag)(C:Addr):Bool:=z0_ K C&&PySem.W.plainGet K C Str.empty&&PySem.W.hasDictIn K C&&PySem.W.plainOver K C&&isC (PySem.W.findIn K (.ref C) "__setattr__") "object.__setattr__"
noncomputable def chk (K:PySem.W.Frag)(A:Ads)(cls fld:List (Str×Nat)):Bool:=
 cls.all (λp=>match Yt K p.1 with
  |some v=>z5E v&&(tys A).all (λq=>isB (PySem.W.kitOne K q.2 v) (jT q.1 p.2))&&(Nat.ble 40 p.2 || (match v with|.ref C=>A.xs.all (λq=>isB (PySem.W.exmOne K (.ref q.2) (.ref C)) (jT q.1 p.2))|_=>true))
  |none=>false)&&
 A.xs.all (λq=>z1h K q.2)&&A.cs.all (λq=>YG K q.2&&fld.all (λp=>Yz (PySem.W.findIn K (.ref q.2) p.1)))&&fld.all (λp=>match FLD[p.2]? with|some x=>x == p.1|none=>false)
theorem yk{K:PySem.W.Frag}{h:Heap}{mg:Str->Option Value}{c:Str}{v:Value}(X:K.In h)(G:h.Ns mainGlobals mg)(e:Yt K c=some v):yD mg c v/\∀u,yD mg c u->u=v:=by
 unfold Yt at e
 split at e
 ·rename_i v' q
  cases e
  have m:=PySem.W.mg_of X G q
  refine⟨.inl m,λu z=>?_⟩
  rcases z with z|⟨z,_⟩
  ·rw[m] at z;cases z;rfl
  ·rw[m] at z;cases z
 ·rename_i q
  have m:=PySem.W.mg_none_of X G q
  split at e
  ·cases e
  ·rename_i hn
   refine⟨.inr ⟨m,e,λz=>hn (by rw[z];rfl)⟩,λu z=>?_⟩
   rcases z with z|⟨_,z,_⟩
   ·rw[m] at z;cases z
   ·rw[e] at z;cases z;rfl
 ·cases e
theorem zX{α β:Type}[BEq α][LawfulBEq α]{x:α}{v:β}:∀{l:List (α×β)},l.lookup x=some v->(x,v)∈l
 |[],h=>by cases h
 |(y,w)::r,h=>by
  rw[List.lookup_cons] at h
  cases q:x == y with
  |true=>rw[q] at h;cases h;rw[beq_iff_eq.mp q];exact List.mem_cons_self
  |false=>rw[q] at h;exact List.mem_cons_of_mem _ (zX h)
theorem lookup_some{α:Type}{x:Str}:∀{l:List (Str×α)},x∈l.map (·.1)->∃v,l.lookup x=some v
 |[],h=>by simp at h
 |(y,w)::r,h=>by
  rw[List.lookup_cons]
  cases q:x == y with
  |true=>exact⟨w,rfl⟩
  |false=>
   rcases List.mem_cons.mp h with z|z
   ·have z:x=y:=z
    rw[z] at q;simp at q
   ·exact lookup_some z
section
variable {P:Program}{w:World}{K:PySem.W.Frag}{mg:Str->Option Value}{base:Heap}{A:Ads}{clo:Nat->Addr->Option HO->List V->Prop}{cls fld:List (Str×Nat)}{gs:List (Str×GM)}{N G cel own:List Str}{k:Nat}{lam:Option (Nat×List Pos)}{tabs:Nat->Option (Addr×List Pos×Str)}
theorem z2w{t:Nat}{u:Value}(h:WH (mkD K A clo tabs) t u):(t,u)∈tys A:=by
 unfold tys
 rcases h with⟨rfl,rfl⟩|⟨rfl,rfl⟩|⟨rfl,rfl⟩|⟨rfl,rfl⟩|⟨rfl,rfl⟩|⟨rfl,rfl⟩|⟨C,h,rfl⟩|⟨rfl,rfl⟩|⟨C,h,rfl⟩
 ·simp
 ·simp
 ·simp
 ·simp
 ·simp
 ·simp
 ·exact List.mem_append_left _ (List.mem_append_right _ (List.mem_map.mpr ⟨(t,C),zX h,rfl⟩))
 ·simp
 ·exact List.mem_append_right _ (List.mem_map.mpr ⟨(t,C),zX h,rfl⟩)
noncomputable def GsOk (P:Program)(w:World)(K:PySem.W.Frag)(mg:Str->Option Value)(base:Heap)(A:Ads)(clo:Nat->Addr->Option HO->List V->Prop)(k:Nat)(gs:List (Str×GM))(tabs:Nat->Option (Addr×List Pos×Str):=λ_=>none):Prop:=∀p∈gs,GlOkM (mkD K A clo tabs) P w K mg base k p.1 p.2/\(p.1 == ("__debug__":Str))=false
theorem GlOkM.mono{D:DP}{j k:Nat}{x:Str}{g:GM}(h:j<=k)(q:GlOkM D P w K mg base j x g):GlOkM D P w K mg base k x g:=by
 cases g with
 |fn f=>obtain⟨fa,a,fd,ps,kk,b,c,d,r⟩:=q;exact⟨fa,a,fd,ps,kk,b,c,Nat.le_trans d h,r⟩
 |fnh nm f=>obtain⟨fa,a,fd,ps,kk,b,c,d,r⟩:=q;exact⟨fa,a,fd,ps,kk,b,c,Nat.le_trans d h,r⟩
 |met c nm f=>obtain⟨C,fI,fd,ps,kk,a,b,c,d,e,f1,r⟩:=q;exact⟨C,fI,fd,ps,kk,a,b,c,d,e,Nat.le_trans f1 h,r⟩
 |mk c z f=>obtain⟨C,fI,fd,ps,kk,a,b,c,d,e,r⟩:=q;exact⟨C,fI,fd,ps,kk,a,b,c,d,Nat.le_trans e h,r⟩
 |xin c f nm fl=>obtain⟨C,HE,fI,fd,ps,kk,a1,a2,a3,a4,a5,a6,r⟩:=q;exact⟨C,HE,fI,fd,ps,kk,a1,a2,a3,a4,a5,Nat.le_trans a6 h,r⟩
 |mkd c nm n f=>obtain⟨C,fI,fd,ps,kk,a,b,c,d,e,r⟩:=q;exact⟨C,fI,fd,ps,kk,a,b,c,d,Nat.le_trans e h,r⟩
 |metd c nm n d f=>obtain⟨C,fI,fd,ps,kk,du,dv,a1,a2,a3,a4,a5,a6,a7,a8,r⟩:=q;exact⟨C,fI,fd,ps,kk,du,dv,a1,a2,a3,a4,a5,a6,a7,Nat.le_trans a8 h,r⟩
 |kpr=>exact⟨λt φ α H v hj d=>let ⟨a,kk,h1,h2,h3⟩:=q.1 t φ α H v hj d;⟨a,kk,h1,Nat.le_trans h2 h,h3⟩,q.2⟩
 |_=>exact q
theorem GsOk.mono{j k:Nat}(h:j<=k)(q:GsOk P w K mg base A clo j gs tabs):GsOk P w K mg base A clo k gs tabs:=λp hp=>⟨(q p hp).1.mono h,(q p hp).2⟩
theorem GsOk.add {x:Str} {g:GM} (q:GsOk P w K mg base A clo k gs tabs) (h:GlOkM (mkD K A clo tabs) P w K mg base k x g) (hx:(x == ("__debug__":Str))=false):GsOk P w K mg base A clo k ((x,g)::gs) tabs:=λp hp=>by
 rcases List.mem_cons.mp hp with rfl|z
 ·exact⟨h,hx⟩
 ·exact q p z
noncomputable def Jd(bs:List Str)(xs:List (Str×Nat))(ys:List (Str×Nat×Nat)):List (Str×GM):=bs.map (λx=>(x,GM.none))++xs.map (λx=>(x.1,GM.xcl x.2))++ys.map (λx=>(x.1,GM.xcf x.2.1 x.2.2))
noncomputable def atA(K:PySem.W.Frag)(A:Ads)(x:Str)(c:Nat):Bool:=match A.xs.lookup c,PySem.W.nsIn K mainGlobals x with
 |some C,some (some (.ref C'))=>C == C'
 |_,_=>false
noncomputable def Xx(K:PySem.W.Frag)(A:Ads)(bs:List Str)(xs:List (Str×Nat))(ys:List (Str×Nat×Nat)):Bool:=
 bs.all (λx=>x != ("__debug__":Str)&&Yz (PySem.W.nsIn K mainGlobals x))&&
 xs.all (λx=>x.1 != ("__debug__":Str)&&atA K A x.1 x.2)&&ys.all (λx=>x.1 != ("__debug__":Str)&&atA K A x.1 x.2.1)
theorem Y0{x:Str}{c:Nat}(X:K.In base)(Gm:base.Ns mainGlobals mg)(h:atA K A x c=true):∃C,A.xs.lookup c=some C/\mg x=some (.ref C):=by
 unfold atA at h
 split at h
 ·rename_i C C' q1 q2
  have h:C=C':=beq_iff_eq.mp h
  subst h
  exact⟨C,q1,PySem.W.mg_of X Gm q2⟩
 ·cases h
noncomputable def XOkL (K:PySem.W.Frag)(A:Ads):List (Str×Nat)->Prop
 |[]=>True
 |p::r=>(∃C,A.xs.lookup p.2=some C/\PySem.W.excIn K C zC "ValueError.__new__"=true)/\XOkL K A r
theorem XOkL.at:∀{xs:List (Str×Nat)} {p:Str×Nat},XOkL K A xs->p∈xs->∀C,A.xs.lookup p.2=some C->PySem.W.excIn K C zC "ValueError.__new__"=true
 |q::r,p,h,hp,C,e=>by
  rcases List.mem_cons.mp hp with rfl|z
  ·obtain⟨C',e',x⟩:=h.1
   rw[e'] at e;cases e;exact x
  ·exact XOkL.at h.2 z C e
theorem VA{bs:List Str}{xs:List (Str×Nat)}{ys:List (Str×Nat×Nat)}(X:K.In base)(Gm:base.Ns mainGlobals mg)(h:Xx K A bs xs ys=true)(hX:XOkL K A xs):GsOk P w K mg base A clo k (Jd bs xs ys) tabs:=by
 simp only[Xx,Bool.and_eq_true,List.all_eq_true,bne_iff_ne,ne_eq] at h
 intro p hp
 rcases List.mem_append.mp hp with z|z
 ·rcases List.mem_append.mp z with z|z
  ·obtain⟨x,hx,rfl⟩:=List.mem_map.mp z
   obtain⟨h1,h2⟩:=h.1.1 x hx
   exact⟨PySem.W.mg_none_of X Gm (QE h2),beq_eq_false_iff_ne.mpr h1⟩
  ·obtain⟨x,hx,rfl⟩:=List.mem_map.mp z
   obtain⟨h1,h2⟩:=h.1.2 x hx
   obtain⟨C,q1,q2⟩:=Y0 X Gm h2
   exact⟨⟨C,q1,q2,XOkL.at hX hx C q1⟩,beq_eq_false_iff_ne.mpr h1⟩
 ·obtain⟨x,hx,rfl⟩:=List.mem_map.mp z
  obtain⟨h1,h2⟩:=h.2 x hx
  obtain⟨C,q1,q2⟩:=Y0 X Gm h2
  exact⟨⟨C,q1,q2⟩,beq_eq_false_iff_ne.mpr h1⟩
theorem yG(X:K.In base)(Gm:base.Ns mainGlobals mg)(hc:chk K A cls fld=true)(q:GsOk P w K mg base A clo k gs tabs):MdOk (mkD K A clo tabs) P w K mg base (cn cls fld gs N G cel own lam) k:=by
 simp only[chk,Bool.and_eq_true,List.all_eq_true] at hc
 obtain⟨⟨⟨c1,c2⟩,c3⟩,c4⟩:=hc
 have cb:∀{C},z0_ K C=true->PySem.W.findIn K (.ref C) "__class__"=some (some (.builtin "object.__class__"))/\PySem.W.specialIn K (.builtin "object.__class__") "__get__"=some (some (.builtin "getset_descriptor.__get__"))/\PySem.W.takesIn K (.builtin "object.__class__")=some true/\PySem.W.mroIn K C (.type "object")=some true:=λ{C} h=>by
  simp only[z0_,Bool.and_eq_true] at h
  exact⟨yU h.1.1.1,yU h.1.1.2,yv h.1.2,yv h.2⟩
 have oc:∀c C,A.cs.lookup c=some C->OCls K C:=λc C h=>by
  have h':=(c3 _ (zX h)).1
  simp only[YG,Bool.and_eq_true] at h'
  obtain⟨⟨⟨⟨h1,h2⟩,h3⟩,h4⟩,h5⟩:=h'
  obtain⟨k1,k2,k3,k4⟩:=cb h1
  exact⟨⟨h2,h3,h4,yU h5⟩,k1,k2,k3,k4⟩
 refine⟨rfl,λx hx=>?_,λt x c hxc u v hu hv=>?_,λc C x f hC hf=>?_,λc C hC=>?_,oc,λx c hxc=>?_,λt x c hxc hlt Ct Cc hCt hCc=>?_⟩
 ·obtain⟨g,hg⟩:=lookup_some (l:=gs) hx
  have:=q _ (zX hg)
  refine⟨?_,this.2⟩
  show GlOkM _ P w K mg base k x ((gs.lookup x).getD .bad)
  rw[hg]
  exact this.1
 ·have h':=c1 _ hxc
  dsimp only at h'
  split at h'
  ·rename_i v' q'
   simp only[Bool.and_eq_true,List.all_eq_true] at h'
   have e:=(yk X Gm q').2 v hv
   subst e
   exact yv (h'.1.2 _ (z2w hu))
  ·cases h'
 ·have h':=c4 _ hf
  dsimp only at h'
  refine⟨?_,(oc c C hC).cl,QE ((c3 _ (zX hC)).2 _ hf)⟩
  split at h'
  ·rename_i y hy
   show FLD[f]?=some x
   rw[hy,beq_iff_eq.mp h']
  ·cases h'
 ·have h':=c2 _ (zX hC)
  simp only[z1h,Bool.and_eq_true] at h'
  obtain⟨⟨⟨⟨h1,h2⟩,h3⟩,h4⟩,h5⟩:=h'
  obtain⟨k1,k2,k3,k4⟩:=cb h1
  exact⟨yU h2,QE h3,k1,k2,k3,k4,yv h4,h5⟩
 ·have h':=c1 _ hxc
  dsimp only at h'
  split at h'
  ·rename_i v q'
   simp only[Bool.and_eq_true] at h'
   have hcv:=h'.1.1
   refine⟨v,(match v with|.ref C=>V.ref C|.type n=>V.ty n|_=>V.non),(yk X Gm q').1,?_⟩
   cases v with
   |ref C=>exact .inl ⟨C,rfl,rfl⟩
   |type n=>exact .inr ⟨n,rfl,rfl⟩
   |_=>cases hcv
  ·cases h'
 ·have h':=c1 _ hxc
  dsimp only at h'
  split at h'
  ·rename_i v q'
   simp only[Bool.and_eq_true,Bool.or_eq_true] at h'
   have e:=(yk X Gm q').2 (.ref Cc) (.inl hCc)
   subst e
   have h3:=h'.2.resolve_left (λz=>by have:=Nat.le_of_ble_eq_true z;omega)
   simp only[List.all_eq_true] at h3
   exact yv (h3 _ (zX hCt))
  ·cases h'
end
end NH
end
section
namespace NH
open PySem PySem.Spec PyProof.Rows L2
section
variable {X:Cx}{D:DP}{W:XW}{Γ:Cn}{k:Nat}{pins:List (Addr×Obj)}{s:Shared}{σ:St}{H:Hp}{φ α:List Addr}{τ:Sl}{μ:Mem}{pos:Pos}
theorem MRel.layO{p:Addr}{u:HO}{mo:MO}(m:MRel D φ α H μ)(hp:H p=none)(d:DenO D φ (α++[p]) (upd H p u) mo p):MRel D φ (α++[p]) (upd H p u) (μ++[mo]):=by
 have st:Stp α H (α++[p]) (upd H p u):=vT hp
 have hl:=m.len
 refine⟨by simp[hl],?_,λb hb=>?_,λb hb=>?_,λi a o e1 e2=>?_⟩
 ·rw[List.nodup_append]
  refine⟨m.nd,by simp,λa ha b hb=>?_⟩
  rw[List.mem_singleton.mp hb]
  intro z
  exact zi m hp (z▸ha)
 ·rcases List.mem_append.mp hb with h|h
  ·exact m.dis b h
  ·rw[List.mem_singleton.mp h];exact zh m hp
 ·obtain⟨u,e⟩:=m.phi b hb
  exact⟨u,zb hp b u e⟩
 ·by_cases hi:i<α.length
  ·rw[List.getElem?_append_left hi] at e1
   rw[List.getElem?_append_left (by omega)] at e2
   have d:=m.ob i a o e1 e2
   obtain⟨u,q⟩:=d.some
   exact d.step st ((zb hp _ _ q).trans q.symm)
  ·rw[List.getElem?_append_right (by omega)] at e1 e2
   have hi':i-α.length=0:=by
    by_cases z:i-α.length=0
    ·exact z
    ·rw[List.getElem?_eq_none (by simp;omega)] at e1;cases e1
   have hi2:i-μ.length=0:=by omega
   rw[hi'] at e1
   rw[hi2] at e2
   have e1:some p=some a:=e1
   have e2:some mo=some o:=e2
   cases e1;cases e2
   exact d
end
end NH
end
section
namespace NH
open PySem PySem.Spec PyProof.Rows L2
noncomputable abbrev eB2(op:T->T->Mem->RE T)(f g:De):De:=λτ μ=>(f τ μ).bind λx μ1=>(g τ μ1).bind λy μ2=>op x y μ2
noncomputable abbrev ZO(x y:T)(μ:Mem):RE T:=match x,y with
 |.int a,.int b=>.ok (.int (if b<a then b else a)) μ
 |_,_=>.st
noncomputable abbrev uC(x y:T)(μ:Mem):RE T:=match x,y with
 |.int a,.int b=>.ok (.int (if a<b then b else a)) μ
 |_,_=>.st
section
variable {X:Cx}{D:DP}{W:XW}{Γ:Cn}{k:Nat}{pins:List (Addr×Obj)}{s:Shared}{σ:St}{H:Hp}{φ α:List Addr}{τ:Sl}{μ:Mem}{f g h:De}{a b c:Expr}{pos:Pos}{es:List Expr}
noncomputable def B2 (X:Cx)(D:DP)(W:XW)(fv:Value)(op:T->T->Mem->RE T):Prop:=
 ∀(pins:List (Addr×Obj)) (s:Shared) (σ:St) (H:Hp) (φ α:List Addr) (μ:Mem) (t t':T) (v v':V) (u u':Value) (Q:VK),Inv X pins σ H s->MRel D φ α H μ->Den D φ α H t v->Den D φ α H t' v'->RelV v u->RelV v' u'->Post D W φ α H σ (RV D φ Q) (op t t' μ)->
  wpAny (model X.prog X.w) X.A (call fv [u,u']) (EP X pins σ Q) X.xe s
theorem z1j (C:Ck D W Γ X k) {x:Str} {id:String} {op:T->T->Mem->RE T} {p0:Pos} (hx:x∈Γ.G) (hg:Γ.gl x=.none) (hv:bootBuiltins x=some (.builtin id)) (hn:x≠"__name__") (ha':noStar a=true) (hb':noStar b=true) (hB:B2 X D W (.builtin id) op) (ha:PE X a (rdE D W f)) (hb:PE X b (rdE D W g)) :
  PE X (.Call (.Name x p0) [a,b] [] pos) (rdE D W (eB2 op f g)):=by
 have hm:=C.glo _ hx
 rw[hg] at hm
 rintro pins s σ H Q I ⟨φ,α,τ,μ,sr,mr,p⟩
 refine wpAny_Call_Name_kw (w_ I (C.glb _ hx) hm hv ?_ hn (C.dbG _ hx))
 refine PyProof.Rows.callWith_builtin1 (thn (zr ha (zr hb qi (z4 hb')) (z4 ha') pos pins s σ H (λvs H2=>∃v1 v2 t1 t2 μ2 α2,vs=[v1,v2]/\MRel D φ α2 H2 μ2/\Den D φ α2 H2 t1 v1/\Den D φ α2 H2 t2 v2/\Post D W φ α2 H2 σ (RV D φ Q) (op t1 t2 μ2)) I
  ⟨φ,α,τ,μ,sr,mr,p.bind.mono λt1 μ1 α1 H1 st1 m1 q1 v1 d1=>⟨φ,α1,τ,μ1,sr.step st1,m1,q1.bind.mono λt2 μ2 α2 H2 st2 m2 q2 v2 d2=>⟨v1,v2,t1,t2,μ2,α2,rfl,m2,d1.step st2,d2,q2⟩⟩⟩) ?_) (z4 ha') (zY (by simp[hb']))
 rintro us s1 ⟨vs,H1,I1,rv,v1,v2,t1,t2,μ2,α2,rfl,m,d1,d2,q⟩
 obtain⟨u1,u2,rfl,r1,r2⟩:=vals2 rv
 exact hB pins s1 σ H1 φ α2 μ2 t1 t2 v1 v2 u1 u2 Q I1 m d1 d2 r1 r2 q
theorem z2F(hc:X.calm=true):B2 X D W (.builtin "min") ZO:=by
 intro pins s σ H φ α μ t t' v v' u u' Q I mr d d' r r' p
 unfold ZO at p
 split at p
 ·cases d;cases d'
  obtain⟨t1,rfl⟩:=r
  obtain⟨t2,rfl⟩:=r'
  refine min_two_ints (I.ok.hd hc) λh' tk kp=>?_
  have I1:Inv X pins σ H {s with heap:=h',toks:=tk}:=I.kept kp
  rename_i i j
  by_cases z:j<i
  ·rw[if_pos z] at p ⊢
   exact⟨.int j,H,I1,⟨_,rfl⟩,p.here mr rfl⟩
  ·rw[if_neg z] at p ⊢
   exact⟨.int i,H,I1,⟨_,rfl⟩,p.here mr rfl⟩
 ·exact p.elim
theorem z4p(hc:X.calm=true):B2 X D W (.builtin "max") uC:=by
 intro pins s σ H φ α μ t t' v v' u u' Q I mr d d' r r' p
 unfold uC at p
 split at p
 ·cases d;cases d'
  obtain⟨t1,rfl⟩:=r
  obtain⟨t2,rfl⟩:=r'
  refine max_two_ints (I.ok.hd hc) λh' tk kp=>?_
  have I1:Inv X pins σ H {s with heap:=h',toks:=tk}:=I.kept kp
  rename_i i j
  by_cases z:i<j
  ·rw[if_pos z] at p
   rw[if_pos (show j > i from z)]
   exact⟨.int j,H,I1,⟨_,rfl⟩,p.here mr rfl⟩
  ·rw[if_neg z] at p
   rw[if_neg (show ¬j > i from z)]
   exact⟨.int i,H,I1,⟨_,rfl⟩,p.here mr rfl⟩
 ·exact p.elim
theorem intsAre_of:∀{ns:List Int} {us:List Value},Vals (ns.map V.int) us->IntsAre us ns
 |[],_,.nil=>.nil
 |n::ns,_,.cons r q=>by
  obtain⟨t,rfl⟩:=r
  exact .cons n t (intsAre_of q)
end
noncomputable def rB2 (nm:Str)(op:T->T->Mem->RE T):ER:=λr Γ e=>match e with
 |.Call (.Name x _) [a,b] [] _=>gd (x == nm&&(idx Γ.N x).isNone&&noStar a&&noStar b&&Γ.calm) ((r.e Γ a).bind λf=>(r.e Γ b).bind λg=>(match Γ.look x with
  |.none=>some (eB2 op f g)
  |_=>none))
 |_=>none
theorem U2{D:DP}{nm:Str}{op:T->T->Mem->RE T}(H1:∀{X:Cx} {W:XW} {Γ:Cn} {k:Nat} {a b:Expr} {f g:De} {p0 pos:Pos},Ck D W Γ X k->nm∈Γ.G->Γ.gl nm=.none->Γ.calm=true->noStar a=true->noStar b=true->PE X a (rdE D W f)->PE X b (rdE D W g)->PE X (.Call (.Name nm p0) [a,b] [] pos) (rdE D W (eB2 op f g))):EOk D (rB2 nm op):=by
 intro r H X W Γ k e d C h
 unfold rB2 at h
 split at h
 ·rename_i x p0 a b pos
  have hh:=zo h
  clear h
  obtain⟨hb,h⟩:=hh
  simp only[Bool.and_eq_true,beq_iff_eq] at hb
  obtain⟨⟨⟨⟨rfl,h2⟩,h3⟩,h4⟩,h5⟩:=hb
  obtain⟨f,h1,h⟩:=bnd h
  obtain⟨g,h6,h⟩:=bnd h
  cases hl:Γ.look x with
  |none=>
   simp only[hl] at h
   cases h
   obtain⟨hx,hg⟩:=qC hl (by intro z;cases z)
   exact H1 C hx hg h5 h3 h4 (H.e C h1) (H.e C h6)
  |_=>simp[hl] at h
 ·cases h
noncomputable def z1r:ER:=rB2 "min" ZO
theorem YH{D:DP}:EOk D z1r:=U2 λC hx hg hc h1 h2 ha hb=>z1j C hx hg (by decide +kernel) (by decide) h1 h2 (z2F (C.clm hc)) ha hb
noncomputable def z1u:ER:=rB2 "max" uC
theorem XG{D:DP}:EOk D z1u:=U2 λC hx hg hc h1 h2 ha hb=>z1j C hx hg (by decide +kernel) (by decide) h1 h2 (z4p (C.clm hc)) ha hb
end NH
end
section
namespace NH
open PySem PySem.Spec PyProof.Rows L2
noncomputable abbrev x_(c:Nat)(g:Fn)(ts:List T)(μ:Mem):RE T:=λK Z=>g (.mut μ.length::ts) (μ++[.obj c []]) (λr μ1=>r=.non/\K (.mut μ.length) μ1) Z
noncomputable abbrev z0a(c:Nat)(g:Fn)(fs:List De):De:=λτ μ=>(evs fs τ μ).bind (x_ c g)
noncomputable abbrev zW(c:Nat)(g:Fn)(o:De)(as:List De):De:=λτ μ=>(o τ μ).bind λt μ1=>match t with
 |.obj c' fs=>.grd (c'=c) ((evs as τ μ1).bind λts μ2=>g (.obj c' fs::ts) μ2)
 |.mut i=>λK Z=>∃fs,μ1[i]?=some (.obj c fs)/\(evs as τ μ1).bind (λts μ2=>g (.mut i::ts) μ2) K Z
 |_=>.st
section
variable {X:Cx}{D:DP}{W:XW}{Γ:Cn}{k:Nat}{pins:List (Addr×Obj)}{s:Shared}{σ:St}{H:Hp}{φ α:List Addr}{τ:Sl}{μ:Mem}{fs:List De}{a b c:Expr}{pos:Pos}{es:List Expr}
theorem Jj{c:Nat}{g:Fn}{C0 fI:Addr}{fd:FuncData}{ps:List Str}{kk:Nat}{us:List Value}{vs:List V}{ts:List T}{Q:VK}(C:Ck D W Γ X k)(ad:D.cad c=some C0)(M:Mk X.K C0 fI)(F:FnOk X.prog X.w X.K X.mg X.base (CX1 X.prog X.w) kk fI fd ps (spN D ps.length g))
  (hr:Room (kk+1) X.A) (hb:Binds X.K fd ps []) (har:∀ts μ K Z,g ts μ K Z->ts.length=ps.length) (I:Inv X pins σ H s) (r:Vals vs us) (mr:MRel D φ α H μ) (d:DenL D φ α H ts vs) (p:Post D W φ α H σ (RV D φ Q) (x_ c g ts μ)) :
  wpAny (model X.prog X.w) X.A (call (.ref C0) us) (EP X pins σ Q) X.xe s:=by
 obtain⟨K,Z,hg,hk,hz⟩:=p
 have hl:(T.mut μ.length::ts).length=ps.length:=har _ _ _ _ hg
 have hq:∀x dx,H x=none->H dx=none->dx≠x->spN D ps.length g (.ref x::(vs++[])) (upd (upd H dx (.own x)) x (.ins C0 dx [])) (λv H2=>v=.non/\Q (.ref x) H2) (λc d H'=>W c d σ H'):=by
  intro x dx hx hdx hne
  have sm1:xg H (upd H dx (.own x)):=zb hdx
  have hx1:upd H dx (.own x) x=none:=by rw[z7 (Ne.symm hne)];exact hx
  have mr1:MRel D φ α (upd H dx (.own x)) μ:=mr.new sm1
  have st0:Stp α H (α++[x]) (upd (upd H dx (.own x)) x (.ins C0 dx [])):=(Stp.new sm1).trans (vT hx1)
  have mr2:MRel D φ (α++[x]) (upd (upd H dx (.own x)) x (.ins C0 dx [])) (μ++[.obj c []]):=mr1.layO hx1 ⟨C0,dx,[],ad,z6,rfl⟩
  have hget:(α++[x])[μ.length]?=some x:=by rw[←mr.len,List.getElem?_append_right (Nat.le_refl _)];simp
  refine⟨by simp only[List.length_cons,List.append_nil] at hl ⊢;rw[←d.length];exact hl,φ,α++[x],.mut μ.length::ts,μ++[.obj c []],⟨.ref x,vs++[],rfl,⟨x,hget,rfl⟩,by rw[List.append_nil];exact d.step st0⟩,mr2,_,_,hg,?_,?_⟩
  ·rintro t μ2 ⟨rfl,q⟩ α2 H3 st m v dv
   refine⟨dv,?_⟩
   obtain⟨β,e,_⟩:=st.ext
   refine hk _ _ q α2 H3 (st0.trans st) m _ ⟨x,?_,rfl⟩
   rw[e,List.getElem?_append_left (List.getElem?_eq_some_iff.mp hget).1];exact hget
  ·rintro e fs μ2 q α2 H3 C1 d1 st m had xd
   exact hz _ _ _ q α2 H3 C1 d1 (st0.trans st) m had xd
 have hq1:=hq (s.heap.objs.size+1) s.heap.objs.size (I.hok.fresh (Nat.le_succ _)) (I.hok.fresh (Nat.le_refl _)) (Nat.ne_of_lt (Nat.lt_succ_self _))
 have I2:=Inv.made (C:=C0) I
 have r2:Vals (V.ref (s.heap.objs.size+1)::(vs++[])) (Value.ref (s.heap.objs.size+1)::us):=.cons rfl (by rw[List.append_nil];exact r)
 have hlu:(Value.ref (s.heap.objs.size+1)::us++[]).length=ps.length:=by
  rw[List.append_nil,List.length_cons,←r.length,←d.length]
  exact hl
 refine wpAny_call (y9 (f:=fI) I.kIn M.makes M.init (beq_iff_eq.mp M.fn) (codeAny_mono (F.run _ X.stack _ _ ⟨Value.ref (s.heap.objs.size+1)::us,[]⟩ (Value.ref (s.heap.objs.size+1)::us) _ _ (λc d H'=>W c d σ H') (hr.make C0 us [])
  (I2.env0.make C0 us []) (by simpa using hb _ (Value.ref (s.heap.objs.size+1)::us) I2.kIn hlu) r2 hq1) λr s' hq'=>?_))
 cases r with
 |error e=>exact C.xe e s' (y0 (E:=λc d H'=>W c d σ H') I2 hq' λcls d H' w=>w)
 |ok fl=>
  cases fl with
  |ret u=>
   obtain⟨v,H',I3,rv,ev,q3⟩:=I2.after hq'
   subst ev
   exact⟨rv,⟨V.ref (s.heap.objs.size+1),H',I3,rfl,q3⟩⟩
  |next=>exact False.elim hq'
  |brk=>exact False.elim hq'
  |cont=>exact False.elim hq'
theorem Yw(C:Ck D W Γ X k){x:Str}{c:Nat}{g:Fn}{p0:Pos}(hx:x∈Γ.G)(hg:Γ.gl x=.mk c false g)(hc:Γ.calm=true)(ha:EsOk X D W es fs):PE X (.Call (.Name x p0) es [] pos) (rdE D W (z0a c g fs)):=by
 have q:=C.glo x hx
 rw[hg] at q
 obtain⟨C0,fI,fd,ps,kk,ad,hm,M,hb,hkk,Fn,har⟩:=q
 have hr:=(C.rom hc).mono hkk
 have hs:=ha.stars
 have pa:=wq ha
 rintro pins s σ H Q I ⟨φ,α,τ,μ,sr,mr,p⟩
 refine wpAny_Call_Name_kw (wc I (C.glb x hx) hm ?_ (C.dbG x hx))
 cases es with
 |nil=>
  cases fs with
  |nil=>exact PySem.W.callWith_K0 I.kIn M.kp (Jj (ts:=[]) C ad M Fn hr hb har I .nil mr rfl p)
  |cons f fs=>exact ha.elim
 |cons e es=>
  simp only[List.all_cons,Bool.and_eq_true] at hs
  refine PySem.W.callWith_K (h₀:=X.base) I.ok.mod.kin M.kp (thn (XF pa I sr mr p) ?_) (z4 hs.1) (zY hs.2)
  rintro us s1 ⟨vs,H1,ts,μ1,α1,I1,r1,st1,sr1,mr1,d1,_,p1⟩
  exact⟨I1.kIn,Jj C ad M Fn hr hb har I1 r1 mr1 d1 p1⟩
theorem yP{nm:Str}(hf:∀i,D.fn i≠some nm):∀{fs:List (Nat×T)} {gs:List (Str×V)},DenF D φ α H fs gs->gs.lookup nm=none
 |[],_,h=>by cases h;rfl
 |p::r,_,h=>by
  obtain⟨x,v,q,e,rfl,_,l⟩:=h
  rw[List.lookup_cons]
  have:(nm == x)=false:=by
   apply beq_false_of_ne
   intro z
   exact hf p.1 (by rw[z];exact e)
  rw[this]
  exact yP hf l
theorem Xl {es : List Expr} {pos : Pos} {env : Env} (hs : es.all noStar = true) (hl : es.length < 30) : ((backTo pos (starEach es env)).all (fun x => !x.1) && (backToKw pos (keywordEach [] env)).all (fun x => x.1.isSome)
      &&decide (es.length+([]:List Keyword).length+(if ([]:List Keyword).isEmpty then 0 else 1)<30))=true:=by
  have h1:=zY (env:=env) (pos:=pos) hs
  have h2:(backTo pos (starEach es env)).all (λx=>!x.1)=true:=by
    rw[List.all_eq_true]
    intro x hx
    have:=List.any_eq_false.mp h1 x hx
    simpa using this
  rw[h2]
  have h3:(backToKw pos (keywordEach [] env)).all (λx=>x.1.isSome)=true:=rfl
  rw[h3]
  simpa using hl
theorem Ux (C : Ck D W Γ X k) {x m : Str} {c : Nat} {g : Fn} {o : Expr} {go : De} {apos : Pos} (hU : x ∈ Γ.U) (hg : Γ.gl x = .met c m g) (hc : Γ.calm = true) (hp : zL o = true) (hline : (apos.endLine == pos.line) = true) (hl : es.length < 30) (ho : PE X o (rdE D W go)) (ha : EsOk X D W es fs) :
    PE X (.Call (.Attribute o m apos) es [] pos) (rdE D W (zW c g go fs)) := by
  have q := (C.glU x hU).1
  rw [hg] at q
  obtain ⟨C0,fI,fd,ps,kk,ad,cl,M,hnf,hb,hkk,Fn,har⟩ := q
  have hr := (C.rom hc).mono hkk
  have hs := ha.stars
  have pa := wq ha
  rintro pins s σ H Q I ⟨φ,α,τ,μ,sr,mr,p⟩
  rw [arm_eval_Call,qB hp]
  refine wpAny_bind (thn (sub ho I sr mr p) ?_)
  rintro u s1 ⟨v,H1,t,μ1,α1,I1,r1,st1,sr1,mr1,d1,p1⟩
  refine wpAny_bind (wpAny_standAt ?_)
  have hform : methodCallForm (es.length + ([] : List Keyword).length) (backTo pos (starEach es X.env)) (backToKw pos (keywordEach [] X.env)) = true := Xl hs hl
  have hpos : methodCallPos true o X.env apos pos = pure pos := by unfold methodCallPos; simp [hline]
  have go : ∀ {ad0 dx : Addr} {gs : List (Str × V)} {t0 : T},H1 ad0 = some (.ins C0 dx gs) -> gs.lookup m = none -> u = .ref ad0 -> (∀ α2 H2,Stp α1 H1 α2 H2 -> Den D φ α2 H2 t0 (.ref ad0)) -> Post D W φ α1 H1 σ (RV D φ Q) ((evs fs τ μ1).bind fun ts μ2 => g (t0 :: ts) μ2) ->
      wpAny (model X.prog X.w) X.A (methodCall o m apos pos X.env u (es.length + ([] : List Keyword).length) (backTo pos (starEach es X.env)) (backToKw pos (keywordEach [] X.env))) (EP X pins σ Q) X.xe s1 := fun {ad0 dx gs t0} e1 lk hu hd p2 => by
    subst hu
    unfold methodCall
    rw [hform]
    refine wpAny_bind (wpAny_holding (Vl I1 e1 cl M lk ?_))
    refine wpAny_bind (wpAny_of_eq hpos ?_)
    have d0 := hd α1 H1 (Stp.refl _ _)
    cases es with
    | nil =>
      cases fs with
      | nil => exact PySem.W.callWith_K0 (first := [.ref ad0]) I1.kIn M.kp (xX (ts := [t0]) (us := [.ref ad0]) (vs := [.ref ad0]) C Fn hr hb har I1 (.cons rfl .nil) mr1 ⟨_,_,rfl,d0,rfl⟩ p2)
      | cons f fs => exact ha.elim
    | cons e es =>
      simp only [List.all_cons,Bool.and_eq_true] at hs
      refine PySem.W.callWith_K (first := [.ref ad0]) (h₀ := X.base) I1.ok.mod.kin M.kp (thn (XF pa I1 sr1 mr1 p2) ?_) (z4 hs.1) (zY hs.2)
      rintro us s2 ⟨vs,H2,ts,μ2,α2,I2,r2,st2,sr2,mr2,d2,_,p3⟩
      exact ⟨I2.kIn,xX (ts := t0 :: ts) (us := .ref ad0 :: us) (vs := .ref ad0 :: vs) C Fn hr hb har I2 (.cons rfl r2) mr2 ⟨_,_,rfl,hd α2 H2 st2,d2⟩ p3⟩
  cases t with
  | obj c' gf =>
    obtain ⟨hcc,p2⟩ := Post.grd p1
    subst hcc
    obtain ⟨ad0,C1,dx,gs,rfl,n1,n2,ad1,e1,l⟩ := id d1
    rw [ad] at ad1; cases ad1
    exact go e1 (yP hnf l) r1 (fun α2 H2 st => d1.step st) p2
  | «mut» i =>
    obtain ⟨gf,hi,p2⟩ := Post.ex1 p1
    obtain ⟨ad0,hi',rfl⟩ := id d1
    obtain ⟨C1,dx,gs,ad1,e1,l⟩ := mr1.ob i ad0 _ hi' hi
    rw [ad] at ad1; cases ad1
    exact go e1 (yP hnf l) r1 (fun α2 H2 st => d1.step st) p2
  | _ => exact Post.elim p1
end
theorem yM{K:PySem.W.Frag}{A:Ads}{cls fld:List (Str×Nat)}{c:Nat}{C:Addr}(hc:chk K A cls fld=true)(h:A.cs.lookup c=some C):Cls K C:=by
 simp only[chk,Bool.and_eq_true,List.all_eq_true] at hc
 obtain⟨⟨⟨c1,c2⟩,c3⟩,c4⟩:=hc
 have h':=(c3 _ (zX h)).1
 simp only[YG,Bool.and_eq_true] at h'
 obtain⟨⟨⟨⟨h1,h2⟩,h3⟩,h4⟩,h5⟩:=h'
 exact⟨h2,h3,h4,yU h5⟩
noncomputable def z3b:ER:=λr Γ e=>match e with
 |.Call (.Name x _) es [] _=>gd ((idx Γ.N x).isNone&&Γ.calm) ((cEs r Γ es).bind λfs=>(match Γ.look x with
  |.mk c false g=>some (z0a c g fs)
  |_=>none))
 |_=>none
theorem z0V{D:DP}:EOk D z3b:=by
 intro r H X W Γ k e d C h
 unfold z3b at h
 split at h
 ·rename_i x p0 es pos
  have hh:=zo h
  clear h
  obtain⟨hb,h⟩:=hh
  simp only[Bool.and_eq_true] at hb
  obtain⟨fs,h1,h⟩:=bnd h
  cases hl:Γ.look x with
  |mk c b g=>
   cases b with
   |false=>
    simp only[hl] at h
    cases h
    obtain⟨hx,hg⟩:=qC hl (by intro z;cases z)
    exact Yw C hx hg hb.2 (wt H C h1)
   |true=>simp[hl] at h
  |_=>simp[hl] at h
 ·cases h
noncomputable def dot(m:Str):Str:=⟨#[46]++m.cps⟩
noncomputable def z4b:ER:=λr Γ e=>match e with
 |.Call (.Attribute o m pa) es [] pc=>gd (zL o&&pa.endLine == pc.line&&Γ.calm&&decide (es.length<30)&&Γ.U.contains (dot m)) ((r.e Γ o).bind λgo=>(cEs r Γ es).bind λfs=>(match Γ.gl (dot m) with
  |.met c nm g=>gd (nm == m) (some (zW c g go fs))
  |_=>none))
 |_=>none
theorem UD{D:DP}:EOk D z4b:=by
 intro r H X W Γ k e d C h
 unfold z4b at h
 split at h
 ·rename_i o m pa es pc
  have hh:=zo h
  clear h
  obtain⟨hb,h⟩:=hh
  simp only[Bool.and_eq_true] at hb
  obtain⟨⟨⟨⟨h0,h2⟩,h3⟩,h4⟩,h5⟩:=hb
  obtain⟨go,h1,h⟩:=bnd h
  obtain⟨fs,h6,h⟩:=bnd h
  cases hl:Γ.gl (dot m) with
  |met c nm g=>
   simp only[hl] at h
   obtain⟨h7,h8⟩:=zo h
   have h7:=beq_iff_eq.mp h7
   subst h7
   cases h8
   exact Ux C (by simpa using h5) hl h3 h0 h2 (of_decide_eq_true h4) (H.e C h1) (wt H C h6)
  |_=>simp[hl] at h
 ·cases h
end NH
end
section
namespace NH
open PySem PySem.Spec PyProof.Rows L2
section
variable {X:Cx}{pins:List (Addr×Obj)}{s:Shared}{σ:St}{H:Hp}
theorem yS{x:Addr}{o:HO}(I:Inv X pins σ H s)(ox:XOk X H x)(hp:∀p∈pins,p.1≠x)(hx:ObjOk X.prog X.w (upd H x o) s.heap x o):Inv X pins σ (upd H x o) s:=by
 have ne:∀b,H b≠none->b≠x:=λb h z=>h (by rw[z];exact ox.free)
 refine⟨I.ok,I.os,I.bare,⟨I.base.keep,I.base.slot,λb o e n hx'=>?_,I.base.there,λb xs e=>?_,λb o u e=>?_,λb ps e=>?_⟩,I.loc,I.cell,?_,λy c e=>?_,λp hp'=>?_,λb ob e=>?_,I.len⟩
 ·have:b≠x:=λz=>by
   rcases ox.new with q|q
   ·exact hx' (by rw[z];exact q)
   ·rw[←z,e] at q;cases q
  rw[z7 this];exact I.base.free b o e n hx'
 ·have q:=I.base.tups b xs e
  rw[z7 (ne b (by rw[q];simp))];exact q
 ·have q:=I.base.frzs b o u e
  rw[z7 (ne b (by rw[q];simp))];exact q
 ·obtain⟨more,q⟩:=I.base.tbls b ps e
  exact⟨more,by rw[z7 (ne b (by rw[q];simp))];exact q⟩
 ·rw[z7 (Ne.symm ox.loc)];exact I.free
 ·rw[z7 (ox.cel y c e)];exact I.freeC y c e
 ·obtain⟨e,n,r⟩:=I.pin p hp'
  have:p.1≠x:=(List.mem_append.mp hp').elim (ox.pin p) (hp p)
  exact⟨e,by rw[z7 this];exact n,r⟩
 ·by_cases z:b=x
  ·subst z
   rw[z6] at e
   cases e
   exact hx
  ·rw[z7 z] at e
   exact (I.hok b ob e).stay (λ_ _ _ q=>q) (λc q=>by
    by_cases w:c=x
    ·rw[w,ox.free] at q;cases q
    ·rw[z7 w];exact q) λc _ q=>by
    by_cases w:c=x
    ·rw[w,ox.free] at q;cases q
    ·rw[z7 w];exact q
theorem Xh{b:Addr}(f:QN X pins H b):XOk X H b/\∀p∈pins,p.1≠b:=
 ⟨⟨f.1,f.2.1,f.2.2.1,f.2.2.2.1.imp id λh=>Heap.get?_none_of_le h,f.2.2.2.2.1,λp hp=>f.2.2.2.2.2 p (List.mem_append_left _ hp)⟩,λp hp=>f.2.2.2.2.2 p (List.mem_append_right _ hp)⟩
end
end NH
end
section
namespace L2
open PySem PySem.Spec PyProof.Rows
section
variable {κ:Type}[DecidableEq κ]
noncomputable def v_(kvs:List (κ×V))(k:κ):Option V:=(kvs.find? λkv=>decide (kv.1=k)).map (·.2)
noncomputable def putK(kvs:List (κ×V))(k:κ)(v:V):List (κ×V):=
 if (kvs.any λkv=>decide (kv.1=k))=true then kvs.map (λkv=>if kv.1=k then (kv.1,v) else kv) else kvs++[(k,v)]
theorem wV{p:κ×V}{r:List (κ×V)}{k:κ}(e:p.1=k):v_ (p::r) k=some p.2:=by simp[v_,List.find?_cons,e]
theorem wA{p:κ×V}{r:List (κ×V)}{k:κ}(e:¬p.1=k):v_ (p::r) k=v_ r k:=by simp[v_,List.find?_cons,e]
theorem WI(k:κ):∀kvs:List (κ×V),(kvs.any λkv=>decide (kv.1=k))=(v_ kvs k).isSome
 |[]=>rfl
 |p::r=>by
  rw[List.any_cons]
  by_cases e:p.1=k
  ·simp only[wV e,decide_eq_true e,Bool.true_or,Option.isSome_some]
  ·rw[wA e,decide_eq_false e,Bool.false_or];exact WI k r
theorem xH(kvs:List (κ×V))(k:κ)(v:V):(putK kvs k v).length<=kvs.length+1:=by
 unfold putK
 split
 ·rw[List.length_map];omega
 ·rw[List.length_append,List.length_cons,List.length_nil];omega
theorem RelO.isSome_eq{o:Option V}{u:Option Value}(r:RelO o u):o.isSome=u.isSome:=by
 cases o with
 |none=>cases u with
  |none=>rfl
  |some _=>exact (show False from r).elim
 |some _=>cases u with
  |none=>exact (show False from r).elim
  |some _=>rfl
theorem RelO.getD{o:Option V}{u:Option Value}{d:V}{d':Value}(r:RelO o u)(rd:RelV d d'):RelV (o.getD d) (u.getD d'):=by
 cases o with
 |none=>cases u with
  |none=>exact rd
  |some _=>exact (show False from r).elim
 |some _=>cases u with
  |none=>exact (show False from r).elim
  |some _=>exact r
theorem KV.val{kvs:List (κ×V)}{vs:List (κ×Value)}(r:KV kvs vs)(k:κ):RelO (v_ kvs k) (valueAt vs k):=by
 unfold KV at r
 induction r with
 |nil=>exact True.intro
 | @cons p q ps qs h t ih=>
  obtain⟨h1,h2⟩:=h
  by_cases e:p.1=k
  ·have e':q.1=k:=h1.symm.trans e
   have b:valueAt (q::qs) k=some q.2:=by simp[valueAt,List.find?_cons,e']
   rw[wV e,b];exact h2
  ·have e':¬q.1=k:=λz=>e (h1.trans z)
   have b:valueAt (q::qs) k=valueAt qs k:=by simp[valueAt,List.find?_cons,e']
   rw[wA e,b];exact ih
theorem KV.any{kvs:List (κ×V)}{vs:List (κ×Value)}(r:KV kvs vs)(k:κ):(kvs.any λkv=>decide (kv.1=k))=vs.any λkv=>decide (kv.1=k):=by
 unfold KV at r
 induction r with
 |nil=>rfl
 |cons h t ih=>rw[List.any_cons,List.any_cons,ih,h.1]
theorem KV.repl{kvs:List (κ×V)}{vs:List (κ×Value)}(r:KV kvs vs)(k:κ){y:V}{u:Value}(ry:RelV y u) :
  KV (kvs.map λkv=>if kv.1=k then (kv.1,y) else kv) (vs.map λkv=>if kv.1=k then (kv.1,u) else kv):=by
 unfold KV at r ⊢
 induction r with
 |nil=>exact .nil
 | @cons p q ps qs h t ih=>
  rw[List.map_cons,List.map_cons]
  refine .cons ?_ ih
  obtain⟨h1,h2⟩:=h
  by_cases e:p.1=k
  ·rw[if_pos e,if_pos (h1.symm.trans e)];exact⟨h1,ry⟩
  ·rw[if_neg e,if_neg (λz=>e (h1.trans z))];exact⟨h1,h2⟩
theorem KV.put{kvs:List (κ×V)}{vs:List (κ×Value)}(r:KV kvs vs)(k:κ){y:V}{u:Value}(ry:RelV y u):KV (putK kvs k y) (stored vs k u):=by
 unfold putK stored
 rw[r.any k]
 by_cases e:(vs.any λkv=>decide (kv.1=k))=true
 ·rw[if_pos e,if_pos e];exact r.repl k ry
 ·rw[if_neg e,if_neg e];exact Paired.snoc r ⟨rfl,ry⟩
theorem KV.length{kvs:List (κ×V)}{vs:List (κ×Value)}(r:KV kvs vs):kvs.length=vs.length:=Paired.length r
end
theorem Zk{P:Program}{w:World}{k:Key}{u:Value}(r:RelV (kV k) u):(zJ P w).is k u=true:=by
 cases k with
 |inl i=>obtain⟨t,e⟩:=(show ∃t,u=Value.int i t from r);subst e;exact Wg P w i t
 |inr x=>obtain⟨t,e⟩:=(show ∃t,u=Value.str x t from r);subst e;exact QV P w x t
theorem Zy{P:Program}{w:World}:∀{ks:List Key} {us:List Value},Vals (ks.map kV) us->ItemsAre (zJ P w) ks us
 |[],_,r=>by rw[List.map_nil] at r;cases r;exact .nil
 |k::ks,_,r=>by
  rw[List.map_cons] at r
  cases r with
  |cons h t=>exact .cons (Zk h) (Zy t)
abbrev KT(H:Hp):List (List Key×V)->List (List Key×Addr×Value)->Prop:=Paired λp q=>p.1=q.1/\H q.2.1=some (.tup (p.1.map kV))/\RelV p.2 q.2.2
theorem KT.val{H:Hp}{kvs:List (List Key×V)}{xs:List (List Key×Addr×Value)}(r:KT H kvs xs)(k:List Key):RelO (v_ kvs k) ((atKey xs k).map (·.2)):=by
 induction r with
 |nil=>exact True.intro
 | @cons p q ps qs h t ih=>
  obtain⟨h1,_,h2⟩:=h
  by_cases e:p.1=k
  ·have e':q.1=k:=h1.symm.trans e
   have b:atKey (q::qs) k=some q.2:=by simp[atKey,List.find?_cons,e']
   rw[wV e,b];exact h2
  ·have e':¬q.1=k:=λz=>e (h1.trans z)
   have b:atKey (q::qs) k=atKey qs k:=by simp[atKey,List.find?_cons,e']
   rw[wA e,b];exact ih
theorem KT.repl{H:Hp}{kvs:List (List Key×V)}{xs:List (List Key×Addr×Value)}(r:KT H kvs xs)(k:List Key){y:V}{u:Value}(ry:RelV y u) :
  KT H (kvs.map λkv=>if kv.1=k then (kv.1,y) else kv) (xs.map (putAt k u)):=by
 induction r with
 |nil=>exact .nil
 | @cons p q ps qs h t ih=>
  rw[List.map_cons,List.map_cons]
  refine .cons ?_ ih
  obtain⟨h1,h2,h3⟩:=h
  unfold putAt
  by_cases e:p.1=k
  ·rw[if_pos e,if_pos (h1.symm.trans e)];exact⟨h1,h2,ry⟩
  ·rw[if_neg e,if_neg (λz=>e (h1.trans z))];exact⟨h1,h2,h3⟩
theorem KT.put{H:Hp}{kvs:List (List Key×V)}{xs:List (List Key×Addr×Value)}(r:KT H kvs xs)(k:List Key){b:Addr}{y:V}{u:Value}(hb:H b=some (.tup (k.map kV)))(ry:RelV y u) :
  KT H (putK kvs k y) (storedH xs k b u):=by
 have e:(kvs.any λkv=>decide (kv.1=k))=(atKey xs k).isSome:=by
  rw[WI,(r.val k).isSome_eq,Option.isSome_map]
 unfold putK storedH
 rw[e]
 by_cases q:(atKey xs k).isSome=true
 ·rw[if_pos q,if_pos q];exact r.repl k ry
 ·rw[if_neg q,if_neg q];exact Paired.snoc r ⟨rfl,hb,ry⟩
theorem KT.keeps{H H':Hp}{kvs:List (List Key×V)}{xs:List (List Key×Addr×Value)}(r:KT H kvs xs)(ht:∀b ys,H b=some (.tup ys)->H' b=some (.tup ys)):KT H' kvs xs:=
 Paired.mapP r λ_ _ z=>⟨z.1,ht _ _ z.2.1,z.2.2⟩
section
variable {P:Program}{w:World}{H:Hp}{h:Heap}{a:Addr}
theorem z1k{u:HO}(ok:HOk P w H h)(e:Rd H a u):ObjOk P w H h a u:=e.ok ok
theorem uq{kvs:List (Key×V)}(ok:HOk P w H h)(e:Rd H a (.dK kvs)):kvs.length<=sizeLine/\(a == sysModules)=false/\∃vs,KV kvs vs/\h.DictOf (zJ P w) a vs:=
 show ObjOk P w H h a (.dK kvs) from z1k ok e
theorem z5J{kvs:List (Key×V)}(ok:HOk P w H h)(e:H a=some (.dK kvs)):kvs.length<=sizeLine/\(a == sysModules)=false/\∃vs,KV kvs vs/\h.DictOf (zJ P w) a vs:=uq ok (.inl e)
theorem xj{ks:List Key}(ok:HOk P w H h)(e:H a=some (.tup (ks.map kV))):(tupleKind (zJ P w)).is h ks a:=by
 obtain⟨_,its,r,o,h1,h2,n,h3⟩:=(show ObjOk P w H h a (.tup (ks.map kV)) from ok a _ e)
 exact⟨o,its.toArray,n,h1,h2,h3,by simpa using Zy r⟩
theorem uG{kvs:List (List Key×V)}(ok:HOk P w H h)(e:Rd H a (.dT kvs)):kvs.length<=sizeLine/\(a == sysModules)=false/\
  ∃xs,KT H kvs xs/\h.DictOfH (tupleKind (zJ P w)) a xs:=by
 obtain⟨z,y,xs,r,o,es,ep,h1,h2,h3,h4,h5⟩:=(show ObjOk P w H h a (.dT kvs) from z1k ok e)
 refine⟨z,y,xs,r,o,es,ep,h1,h2,h3,h4,λx hx=>?_,h5⟩
 have all:∀{l:List (List Key×V)} {m:List (List Key×Addr×Value)},KT H l m->∀x∈m,(tupleKind (zJ P w)).is h x.1 x.2.1:=by
  intro l m q
  induction q with
  |nil=>intro x hx;exact nomatch hx
  | @cons p q ps qs hq t ih=>
   intro x hx
   rcases List.mem_cons.mp hx with e|hx
   ·subst e
    exact xj ok (by rw[←hq.1];exact hq.2.1)
   ·exact ih x hx
 exact all r x hx
theorem z4Z{kvs:List (List Key×V)}(ok:HOk P w H h)(e:H a=some (.dT kvs)):kvs.length<=sizeLine/\(a == sysModules)=false/\
  ∃xs,KT H kvs xs/\h.DictOfH (tupleKind (zJ P w)) a xs:=uG ok (.inl e)
end
noncomputable def DGet (H:Hp)(a:Addr)(y:V)(r:Option V):Prop:=
 (∃kvs k,Rd H a (.dK kvs)/\y=kV k/\r=v_ kvs k)\/∃kvs k b,Rd H a (.dT kvs)/\y=.ref b/\H b=some (.tup (k.map kV))/\r=v_ kvs k
noncomputable def DPut (H:Hp)(a:Addr)(y v:V)(H':Hp):Prop:=
 (∃kvs k,H a=some (.dK kvs)/\y=kV k/\kvs.length<sizeLine/\H'=upd H a (.dK (putK kvs k v)))\/
 ∃kvs k b,H a=some (.dT kvs)/\y=.ref b/\H b=some (.tup (k.map kV))/\kvs.length<sizeLine/\H'=upd H a (.dT (putK kvs k v))
theorem DGet.k{H:Hp}{a:Addr}{kvs:List (Key×V)}{k:Key}(e:H a=some (.dK kvs)):DGet H a (kV k) (v_ kvs k):=.inl ⟨kvs,k,.inl e,rfl,rfl⟩
theorem DPut.k{H:Hp}{a:Addr}{kvs:List (Key×V)}{k:Key}{v:V}(e:H a=some (.dK kvs))(hl:kvs.length<sizeLine):DPut H a (kV k) v (upd H a (.dK (putK kvs k v))):=.inl ⟨kvs,k,e,rfl,hl,rfl⟩
section
variable {X:Cx}{pins:List (Addr×Obj)}{σ:St}{H:Hp}{s:Shared}{a:Addr}{y v:V}{u r:Value}{o:Option V}{A:Around}{E:Value->Shared->Prop}
theorem Inv.big(I:Inv X pins σ H s):sysModules<s.heap.objs.size:=by
 have h:mainGlobals<s.heap.objs.size:=(I.mod.glob.keeps I.bk).lt
 exact Nat.lt_trans (by decide) h
theorem Kc{Q:Value->Shared->Prop}(hu:A.units+1<cLine)(I:Inv X pins σ H s)(g:DGet H a y (some v))(ry:RelV y u)(h:∀w' s',Inv X pins σ H s'->RelV v w'->Q w' s') :
  wpAny (model X.prog X.w) A (getItem (.ref a) u) Q E s:=by
 rcases g with⟨kvs,k,e,ey,l⟩|⟨kvs,k,b,e,ey,eb,l⟩
 ·subst ey
  obtain⟨z,hd,vs,rel,dd⟩:=uq I.hok e
  obtain⟨w',hw,rw'⟩:=RelO.some_of (v:=v) (o:=valueAt vs k) (by rw[l];exact rel.val k)
  exact wpAny_getItem_of (Zk ry) dd.mapOf hw (h w' _ (I.tok _) rw')
 ·subst ey
  cases (show u=Value.ref b from ry)
  obtain⟨z,hd,xs,rel,dd⟩:=uG I.hok e
  obtain⟨w',hw,rw'⟩:=RelO.some_of (v:=v) (o:=(atKey xs k).map (·.2)) (by rw[l];exact rel.val k)
  obtain⟨p,hp,hp2⟩:=Option.map_eq_some_iff.mp hw
  refine wpAny_getItem_heap (tupleKind_room_in1 hu) (xj I.hok eb) dd hp ?_
  rw[hp2]
  exact h w' _ (I.tok _) rw'
theorem z60{Q:Value->Shared->Prop}(hu:A.units+1<cLine)(I:Inv X pins σ H s)(g:DGet H a y o)(ry:RelV y u)(h:∀s',Inv X pins σ H s'->Q (.bool o.isSome) s') :
  wpAny (model X.prog X.w) A (compareOp .In u (.ref a)) Q E s:=by
 rcases g with⟨kvs,k,e,ey,l⟩|⟨kvs,k,b,e,ey,eb,l⟩
 ·subst ey
  obtain⟨z,hd,vs,rel,dd⟩:=uq I.hok e
  refine wpAny_in_of (Zk ry) hd dd.mapOf ?_
  rw[←(rel.val k).isSome_eq,←l]
  exact h _ (I.tok _)
 ·subst ey
  cases (show u=Value.ref b from ry)
  obtain⟨z,hd,xs,rel,dd⟩:=uG I.hok e
  refine wpAny_in_heap (tupleKind_room_in1 hu) (xj I.hok eb) hd dd ?_
  have q:=(rel.val k).isSome_eq
  rw[Option.isSome_map] at q
  rw[←q,←l]
  exact h _ (I.tok _)
theorem z06{Q:Value->Shared->Prop}(hu:A.units+1<cLine)(I:Inv X pins σ H s)(g:DGet H a y o)(ry:RelV y u)(h:∀s',Inv X pins σ H s'->Q (.bool (!o.isSome)) s') :
  wpAny (model X.prog X.w) A (compareOp .NotIn u (.ref a)) Q E s:=by
 rcases g with⟨kvs,k,e,ey,l⟩|⟨kvs,k,b,e,ey,eb,l⟩
 ·subst ey
  obtain⟨z,hd,vs,rel,dd⟩:=uq I.hok e
  refine wpAny_notIn_of (Zk ry) hd dd.mapOf ?_
  rw[←(rel.val k).isSome_eq,←l]
  exact h _ (I.tok _)
 ·subst ey
  cases (show u=Value.ref b from ry)
  obtain⟨z,hd,xs,rel,dd⟩:=uG I.hok e
  refine wpAny_notIn_heap (tupleKind_room_in1 hu) (xj I.hok eb) hd dd ?_
  have q:=(rel.val k).isSome_eq
  rw[Option.isSome_map] at q
  rw[←q,←l]
  exact h _ (I.tok _)
theorem Jc{h':Heap}{t':Nat}{ob:HO}(I:Inv X pins σ H s)(mu:Mut (H a))(hs:Heap.SameBut a s.heap h')(he:∃q,h'.get? a=some q)(new:ObjOk X.prog X.w (upd H a ob) h' a ob) :
  Inv X pins σ (upd H a ob) {s with heap:=h',toks:=t'}:=
 I.write (x:=a) (e:=a) mu (.inl rfl) (λb q hb z=>(hs.2 b hb).trans z) he new
theorem z4v{P:Program}{w:World}{H':Hp}{h':Heap}{kvs:List (Key×V)}{vs:List (Key×Value)}(z:kvs.length<=sizeLine)(hd:(a == sysModules)=false)(rel:KV kvs vs)(dd:h'.DictOf (zJ P w) a vs) :
  ObjOk P w H' h' a (.dK kvs):=⟨z,hd,vs,rel,dd⟩
theorem Kx{H':Hp}{Q:Unit->Shared->Prop}(hu:A.units+1<cLine)(I:Inv X pins σ H s)(g:DPut H a y v H')(ry:RelV y u)(rv:RelV v r)(h:∀s',Inv X pins σ H' s'->Q () s') :
  wpAny (model X.prog X.w) A (setItem (.ref a) u r) Q E s:=by
 rcases g with⟨kvs,k,e,ey,l,eH⟩|⟨kvs,k,b,e,ey,eb,l,eH⟩
 ·subst ey eH
  obtain⟨z,hd,vs,rel,dd⟩:=z5J I.hok e
  have hz:vs.length<=sizeLine:=by rw[←rel.length];exact z
  have hl:(putK kvs k v).length<=sizeLine:=by have:=xH kvs k v;omega
  refine wpAny_setItem_pairs (hsz:=hz) (Zk ry) dd λh' dd' hs=>h _ ?_
  have he:∃q,h'.get? a=some q:=let ⟨q,_,_,hq,_⟩:=dd';⟨q,hq⟩
  exact Jc I (by rw[e];exact True.intro) hs he (z4v hl hd (rel.put k rv) dd')
 ·subst ey eH
  cases (show u=Value.ref b from ry)
  obtain⟨z,hd,xs,rel,dd⟩:=z4Z I.hok e
  have hz:xs.length<=sizeLine:=by rw[←Paired.length rel];exact z
  have hl:(putK kvs k v).length<=sizeLine:=by have:=xH kvs k v;omega
  refine wpAny_setItem_heap (hsz:=hz) (tupleKind_room_in1 hu) (xj I.hok eb) dd λh' dd' hs=>h _ ?_
  obtain⟨q,es,ep,hq,h2,h3,h4,_,h5⟩:=dd'
  refine Jc I (by rw[e];exact True.intro) hs ⟨q,hq⟩ ⟨hl,hd,_,(rel.put k eb rv).keeps λc ys ec=>?_,q,es,ep,hq,h2,h3,h4,h5⟩
  rw[z7 (z4U ec e (λz=>nomatch z))]
  exact ec
end
noncomputable def z0g(i:Expr):Prop:=∀ov iv,subscripted i false ov iv=operate [ov,iv] (getItem ov iv)
theorem z0I{prog:Program}{w:World}{A:Around}{E:Value->Shared->Prop}{s:Shared}{env:Env}{value slice:Expr}{pos:Pos}{T id:String}{Q:Value->Shared->Prop}
  (hl:typeLookup (.type T) "__getitem__"=pure (some (.builtin id))) (hs:z0g slice)
  (h:wpAny (model prog w) A (eval value env) (λo s₁=>wpAny (model prog w) A (eval slice env) (λi s₂=>s₂.TypeIs o T/\wpAny (model prog w) A (getItem o i) Q E s₂) E s₁) E s) :
  wpAny (model prog w) A (eval (.Subscript value slice pos) env) Q E s:=by
 refine Subscript_ (wpAny_mono h (λo s₁ h₁=>wpAny_mono h₁ (λi s₂ h₂=>?_) λ_ _ x=>x) λ_ _ x=>x)
 obtain⟨hT,h₂⟩:=h₂
 unfold subscriptTail
 refine wpAny_bind ?_
 rw[getitemInPython_of_ne hT.not_modules]
 refine wpAny_bind (wpAny_specialOf hT hl ?_)
 have fin:wpAny (model prog w) A (subscripted slice false o i) (λr s₃=>wpAny (model prog w) A (letTemporaryGo value o r >>= λ_=>pure r) Q E s₃) E s₂:=by
  rw[hs o i]
  exact wpAny_operating (wpAny_mono h₂ (λr s₃ h₃=>wpAny_bind (wpAny_letTemporaryGo (wpAny_pure h₃))) λ_ _ x=>x)
 first
  |exact wpAny_pure (wpAny_bind fin)
  |exact wpAny_bind (wpAny_pure (wpAny_bind fin))
  |exact wpAny_bind fin
theorem Ws{X:Cx}{pins:List (Addr×Obj)}{σ:St}{H:Hp}{s:Shared}{a:Addr}{y:V}{o:Option V}(I:Inv X pins σ H s)(g:DGet H a y o):s.TypeIs (.ref a) "dict":=by
 rcases g with⟨kvs,k,e,_,_⟩|⟨kvs,k,b,e,_,_,_⟩
 ·obtain⟨_,_,vs,_,dd⟩:=uq I.hok e
  exact dd.typeIs
 ·obtain⟨_,_,xs,_,dd⟩:=uG I.hok e
  exact dd.typeIs
noncomputable def z4V(td ty:TE):TE:=λσ H Q=>td σ H λx H1=>ty σ H1 λy H2=>∃a v,x=.ref a/\DGet H2 a y (some v)/\Q v H2
section
variable {X:Cx}{o i e value:Expr}{pos pos' tpos:Pos}{td ty tv:TE}
theorem UY(hu:X.A.units+1<cLine)(ho:PE X o td)(hi:PE X i ty)(hs:z0g i):PE X (.Subscript o i pos) (z4V td ty):=by
 intro pins s σ H Q I h
 refine z0I PySem.F.slot_dict_getitem.lookup hs (thn (ho pins s σ H _ I h) λu s1 ⟨x,H1,I1,rx,q1⟩=>thn (hi pins s1 σ H1 _ I1 q1) λiv s2 ⟨y,H2,I2,ry,a,v,ex,g,q2⟩=>?_)
 subst ex
 obtain rfl:u=Value.ref a:=rx
 exact⟨Ws I2 g,Kc hu I2 g ry λw' s3 I3 rw'=>⟨v,H2,I3,rw',q2⟩⟩
end
theorem U6{P:Program}{w:World}{H:Hp}(h:Heap)(hb:sysModules<h.objs.size):ObjOk P w H (h.push {cls:=.type "dict",data:=.dict #[]}) h.objs.size (.dK []):=
 ⟨Nat.zero_le _,beq_eq_false_iff_ne.mpr (Ne.symm (Nat.ne_of_lt hb)),[],.nil,Heap.DictOf.new h⟩
noncomputable def z1Z:TE:=λ_ H Q=>∀p,H p=none->Q (.ref p) (upd H p (.dK []))
section
variable {X:Cx}{pos:Pos}
theorem Xj:PE X (.Dict [] [] pos) z1Z:=λpins s σ H Q I h=>
 wpAny_Dict_empty ⟨.ref s.heap.objs.size,_,I.laid (a:=s.heap.objs.size) (o:=.dK []) (t':=s.toks) (λ_ _ q=>Heap.get?_push_of_some _ q) (Nat.le_refl _) (U6 s.heap I.big),rfl,h _ (I.hok.fresh (Nat.le_refl _))⟩
end
structure M1(X:Cx)(o:Expr)(m:Str)(apos:Pos)(e:Expr)(cpos:Pos):Prop where
 base:attributeBase o m X.env (eval o X.env)=eval o X.env
 few:((backTo cpos (starEach [e] X.env)).all (λx=>!x.1)&&(backToKw cpos (keywordEach [] X.env)).all (λx=>x.1.isSome)
  &&decide (([e]:List Expr).length+([]:List Keyword).length+(if ([]:List Keyword).isEmpty then 0 else 1)<30))=true
 line:(apos.endLine == cpos.line)=true
 trees:backTo cpos (starEach [e] X.env)=[(false,eval e X.env)]
noncomputable def IsD (H:Hp)(a:Addr):Prop:=(∃kvs,Rd H a (.dK kvs))\/∃kvs,Rd H a (.dT kvs)
theorem z4a{X:Cx}{pins:List (Addr×Obj)}{σ:St}{H:Hp}{s:Shared}{a:Addr}(I:Inv X pins σ H s)(d:IsD H a) :
  s.TypeIs (.ref a) "dict"/\(∀b,Value.ref a=.ref b->∃ob,s.heap.get? b=some ob/\ob.dict=none)/\(a == sysModules)=false:=by
 rcases d with⟨kvs,e⟩|⟨kvs,e⟩
 ·obtain⟨_,hd,vs,_,dd⟩:=uq I.hok e
  refine⟨dd.typeIs,λb q=>?_,hd⟩
  cases q
  obtain⟨ob,_,_,h1,h2,_⟩:=dd
  exact⟨ob,h1,h2.2.1⟩
 ·obtain⟨_,hd,xs,_,dd⟩:=uG I.hok e
  refine⟨dd.typeIs,λb q=>?_,hd⟩
  cases q
  obtain⟨ob,_,_,h1,h2,_⟩:=dd
  exact⟨ob,h1,h2.2.1⟩
section
variable {X:Cx}{pins:List (Addr×Obj)}{σ:St}{H:Hp}{s:Shared}{a:Addr}{y d:V}{u r:Value}{o:Option V}{A:Around}{E:Value->Shared->Prop}
theorem z3M{Q:Value->Shared->Prop}(hu:A.units+1<cLine)(I:Inv X pins σ H s)(g:DGet H a y o)(ry:RelV y u)(h:∀w' s',Inv X pins σ H s'->RelV (o.getD .non) w'->Q w' s') :
  wpAny (model X.prog X.w) A (call (.builtin "dict.get") [.ref a,u]) Q E s:=by
 rcases g with⟨kvs,k,e,ey,l⟩|⟨kvs,k,b,e,ey,eb,l⟩
 ·subst ey
  obtain⟨z,hd,vs,rel,dd⟩:=uq I.hok e
  refine call_meetsIn PySem.F.slot_dict_get dd.typeIs PySem.F.entry_dict_get (PySem.F.args_dict_get_2 _ _) (meets_dict_get (zJ X.prog X.w) a (Zk ry) hd) ⟨_,dd.mapOf,h _ _ (I.tok _) ?_⟩
  rw[l]
  exact (rel.val k).getD rfl
 ·subst ey
  cases (show u=Value.ref b from ry)
  obtain⟨z,hd,xs,rel,dd⟩:=uG I.hok e
  refine call_meetsIn PySem.F.slot_dict_get dd.typeIs PySem.F.entry_dict_get (PySem.F.args_dict_get_2 _ _) (meetsH_dict_get (tupleKind (zJ X.prog X.w)) a b hd) ⟨tupleKind_room_in1 hu,k,xs,xj I.hok eb,dd,h _ _ (I.tok _) ?_⟩
  rw[l]
  exact (rel.val k).getD rfl
end
noncomputable def z2D(td ty:TE):TE:=λσ H Q=>td σ H λx H1=>∃a,x=.ref a/\IsD H1 a/\ty σ H1 λy H2=>∃o,DGet H2 a y o/\Q (o.getD .non) H2
section
variable {X:Cx}{o e f:Expr}{apos cpos:Pos}{td ty tx:TE}
theorem Yh (hu:X.A.units+1<cLine) (ho:PE X o td) (he:PE X e ty) (m:M1 X o "get" apos e cpos):PE X (.Call (.Attribute o "get" apos) [e] [] cpos) (z2D td ty):=by
 intro pins s σ H Q I h
 refine wpAny_Call_method m.base m.few m.line PySem.F.plainAttrs_dict PySem.F.slot_dict_get PySem.F.type_dict_get (thn (ho pins s σ H _ I h) λu s1 ⟨x,H1,I1,rx,a,ex,d,q1⟩=>?_)
 subst ex
 obtain rfl:u=Value.ref a:=rx
 obtain⟨t1,t2,_⟩:=z4a I1 d
 refine⟨t1,t2,?_⟩
 rw[m.trees]
 refine Calls.callWith_builtin rfl (Calls.evalArgs_plain (Calls.spliced_cons (thn (he pins s1 σ H1 _ I1 q1) λiv s2 ⟨y,H2,I2,ry,ov,g,q2⟩=>Calls.spliced_nil ?_)))
 exact z3M hu I2 g ry λw' s3 I3 rw'=>⟨_,H2,I3,rw',q2⟩
end
end L2
end
section
namespace NH
open PySem PySem.Spec PyProof.Rows L2
noncomputable def zd(z:Key):List (Key×T)->Option T
 |[]=>none
 |p::r=>if p.1=z then some p.2 else zd z r
noncomputable def wI (z:Key)(t:T)(kvs:List (Key×T)):List (Key×T):=
 if (kvs.any λkv=>decide (kv.1=z))=true then kvs.map (λkv=>if kv.1=z then (kv.1,t) else kv) else kvs++[(z,t)]
noncomputable abbrev Zb:De:=λ_ μ=>.ok (.mut μ.length) (μ++[.dic []])
noncomputable abbrev z4E:De:=λ_ μ=>.ok (.dic []) μ
noncomputable abbrev XU(o f:De):De:=λτ μ=>(o τ μ).bind λot μ1=>match ot with
 |.mut i=>λK Z=>(∃kvs,μ1[i]?=some (.dic kvs))/\f τ μ1 (λkt μ2=>match kt with
  |.str z=>∃kvs,μ2[i]?=some (.dic kvs)/\K ((zd (.inr z) kvs).getD .non) μ2
  |_=>False) Z
 |_=>.st
section
variable {X:Cx}{D:DP}{W:XW}{Γ:Cn}{k:Nat}{pins:List (Addr×Obj)}{s:Shared}{σ:St}{H:Hp}{φ α:List Addr}{τ:Sl}{μ:Mem}{f g:De}{a b:Expr}{pos:Pos}
theorem Zw{z:Key}:∀{kvs:List (Key×T)} {gs:List (Key×V)},DenK D φ α H kvs gs->Den D φ α H ((zd z kvs).getD .non) ((v_ gs z).getD .non)
 |[],_,h=>by cases h;rfl
 |p::r,_,h=>by
  obtain⟨v,q,rfl,d,l⟩:=h
  unfold zd
  by_cases e:p.1=z
  ·rw[if_pos e,wV (p:=(p.1,v)) e];exact d
  ·rw[if_neg e,wA (p:=(p.1,v)) e];exact Zw l
theorem WO{z:Key}:∀{kvs:List (Key×T)} {gs:List (Key×V)},DenK D φ α H kvs gs->(gs.any λkv=>decide (kv.1=z))=(kvs.any λkv=>decide (kv.1=z))
 |[],_,h=>by cases h;rfl
 |p::r,_,h=>by
  obtain⟨v,q,rfl,d,l⟩:=h
  rw[List.any_cons,List.any_cons,WO l]
theorem uI:∀{kvs:List (Key×T)} {gs:List (Key×V)},DenK D φ α H kvs gs->gs.length=kvs.length
 |[],_,h=>by cases h;rfl
 |p::r,_,h=>by
  obtain⟨v,q,rfl,d,l⟩:=h
  rw[List.length_cons,List.length_cons,uI l]
theorem yQ{z:Key}{t:T}{w:V}(dt:Den D φ α H t w):∀{kvs:List (Key×T)} {gs:List (Key×V)},DenK D φ α H kvs gs->DenK D φ α H (kvs.map λkv=>if kv.1=z then (kv.1,t) else kv) (gs.map λkv=>if kv.1=z then (kv.1,w) else kv)
 |[],_,h=>by cases h;rfl
 |p::r,_,h=>by
  obtain⟨v,q,rfl,d,l⟩:=h
  rw[List.map_cons,List.map_cons]
  by_cases e:p.1=z
  ·rw[if_pos e,if_pos (show (p.1,v).1=z from e)];exact⟨w,_,rfl,dt,yQ dt l⟩
  ·rw[if_neg e,if_neg (show ¬(p.1,v).1=z from e)];exact⟨v,_,rfl,d,yQ dt l⟩
theorem ZN{z:Key}{t:T}{w:V}(dt:Den D φ α H t w):∀{kvs:List (Key×T)} {gs:List (Key×V)},DenK D φ α H kvs gs->DenK D φ α H (kvs++[(z,t)]) (gs++[(z,w)])
 |[],_,h=>by cases h;exact⟨w,[],rfl,dt,rfl⟩
 |p::r,_,h=>by
  obtain⟨v,q,rfl,d,l⟩:=h
  exact⟨v,_,rfl,d,ZN dt l⟩
theorem Wm{z:Key}{t:T}{w:V}{kvs:List (Key×T)}{gs:List (Key×V)}(dt:Den D φ α H t w)(h:DenK D φ α H kvs gs):DenK D φ α H (wI z t kvs) (putK gs z w):=by
 unfold wI putK
 rw[WO h]
 split
 ·exact yQ dt h
 ·exact ZN dt h
theorem z0o:PE X (.Dict [] [] pos) (rdE D W Zb):=by
 refine PE.mono Xj ?_
 rintro σ H Q ⟨φ,α,τ,μ,sr,mr,p⟩
 intro x hx
 refine Post.ok p (vT hx) (mr.layO hx ⟨[],z6,rfl⟩) _ ⟨x,?_,rfl⟩
 rw[←mr.len,List.getElem?_append_right (Nat.le_refl _)];simp
theorem z1d (C : Ck D W Γ X k) {o : Expr} {pa pc : Pos} {go : De} (hp : zL o = true) (hs : noStar a = true) (hline : (pa.endLine == pc.line) = true) (ho : PE X o (rdE D W go)) (ha : PE X a (rdE D W f)) :
    PE X (.Call (.Attribute o "get" pa) [a] [] pc) (rdE D W (XU go f)) := by
  have hb : starEach [a] X.env = [(false,eval a X.env)] := z4 hs
  refine PE.mono (Yh (by have := C.unt; omega) ho ha ⟨qB hp,by rw [hb]; rfl,hline,by rw [hb]; rfl⟩) ?_
  rintro σ H Q ⟨φ,α,τ,μ,sr,mr,p⟩
  refine ⟨φ,α,τ,μ,sr,mr,p.bind.mono fun ot μ1 α1 H1 st1 m1 q ov dv => ?_⟩
  cases ot with
  | «mut» i =>
    obtain ⟨K,Z,⟨⟨kvs0,h0⟩,hf⟩,hk,hz⟩ := q
    obtain ⟨x,hx,rfl⟩ := dv
    obtain ⟨gs0,hH0,l0⟩ := m1.ob _ x _ hx h0
    refine ⟨x,rfl,.inl ⟨_,.inl hH0⟩,φ,α1,τ,μ1,sr.step st1,m1,_,Z,hf,?_,hz⟩
    intro kt μ2 hkt α2 H2 st2 m2 v d
    cases kt with
    | str z =>
      obtain ⟨kvs,h2,q2⟩ := hkt
      obtain ⟨β,e2,_⟩ := st2.ext
      have hx2 : α2[i]? = some x := by
        rw [e2,List.getElem?_append_left (List.getElem?_eq_some_iff.mp hx).1]; exact hx
      obtain ⟨gs,hH,l⟩ := m2.ob i x _ hx2 h2
      have d : v = .str z := d
      subst d
      exact ⟨_,DGet.k (k := .inr z) hH,hk _ _ q2 α2 H2 st2 m2 _ (Zw l)⟩
    | _ => exact hkt.elim
  | _ => exact Post.elim q
end
noncomputable def z6h:ER:=λ_ _ e=>match e with
 |.Dict [] [] _=>some z4E
 |_=>none
noncomputable def VU:ER:=λ_ _ e=>match e with
 |.Dict [] [] _=>some Zb
 |_=>none
theorem JR{D:DP}:EOk D VU:=by
 intro r H X W Γ k e d C h
 unfold VU at h
 split at h
 ·cases h;exact z0o
 ·cases h
noncomputable def z1v:ER:=rM1 "get" XU
theorem YU{D:DP}:EOk D z1v:=YN λC hp hs hl ho ha=>z1d C hp hs hl ho ha
end NH
end
section
namespace NH.P
open PySem L2 NH
@[reducible] noncomputable def yt:List Ds:=[(zj (QJ (vW [2] (eV 0)) (z0m (vW [1] (eV 0)))))]
noncomputable def qg:Fn:=fnW 1 0 yt
@[reducible] noncomputable def xJ:List Ds:=[(sIf (tOr (zQ (tE (vW [3] (eV 0)))) (zQ (tE (eCh (eC (.int 1)) [(.LtE,(eB1 vF (eV 0))),(.LtE,(eC (.int 8)))])))) [(zj (eC (.bl false)))] []),(zj (eB1 K4 (qL 1 [] (.one 0) (iE (eV 0)) [] (zu .In (eV 0) (eC (.str "abcdefghijklmnopqrstuvwxyz"))))))]
noncomputable def qy:Fn:=fnW 1 0 xJ
@[reducible] noncomputable def yn:List Ds:=[(sIf (vj (tE (zu .Eq (za .Mod (eV 0) (eC (.int 2))) (eC (.int 0)))) (tE (zu .Gt (za .RShift (eV 0) (za .Add (eC (.int 1)) (za .Mult (eC (.int 31)) (eV 1)))) (eC (.int 0))))) [(zj (za .Mod (za .RShift (eV 0) (za .Add (eC (.int 1)) (za .Mult (eC (.int 31)) (eV 1)))) (eC (.int 2147483648))))] []),(zq 2 (za .Mod (za .Mult (za .Mod (za .Add (za .Add (eV 0) (za .Mult (eC (.int 7919)) (eV 1))) (eC (.int 1))) (eC (.int 2147483647))) (eC (.int 48271))) (eC (.int 2147483647)))),(zq 2 (za .Mod (za .Mult (eV 2) (za .Add (za .FloorDiv (eV 2) (eC (.int 1009))) (eC (.int 69621)))) (eC (.int 2147483647)))),(zj (za .Mod (za .Mult (eV 2) (za .Add (za .FloorDiv (eV 2) (eC (.int 2003))) (eC (.int 40692)))) (eC (.int 2147483399))))]
noncomputable def zR:Fn:=fnW 2 1 yn
@[reducible] noncomputable def Jx:List Ds:=[(zq 3 (eC (.int 0))),(kR (.one 4) (Kt (eC (.int 5))) [(zq 3 (za .Add (za .Mult (eV 3) (eC (.int 2147483648))) (z8 zR [(eV 0),(za .Add (eV 1) (eV 4))])))]),(zj (za .Mod (eV 3) (eV 2)))]
noncomputable def WA:Fn:=fnW 3 2 Jx
end NH.P
end
section
namespace NH.P
open PySem L2 NH
@[reducible] noncomputable def Zr:List Ds:=[(zj (QJ (z8 qg [(eV 0)]) (zu .GtE (eV 0) (eC (.int 1)))))]
noncomputable def w6:Fn:=fnW 1 0 Zr
@[reducible] noncomputable def uD:List Ds:=[(zj (QJ (z8 qg [(eV 0)]) (eCh (eC (.int 0)) [(.LtE,(eV 0)),(.Lt,(eV 1))])))]
noncomputable def qf:Fn:=fnW 2 0 uD
@[reducible] noncomputable def jP:List Ds:=[(sIf (zQ (vj (tE (z8 w6 [(eV 1)])) (vj (tE (z8 w6 [(eV 2)])) (tE (z8 w6 [(eV 3)]))))) [(zy 12 [(eC (.str "a shape has three whole numbers from 1 on"))])] []),(qb (eV 0) 0 (eV 1)),(qb (eV 0) 1 (eV 2)),(qb (eV 0) 2 (eV 3))]
noncomputable def vk:Fn:=fnW 4 0 jP
@[reducible] noncomputable def yR:List Ds:=[(zj (za .Mult (za .Mult (z9 (eV 0) 0) (z9 (eV 0) 1)) (z9 (eV 0) 2)))]
noncomputable def j_:Fn:=fnW 1 0 yR
@[reducible] noncomputable def Ze:List Ds:=[(zj (z8 qf [(eV 1),(z8 j_ [(eV 0)])]))]
noncomputable def vU:Fn:=fnW 2 0 Ze
@[reducible] noncomputable def kH:List Ds:=[(sIf (zQ (tE (z8 vU [(eV 0),(eV 1)]))) [(zy 13 [(eC (.str "no name of the shape"))])] [])]
noncomputable def ve:Fn:=fnW 2 0 kH
@[reducible] noncomputable def xy:List Ds:=[(sIf (tE (zu .Lt (eV 1) (eB1 vF (eV 0)))) [(zj (eIx (eV 0) (eV 1)))] []),(zj (eC (.int 0)))]
noncomputable def vQ:Fn:=fnW 2 0 xy
end NH.P
end
section
namespace NH.P
open PySem L2 NH
@[reducible] noncomputable def yu:List Ds:=[(zI (z8 ve [(eV 0),(eV 1)])),(zq 2 (za .Mod (eV 1) (z9 (eV 0) 2))),(zq 3 (za .FloorDiv (eV 1) (z9 (eV 0) 2))),(zj (qP [(za .FloorDiv (eV 3) (z9 (eV 0) 1)),(za .Mod (eV 3) (z9 (eV 0) 1)),(eV 2)]))]
noncomputable def vD:Fn:=fnW 2 2 yu
@[reducible] noncomputable def ui:List Ds:=[(sIf (tOr (zQ (tE (vW [4] (eV 1)))) (tE (zu .NotEq (eB1 vF (eV 1)) (eC (.int 2))))) [(zj (eC (.bl false)))] []),(zj (QJ (z8 qy [(eIx (eV 1) (eC (.int 0)))]) (z8 vU [(eV 0),(eIx (eV 1) (eC (.int 1)))])))]
noncomputable def kF:Fn:=fnW 2 0 ui
@[reducible] noncomputable def jD:List Ds:=[(sIf (tOr (zQ (tE (vW [5] (eV 1)))) (zQ (tE (eB1 K4 (qL 1 [0] (.one 0) (iE (eV 1)) [] (z8 kF [(eV 1),(eV 0)])))))) [(zy 13 [(eC (.str "no list of holders and names of the shape"))])] [])]
noncomputable def v5:Fn:=fnW 2 0 jD
@[reducible] noncomputable def wK:List Ds:=[(sIf (tE (zu .Eq (eIx (eV 0) (eC (.int 0))) (eIx (eV 1) (eC (.int 0))))) [(zj (zu .Lt (eIx (eV 0) (eC (.int 1))) (eIx (eV 1) (eC (.int 1)))))] []),(zj (zu .NotEq (eSl (eIx (eV 0) (eC (.int 1))) pN (pS (eC (.int 2)))) (eSl (eIx (eV 1) (eC (.int 1))) pN (pS (eC (.int 2))))))]
noncomputable def qr:Fn:=fnW 2 0 wK
end NH.P
end
section
namespace NH
open PySem PySem.Spec PyProof.Rows L2
section
variable {X:Cx}{D:DP}{W:XW}{Γ:Cn}{k:Nat}{pins:List (Addr×Obj)}{s:Shared}{σ:St}{H:Hp}{φ α:List Addr}{τ:Sl}{μ:Mem}
theorem jW{q:Addr}{o:Obj}(I:Inv X pins σ H s)(h1:s.heap.get? q=some o)(h2:H q=none)(h3:q≠X.env.locals)(h4:q∉X.fs)(h5:∀v,o.data≠.cell v):Inv X ((q,o)::pins) σ H s:=
 ⟨I.ok,I.os,I.bare,I.base,I.loc,I.cell,I.free,I.freeC,λp hp=>by
  rcases List.mem_append.mp hp with z|z
  ·exact I.pin p (List.mem_append_left _ z)
  ·rcases List.mem_cons.mp z with rfl|z
   ·exact⟨h1,h2,h3,h4,h5⟩
   ·exact I.pin p (List.mem_append_right _ z),I.hok,I.len⟩
theorem qW{p:Addr×Obj}(I:Inv X (p::pins) σ H s):Inv X pins σ H s:=
 ⟨I.ok,I.os,I.bare,I.base,I.loc,I.cell,I.free,I.freeC,λp hp=>by
  rcases List.mem_append.mp hp with z|z
  ·exact I.pin p (List.mem_append_left _ z)
  ·exact I.pin p (List.mem_append_right _ (List.mem_cons_of_mem _ z)),I.hok,I.len⟩
theorem Kd{P:Program}{w:World}{H:Hp}{h:Heap}{c:Addr}{qn:Str}(r:h.CodeRec (.ref c) qn):ObjOk P w H h c (.ext (wk c qn)):=by
 obtain⟨c',oc,vs,tq,e1,e2,e3,e4⟩:=id r
 cases e1
 refine⟨r,⟨oc,e2⟩,λh1 h2 p kk=>?_⟩
 obtain⟨c',oc,vs,tq,e1,e2,e3,e4⟩:=p
 cases e1
 exact⟨c,oc,vs,tq,rfl,kk _ e2,e3,e4⟩
theorem jG{a b c:Value}:∀(l:List Value),TriplesOk l->∀{x y:Int} {t u:Tok},TriplesOk (l++[.int x t,.int y u,c])
 |[],_,_,_,_,_=>trivial
 |[_],h,_,_,_,_=>by simp[TriplesOk] at h
 |[_,_],h,_,_,_,_=>by simp[TriplesOk] at h
 |p::q::r::l,h,x,y,t,u=>by
  cases p with
  |int _ _=>
   cases q with
   |int _ _=>exact jG (a:=a) (b:=b) l h
   |_=>exact h.elim
  |_=>exact h.elim
theorem Vo{pos p:Pos}{c:Value}:∀(l:List Value),TriplesOk l->codeAmong pos l=none->codeAmong p (l++[rawInt pos.line,rawInt pos.col,c])=some c\/codeAmong p (l++[rawInt pos.line,rawInt pos.col,c])=codeAmong p l:=by
 intro l h hn
 fun_induction TriplesOk l with
 |case1=>
  by_cases q:((pos.line:Int) == (p.line:Int)&&(pos.col:Int) == (p.col:Int))=true
  ·left;simp only[List.nil_append,codeAmong,rawInt];rw[if_pos q]
  ·right;simp only[List.nil_append,codeAmong,rawInt];rw[if_neg q]
 |case2 a t b u x rest ih=>
  simp only[List.cons_append,codeAmong] at hn ⊢
  split at hn
  ·cases hn
  ·split
   ·exact .inr rfl
   ·exact ih h hn
 |case3 l h1 h2=>exact h.elim
theorem X3{params:Arguments}{body:Expr}{scope:Scope}{pos:Pos}{line i j:Nat}{qn:Str}{c P:Addr}{Q:Value->Shared->Prop}(I:Inv X pins σ H s)(mr:MRel D φ α H μ)(hi:μ[i]?=some (.tab j)){poss:List Pos}(hD:D.tabs j=some (P,poss,qn))(hpp:pos∈poss)
  (hcode:X.env.code=.ref c) (hC:PySem.W.CodeHd X.base c P) (hB:X.base.BuiltinsAt X.mg P) (hcl:closureFor scope X.env=pure [])
  (h:∀q c' ctv H' s',Inv X ((q,PySem.W.kla_obj "<lambda>" qn params body scope [] ((X.mg "__name__").getD .none) c' ctv)::pins) σ H' s'->Stp α H α H'->MRel D φ α H' μ->c'∉α->H' c'=some (.ext (wk c' qn))->(c'∉φ/\XOk X H' q/\∀p∈pins,p.1≠q)->Q (.ref q) s') :
  wpAny (model X.prog X.w) X.A (makeFunction "<lambda>" qn params (.expr body) scope X.env [] [] [] pos line) Q X.xe s:=by
 have hia:∃a,α[i]?=some a:=⟨_,List.getElem?_eq_getElem (by rw[mr.len];exact (List.getElem?_eq_some_iff.mp hi).1)⟩
 obtain⟨a,ha⟩:=hia
 obtain⟨pos',qn',ps,hD',hH,htr,hall⟩:=mr.ob i a _ ha hi
 rw[hD] at hD'
 cases hD'
 have hcase:=hall pos hpp
 have hP:s.heap.get? P=some (PySem.W.tabObj ps):=I.hok P _ hH
 have hg:s.heap.Ns mainGlobals X.mg:=I.ok.mod.glob.keeps I.bk
 have hCs:PySem.W.CodeHd s.heap c P:=hC.keeps I.bk
 have hBs:s.heap.BuiltinsAt X.mg P:=by
  obtain⟨bm,o,b1,b2,b3,b4,b5,b6⟩:=hB
  exact⟨bm,o,b1,b2,b3,b4,I.bk _ _ b5,b6⟩
 have hPa:P∈α:=List.mem_of_getElem? ha
 have nL:X.env.locals≠P:=λz=>by have:=I.free;rw[z,hH] at this;cases this
 rcases hcase with hmiss|⟨c',hhit,n1,n2,hc'⟩
 ·have hgP:mainGlobals≠P:=λz=>by
   obtain⟨o,es,ep,e,hd,_⟩:=hg
   rw[z,hP] at e;cases e;cases hd
  refine PySem.W.kla_makeFunction (mg:=X.mg) hcl I.ok.glob hg hcode hCs hP htr hmiss hgP hBs λc' ctv h' tk hx hge hlt hrec htb=>?_
  have hc0:H c'=none:=I.hok.fresh hge
  have hcP:c'≠P:=λz=>by rw[z,hH] at hc0;cases hc0
  have lt_of:∀{b o},s.heap.get? b=some o->b≠c':=λ{b o} e z=>absurd (Nat.lt_of_lt_of_le (Heap.lt_size e) hge) (by rw[z];exact Nat.lt_irrefl _)
  generalize hH':upd (upd H c' (.ext (wk c' qn))) P (.tbl (ps++#[rawInt pos.line,rawInt pos.col,.ref c']))=H'
  have HP:H' P=some (.tbl (ps++#[rawInt pos.line,rawInt pos.col,.ref c'])):=by rw[←hH'];exact z6
  have Hc:H' c'=some (.ext (wk c' qn)):=by rw[←hH',z7 hcP];exact z6
  have Ho:∀b,b≠P->b≠c'->H' b=H b:=λb h1 h2=>by rw[←hH',z7 h1,z7 h2]
  have Hs:∀b o,b≠P->H b=some o->H' b=some o:=λb o h1 e=>by rw[Ho b h1 (zF e hc0)];exact e
  have rec2:(h'.push (PySem.W.kla_obj "<lambda>" qn params body scope [] ((X.mg "__name__").getD .none) c' ctv)).CodeRec (.ref c') qn:=by
   obtain⟨c2,oc,vs,tq,e1,e2,e3⟩:=hrec
   exact⟨c2,oc,vs,tq,e1,Heap.get?_push_of_some _ e2,e3⟩
  have J:Inv X pins σ H' {s with heap:=h'.push (PySem.W.kla_obj "<lambda>" qn params body scope [] ((X.mg "__name__").getD .none) c' ctv),toks:=tk}:=by
   refine I.step (g':=s.gens) (d':=s.drawn) (ch:=[]) (λ_ z=>nomatch z) (λb o _ _ _ e n=>?_) (λb o _ _ _ e n=>⟨o.slots,?_⟩) (λb o _ e n=>?_) (λb o _ e=>?_) (λb xs e=>?_) (λb o u e=>?_) (λb qs e=>?_) (λm hm=>?_) (λb u e=>?_) I.bare
   ·exact Heap.get?_push_of_some _ (hx b o (λz=>by rw[z,hH] at n;cases n) e)
   ·exact Heap.get?_push_of_some _ (hx b o (λz=>by rw[z,hH] at n;cases n) e)
   ·rw[Ho b (λz=>by rw[z,hH] at n;cases n) (lt_of e)];exact n
   ·by_cases z:b=P
    ·rw[z];exact⟨_,Heap.get?_push_of_some _ htb⟩
    ·exact⟨o,Heap.get?_push_of_some _ (hx b o z e)⟩
   ·exact Hs b _ (λz=>by rw[z,hH] at e;cases e) e
   ·exact Hs b _ (λz=>by rw[z,hH] at e;cases e) e
   ·by_cases z:b=P
    ·rw[z,hH] at e;cases e;rw[z];exact⟨_,HP⟩
    ·exact⟨#[],by rw[Hs b _ z e];simp⟩
   ·exact (hm.extBut hx nL).push _
   ·by_cases z:b=P
    ·subst z
     rw[HP] at e;cases e
     exact Heap.get?_push_of_some _ htb
    ·by_cases z2:b=c'
     ·subst z2
      rw[Hc] at e;cases e
      exact Kd rec2
     ·rw[Ho b z z2] at e
      refine (I.hok b u e).stay (λc v hc q=>?_) (λc q=>?_) λc xs q=>?_
      ·refine Heap.get?_push_of_some _ (hx c v (λw=>?_) q)
       rcases hc with hc|hc
       ·exact z (hc▸w)
       ·rw[w,hH] at hc;cases hc
      ·exact Hs c _ (λw=>by rw[w,hH] at q;cases q) q
      ·exact Hs c _ (λw=>by rw[w,hH] at q;cases q) q
  have fresh:s.heap.objs.size<=h'.objs.size:=Nat.le_of_lt (Nat.lt_of_le_of_lt hge hlt)
  have hqP:h'.objs.size≠P:=λz=>absurd (Heap.lt_size htb) (by rw[←z];exact Nat.lt_irrefl _)
  have hqc:h'.objs.size≠c':=Nat.ne_of_gt hlt
  have nq:H' h'.objs.size=none:=by rw[Ho _ hqP hqc];exact I.hok.fresh fresh
  have st:Stp α H α H':=⟨⟨[],by simp,by simp⟩,λb o n e=>Hs b o (λz=>n (z▸hPa)) e,λb e=>by
   by_cases z:b=P
   ·rw[z,HP] at e;cases e
   ·by_cases z2:b=c'
    ·rw[z2];exact hc0
    ·rw[Ho b z z2] at e;exact e⟩
  refine h h'.objs.size c' ctv H' _ (jW J (Heap.get?_push_size _ rfl) nq (Nat.ne_of_gt (Nat.lt_of_lt_of_le I.lt fresh)) (I.nofs fresh) (λv z=>by cases z)) st ?_ (zi mr hc0) Hc ⟨zh mr hc0,Xh (I.fpOk fresh nq)⟩
  refine⟨mr.len,mr.nd,mr.dis,λb hb=>?_,λi' a' o' e1 e2=>?_⟩
  ·obtain⟨u,hu⟩:=mr.phi b hb
   exact⟨u,st.keep b u (λz=>mr.dis b z hb) hu⟩
  ·by_cases z:i'=i
   ·subst z
    rw[ha] at e1;cases e1
    rw[hi] at e2;cases e2
    refine⟨poss,qn,_,hD,HP,?_,λp2 hp2=>?_⟩
    ·rw[Array.toList_append]
     exact jG (a:=.none) (b:=.none) _ htr
    ·rw[Array.toList_append]
     rcases Vo (p:=p2) (c:=.ref c') _ htr hmiss with w|w
     ·exact .inr ⟨c',w,zh mr hc0,zi mr hc0,Hc⟩
     ·rw[show (#[rawInt pos.line,rawInt pos.col,.ref c']:Array Value).toList=[rawInt pos.line,rawInt pos.col,.ref c'] from rfl,w]
      refine (hall p2 hp2).imp id λ⟨c2,k1,k2,k3,k4⟩=>⟨c2,k1,k2,k3,?_⟩
      exact Hs c2 _ (λz=>k3 (z▸hPa)) k4
   ·have ne:a'≠P:=λw=>by
     obtain⟨q1,q2⟩:=List.getElem?_eq_some_iff.mp e1
     obtain⟨q3,q4⟩:=List.getElem?_eq_some_iff.mp ha
     exact z ((List.getElem_inj mr.nd).mp (q2.trans (w.trans q4.symm)))
    have d:=mr.ob i' a' o' e1 e2
    obtain⟨u,hu⟩:=d.some
    exact DenO.step st ((Hs a' u ne hu).trans hu.symm) d
 ·refine PySem.W.kla_makeFunctionHit (mg:=X.mg) hcl I.ok.glob hg hcode hCs hP htr hhit hBs λctv h' tk hk hsz=>?_
  have J:Inv X pins σ H {s with heap:=h'.push (PySem.W.kla_obj "<lambda>" qn params body scope [] ((X.mg "__name__").getD .none) c' ctv),toks:=tk}:=I.kept λb u e=>Heap.get?_push_of_some _ (hk b u e)
  exact h h'.objs.size c' ctv H _ (jW J (Heap.get?_push_size _ rfl) (I.hok.fresh hsz) (Nat.ne_of_gt (Nat.lt_of_lt_of_le I.lt hsz)) (I.nofs hsz) (λv z=>by cases z)) (Stp.refl _ _) mr n2 hc' ⟨n1,Xh (I.fpOk hsz (I.hok.fresh hsz))⟩
end
section
variable {X:Cx}{D:DP}{W:XW}{Γ:Cn}{k n:Nat}
noncomputable abbrev jN(Γ:Cn)(x:Str)(G:List Str):Cn:={Γ with N:=[x],G:=G,U:=G,cel:=[],own:=[],lam:=none}
noncomputable def Xf:GM->Bool
 |.cst _=>true
 |.none=>true
 |.xcl _=>true
 |_=>false
theorem GlOkM.lvl{D:DP}{P:Program}{w:World}{K:PySem.W.Frag}{mg:Str->Option Value}{base:Heap}{j k:Nat}{x:Str}{g:GM}(h:Xf g=true)(q:GlOkM D P w K mg base j x g):GlOkM D P w K mg base k x g:=by
 cases g<;>first|exact q|cases h
theorem XN{k0:Nat}{q c':Addr}{x:Str}{G:List Str}{params:Arguments}{body:Expr}{scope:Scope}{qn:Str}{pm ctv u:Value}{g:De}{A:Around}{outer:List Env}{s:Shared}{H:Hp}{v:V}{t:T}{φ α:List Addr}{μ:Mem}{Q:VK}
    (C:Ck D W Γ X k) (hc:Γ.calm=true) (hG:G.all (λy=>Γ.U.contains y&&Xf (Γ.gl y))=true) (hs:xR (jN Γ x G) [x] scope=true) (hE:∀Y W k,Ck D W (jN Γ x G) Y k->PE Y body (rdE D W g)) (hbind:∀(s:Shared) (u:Value),BindsTo s (PySem.W.kla_fn "<lambda>" qn params body scope [] pm (.ref c') ctv) ⟨[u],[]⟩ [(x,u)])
    (hr:Room (k0+1) A) (e0:Env0 X.prog X.w X.K X.mg X.base A outer s H) (ho:s.heap.get? q=some (PySem.W.kla_obj "<lambda>" qn params body scope [] pm c' ctv)) (hrec:s.heap.CodeRec (.ref c') qn) (r:RelV v u) (d:Den D φ α H t v) (mr:MRel D φ α H μ)
    {K0:T->Mem->Prop} (p:g [some t] μ K0 (λ_ _ _=>False)) (hK0:∀t' μ',K0 t' μ'->∀α' H' v',Stp α H α' H'->MRel D φ α' H' μ'->Den D φ α' H' t' v'->Q v' H') :
    codeAny (model X.prog X.w) A (.call (.ref q) ⟨[u],[]⟩) (CR (λ_ _ _ _ _ _=>False) outer X.prog X.w H s Q (λ_ _ _=>False)) s:=by
  simp only[xR,Bool.and_eq_true,List.all_eq_true,beq_iff_eq,Bool.not_eq_true',decide_eq_true_eq,bne_iff_ne,ne_eq] at hs
  obtain⟨⟨⟨⟨⟨⟨⟨⟨⟨h1,h2⟩,h3⟩,h4⟩,h5⟩,h6⟩,h7⟩,h8⟩,h9⟩,h10⟩:=hs
  have loc:∀y∈[x],scope.names.lookup y=some .local:=λy hy=>by
    have:=(h7 y hy).2
    simpa using this
  have S:FnScope [x] [x] scope:=⟨h1,h2,h3,h4,rfl,λy hy=>.inl (loc y hy),h6⟩
  have lim:s.heap.NoLimit:=e0.mod.nolimit.keeps λb o e=>(e0.bs b o e).1
  refine PySem.W.kla_callFunE (fd:=PySem.W.kla_fn "<lambda>" qn params body scope [] pm (.ref c') ctv) hr.depth ho rfl S.co S.gen rfl hrec (hbind s u _ _ _ _ (wpAny_newFunctionEnv_cells S.kind (λy hy=>?_) λenv he s1 y=>?_))
  · obtain ⟨y,w⟩ := y
    have:y=x:=by simpa using congrArg Prod.fst (List.mem_singleton.mp hy)
    subst this
    exact .inl (loc y (by simp))
  subst he
  refine⟨lim.keeps y.toInCall.keep,PySem.W.kla_codeExpr ?_⟩
  have I0:=k_ (CX:=λ_ _ _ _ _ _=>False) (E:=λ_ _ _=>False) (f:=q) (cd:=.ref c') (qual:=qn) (A:=A) (vs:=[v]) (us:=[u]) S hr.hd e0 rfl (.cons r .nil) y
  generalize hX:({WQ (λ_ _ _ _ _ _=>False) X.prog X.w X.K X.mg X.base [x] qn scope q (.ref c') A outer s H (λ_ _ _=>False) with xe:=λ_ _=>False}:Cx)=Y
  have I:Inv Y [] (start [x] [v]) H s1:=by
    subst hX
    exact⟨⟨I0.ok.mod,I0.ok.kind,I0.ok.glob,I0.ok.blt,I0.ok.above,I0.ok.inj,I0.ok.has,I0.ok.cab,I0.ok.hd,I0.ok.frames,I0.ok.stk,I0.ok.exf,I0.ok.bs,I0.ok.bsz,I0.ok.noex,I0.ok.exfs,I0.ok.funs,I0.ok.frf⟩,I0.os,I0.bare,I0.base,I0.loc,I0.cell,I0.free,I0.freeC,I0.pin,I0.hok,I0.len⟩
  have F:Frm Y (envOfC qn scope s.heap.objs.size q (.ref c')) outer s.heap.objs.size:=by rw[←hX];exact⟨rfl,rfl,rfl⟩
  have hr':=hr.deeper (envOfC qn scope s.heap.objs.size q (.ref c'))
  have C2:Ck D noW (jN Γ x G) Y k0:=by
    subst hX
    have gl0:∀y∈G,GlOkM D X.prog X.w X.K X.mg X.base k0 y (Γ.gl y)/\(y == ("__debug__":Str))=false:=λy hy=>by
      have h:=List.all_eq_true.mp hG y hy
      simp only[Bool.and_eq_true] at h
      have q:=C.glU y (by simpa using h.1)
      exact⟨GlOkM.lvl h.2 q.1,q.2⟩
    exact { hK := C.hK,hN := rfl,nd := h4,vis := fun y hy => .inl (loc y hy),dbg := fun y hy => ⟨beq_eq_false_iff_ne.mpr (h7 y hy).1.1,beq_eq_false_iff_ne.mpr (h7 y hy).1.2⟩,
            dbG:=λy hy=>(gl0 y hy).2,glb:=λy hy=>(h8 y hy).2,glo:=λy hy=>(gl0 y hy).1,glU:=gl0,
            cel:=λy hy=>absurd hy (by simp),isi:=C.isi,fld:=C.fld,xcx:=C.xcx,ocx:=C.ocx,clv:=C.clv,clm:=λ_=>rfl,rom:=λ_=>hr',rmh:=⟨hr'.dp,hr'.un⟩,xe:=(λe s p=>by obtain⟨_,_,_,_,_,_,_,_,_,_,_,_,_,z⟩:=p;exact z),frm:=⟨_,_,_,F.stk,F.f0,F.fe⟩,lam:=LamOk.no rfl}
  have sr:SRel D φ α H [some t] (start [x] [v]):=⟨rfl,λi t' e=>by
    cases i with
    | zero => have : t = t' := by simpa using e
              subst this
              exact⟨v,rfl,d⟩
    |succ i=>simp at e⟩
  have B:=hE Y noW k0 C2 [] s1 _ H Q I ⟨φ,α,[some t],μ,sr,mr,_,_,p,λa μ' e α' H' st m v' dv=>hK0 a μ' e α' H' v' st m dv,λ_ _ _ z=>z.elim⟩
  have XA:Y.A=A.deeper (envOfC qn scope s.heap.objs.size q (.ref c')):=by rw[←hX];rfl
  have Xp:Y.prog=X.prog/\Y.w=X.w/\Y.env=envOfC qn scope s.heap.objs.size q (.ref c')/\(∀e s,Y.xe e s->False)/\Y.fs=frs outer/\Y.H₀=H/\Y.s₀=s/\Y.ex=[]:=by
    subst hX;exact⟨rfl,rfl,rfl,λ_ _ z=>z,rfl,rfl,rfl,rfl⟩
  obtain⟨x1,x2,x3,x4,x5,x6,x7,x8⟩:=Xp
  rw[XA,x1,x2,x3] at B
  refine wpAny_mono B (λw s' hs=>?_) λe s' z=>(x4 e s' z).elim
  obtain⟨v',H',J,rv,q'⟩:=hs
  have b:=J.base
  have o:=J.os
  have hk:=J.hok
  rw[x5,x6,x7,x8] at b
  rw[x7] at o
  rw[x1,x2] at hk
  exact⟨v',H',o,J.bare,b,hk,rv,q'⟩
end
end NH
end
section
namespace NH
open PySem PySem.Spec PyProof.Rows L2
section
variable {prog:Program}{w:World}{A:Around}{E:Value->Shared->Prop}{s:Shared}{a:Addr}{vs:List Value}{kz:List Int}{P:PySem.Fin->Shared->Prop}{J:Shared->Prop}{f:Value}{z0:Nat}
structure Keeps(J:Shared->Prop)(a kS:Addr):Prop where
 set:∀s' b h' tk,J s'->(b=a\/b=kS)->Heap.SameBut b s'.heap h'->J {s' with heap:=h',toks:=tk}
 push:∀s' o,J s'->J {s' with heap:=s'.heap.push o}
theorem Js {keys:Array Value} {e e1:Nat} {kS:Addr} {st:SortSt} (KJ:Keeps J a kS) (hJ:J s) (nk:s.heap.get? kS=some (seqObj "list" keys e)) (na:s.heap.get? a=some (seqObj "list" #[] e1)) (hka:kS≠a)
  (hk:IntsAre keys.toList kz) (hlen:kz.length=vs.length) (h64:vs.length<64) (hp:(arrOf st).Perm (keys.zip vs.toArray)) (hs:SortedTo (arrOf st) (arrOf st).size) (hfl:failedOf st=none)
  (h:∀s' out c,J s'->s'.heap.get? a=some (seqObj "list" out c)->KskOut false kz vs out.toList->P (.done (.ret .none)) s') :
  wpAny (model prog w) A (ksk_tail a false e1 (.ref kS) st) P E s:=by
 have hsz:keys.size=vs.length:=by
  have h1:=hk.length
  rw[Array.length_toList] at h1
  omega
 have hsz2:(arrOf st).size=vs.length:=by rw[hp.size_eq,Array.size_zip,hsz,List.size_toArray,Nat.min_self]
 have hout:((arrOf st).map (·.2)).size=vs.length:=by rw[Array.size_map];exact hsz2
 have s1:=Heap.SameBut.update s.heap kS (Obj.mapSeq λ_=>(#[]:Array Value))
 have na1:=(s1.2 a hka.symm).trans na
 have s2:=Heap.SameBut.update (s.heap.update kS (Obj.mapSeq λ_=>(#[]:Array Value))) a (Obj.mapSeq λ_=>(arrOf st).map (·.2))
 obtain⟨c2,hc2⟩:∃c2,((s.heap.update kS (Obj.mapSeq λ_=>(#[]:Array Value))).update a (Obj.mapSeq λ_=>(arrOf st).map (·.2))).get? a=some (seqObj "list" ((arrOf st).map (·.2)) c2):=⟨_,get?_update_seq na1 λ_=>(arrOf st).map (·.2)⟩
 unfold ksk_tail
 dsimp only
 refine wpAny_bind (listUpdate_at nk rfl ?_ (by rw[hsz,sizeLine_eq];omega) (Nat.zero_le _))
 refine wpAny_bind (wpAny_letGo ?_)
 refine wpAny_bind (seqEpoch_at na1 rfl ?_)
 refine wpAny_bind (listUpdate_at na1 rfl ?_ (Nat.zero_le _) (Nat.le_trans (Nat.le_of_eq hout) (by rw[sizeLine_eq];omega)))
 rw[hfl]
 simp only[bne_self_eq_false,Bool.false_eq_true,if_false]
 have J1:=KJ.set s kS _ s.toks hJ (.inr rfl) s1
 have J2:=KJ.set _ a _ s.toks J1 (.inl rfl) s2
 refine wpAny_pure (h _ _ c2 J2 hc2 ?_)
 have:=ksk_out (b:=false) hk hp hs
 simpa using this
theorem z2W {keys:Array Value} {e e1:Nat} {kS:Addr} (KJ:Keeps J a kS) (hJ:J s) (nk:s.heap.get? kS=some (seqObj "list" keys e)) (na:s.heap.get? a=some (seqObj "list" #[] e1)) (hka:kS≠a)
  (hk:IntsAre keys.toList kz) (hlen:kz.length=vs.length) (h64:vs.length<64)
  (h:∀s' out c,J s'->s'.heap.get? a=some (seqObj "list" out c)->KskOut false kz vs out.toList->P (.done (.ret .none)) s') :
  wpAny (model prog w) A (ksk_end a false vs.toArray e1 (.ref kS) keys) P E s:=by
 have hsz:keys.size=vs.length:=by
  have h1:=hk.length
  rw[Array.length_toList] at h1
  omega
 have hzs:(keys.zip vs.toArray).size=vs.length:=by rw[Array.size_zip,hsz,List.size_toArray,Nat.min_self]
 unfold ksk_end
 simp only[Bool.false_eq_true,if_false]
 by_cases h2:vs.toArray.size<2
 ·rw[if_pos h2,if_pos h2]
  refine wpAny_bind (wpAny_pure ?_)
  rw[StateT.run_pure]
  refine wpAny_bind (wpAny_pure ?_)
  refine Js (st:=SortSt.mk' general' (keys.zip vs.toArray) #[] 7 none) KJ hJ nk na hka hk hlen h64 (Array.Perm.refl _) ?_ rfl h
  intro i j hij hj
  have hj2:j<(keys.zip vs.toArray).size:=hj
  rw[hzs] at hj2
  rw[List.size_toArray] at h2
  have:i=j:=by omega
  subst this
  exact Int.le_refl _
 ·rw[if_neg h2,if_neg h2]
  rw[List.size_toArray] at h2
  rw[ksk_kind hk (by rw[hsz];omega)]
  refine wpAny_bind (wpAny_pure ?_)
  refine wpAny_bind (wpAny_mono (wpS_sortRuns (a₀:=keys.zip vs.toArray) (st:=SortSt.mk' oneType' (keys.zip vs.toArray) #[] 7 none)
   (Q:=λ_ st'=>(arrOf st').Perm (keys.zip vs.toArray)/\failedOf st'=none/\SortedTo (arrOf st') (keys.zip vs.toArray).size)
   (ksk_intKeys hk) ⟨Array.Perm.refl _,rfl,rfl,rfl⟩ (by rw[hzs];omega) (by rw[hzs];exact h64) λst' a1 a2 a3=>⟨a1,a2,a3⟩) ?_ λ_ _ e=>e)
  rintro⟨⟨⟩,st'⟩ s' ⟨rfl,hp,hf,hs⟩
  exact Js KJ hJ nk na hka hk hlen h64 hp (by rw[hp.size_eq];exact hs) hf h
theorem z04 {n:Nat} (KJ:Keeps J a (s.heap.objs.size+1)) (hJ:J s) (ho:s.heap.get? a=some (seqObj "list" vs.toArray n)) (hlen:kz.length=vs.length) (h64:vs.length<64)
  (turn:∀(i:Nat) (v:Value) (k:Int) (s':Shared) (ka:Array Value) (ca ck:Nat),vs[i]?=some v->kz[i]?=some k->J s'->s'.heap.get? a=some (seqObj "list" #[] ca)->s'.heap.get? (s.heap.objs.size+1)=some (seqObj "list" ka ck)->
   wpAny (model prog w) A (call f [v]) (λr s2=>(∃t2,r=.int k t2)/\J s2/\s2.heap.get? a=some (seqObj "list" #[] ca)/\s2.heap.get? (s.heap.objs.size+1)=some (seqObj "list" ka ck)) (λ_ _=>False) s')
  (h:∀s' out c,J s'->s'.heap.get? a=some (seqObj "list" out c)->KskOut false kz vs out.toList->P (.done (.ret .none)) s') :
  wpAny (model prog w) A (ksk_tree a f false) P E s:=by
 have ha:a<s.heap.objs.size:=Heap.lt_size ho
 have s1:=Heap.SameBut.update s.heap a (Obj.mapSeq λ_=>(#[]:Array Value))
 obtain⟨e1,ho1⟩:∃e1,(s.heap.update a (Obj.mapSeq λ_=>(#[]:Array Value))).get? a=some (seqObj "list" #[] e1):=⟨_,get?_update_seq ho λ_=>#[]⟩
 unfold ksk_tree
 refine wpAny_bind (listItems_at ho rfl ?_)
 refine wpAny_bind (listUpdate_at ho rfl ?_ (by rw[List.size_toArray,sizeLine_eq];omega) (Nat.zero_le _))
 refine wpAny_bind (seqEpoch_at ho1 rfl ?_)
 refine wpAny_bind (wpAny_newTuple ?_ (by show vs.length<=_;rw[sizeLine_eq];omega))
 refine wpAny_bind (wpAny_newList ?_ (Nat.zero_le _))
 refine wpAny_holding ?_
 have hu:(s.heap.update a (Obj.mapSeq λ_=>(#[]:Array Value))).objs.size=s.heap.objs.size:=Heap.size_update ..
 have J1:=KJ.set s a _ s.toks hJ (.inl rfl) s1
 have J2:=KJ.push _ (seqObj "tuple" vs.toArray 0) J1
 have hz2:((s.heap.update a (Obj.mapSeq λ_=>(#[]:Array Value))).push (seqObj "tuple" vs.toArray 0)).objs.size=s.heap.objs.size+1:=by rw[Heap.size_push,hu]
 have J3:=KJ.push _ (seqObj "list" #[] 0) J2
 have g3:(((s.heap.update a (Obj.mapSeq λ_=>(#[]:Array Value))).push (seqObj "tuple" vs.toArray 0)).push (seqObj "list" #[] 0)).get? a=some (seqObj "list" #[] e1):=Heap.get?_push_of_some _ (Heap.get?_push_of_some _ ho1)
 have gk:(((s.heap.update a (Obj.mapSeq λ_=>(#[]:Array Value))).push (seqObj "tuple" vs.toArray 0)).push (seqObj "list" #[] 0)).get? ((s.heap.update a (Obj.mapSeq λ_=>(#[]:Array Value))).push (seqObj "tuple" vs.toArray 0)).objs.size=some (seqObj "list" #[] 0):=Heap.get?_push_size _ rfl
 have hka:((s.heap.update a (Obj.mapSeq λ_=>(#[]:Array Value))).push (seqObj "tuple" vs.toArray 0)).objs.size≠a:=by rw[hz2];exact Nat.ne_of_gt (Nat.lt_succ_of_lt ha)
 generalize hkS:((s.heap.update a (Obj.mapSeq λ_=>(#[]:Array Value))).push (seqObj "tuple" vs.toArray 0)).objs.size=kS at gk hka hz2
 rw[←hz2] at KJ turn
 have back:wpAny (model prog w) A (ksk_rest a f false vs.toArray e1 (.ref kS)) P E {s with heap:=((s.heap.update a (Obj.mapSeq λ_=>(#[]:Array Value))).push (seqObj "tuple" vs.toArray 0)).push (seqObj "list" #[] 0)}:=by
  unfold ksk_rest
  refine wpAny_bind (wpAny_rule ?_)
  first
   |rw[List.forIn_toArray]
   |(rw[←Array.forIn_toList];simp only[List.toList_toArray])
   |rw[←Array.forIn_toList]
  refine wpAny_bind (ksk_fold (λi s'=>∃kA e,J s'/\s'.heap.get? a=some (seqObj "list" #[] e1)/\s'.heap.get? kS=some (seqObj "list" kA e)/\IntsAre kA.toList (kz.take i)) vs 0 _ ⟨#[],0,J3,g3,gk,by simpa using IntsAre.nil⟩ ?step ?done)
  case step=>
   rintro j x s' hx ⟨kA,e,hJ',na,nk,hk⟩
   simp only[Nat.zero_add] at hk ⊢
   have hj:j<vs.length:=(List.getElem?_eq_some_iff.mp hx).1
   obtain⟨k,hkj⟩:∃k,kz[j]?=some k:=⟨_,List.getElem?_eq_getElem (by omega)⟩
   have hz:kA.size<=vs.length:=by
    have h1:=hk.length
    rw[Array.length_toList,List.length_take] at h1
    omega
   refine wpAny_bind (wpAny_attempt (wpAny_mono (turn j x k s' kA e1 e hx hkj hJ' na nk) (λv s'' he=>?_) λ_ _ hF=>hF.elim))
   obtain⟨⟨t2,rfl⟩,hJ2,na2,nk2⟩:=he
   have s1:=Heap.SameBut.update s''.heap kS (Obj.mapSeq (·.push (.int k t2)))
   obtain⟨c2,hc2⟩:∃c2,(s''.heap.update kS (Obj.mapSeq (·.push (.int k t2)))).get? kS=some (seqObj "list" (kA.push (.int k t2)) c2):=⟨_,get?_update_seq nk2 (·.push (.int k t2))⟩
   have ek:kz.take (j+1)=kz.take j++[k]:=by rw[List.take_add_one,hkj];simp
   have ea:(kA.push (Value.int k t2)).toList=kA.toList++[Value.int k t2]:=by simp
   refine wpAny_bind (listUpdate_at nk2 rfl ?_ (by rw[sizeLine_eq];omega) (Nat.le_trans (Nat.le_of_eq (Array.size_push ..)) (by rw[sizeLine_eq];omega)))
   exact wpAny_pure ⟨rfl,kA.push (.int k t2),c2,KJ.set s'' kS _ s''.toks hJ2 (.inr rfl) s1,(s1.2 a hka.symm).trans na2,hc2,by rw[ea,ek];exact ksk_snoc hk⟩
  case done=>
   rintro s' ⟨kA,e,hJ',na,nk,hk⟩
   have hk':IntsAre kA.toList kz:=by
    have e3:kz.take (0+vs.length)=kz:=List.take_of_length_le (by omega)
    rw[e3] at hk
    exact hk
   refine wpAny_bind (listItems_at nk rfl ?_)
   exact z2W KJ hJ' nk na hka hk' hlen h64 h
 exact back
end
end NH
end
section
namespace NH
open PySem PySem.Spec PyProof.Rows L2
theorem QZ{α β:Type}{f:α->β}{ps m:List β}(h:ps.Perm m):∀{l:List α}, m=l.map f->∃qs:List α, qs.Perm l/\ps=qs.map f:=by
  induction h with
  |nil=>intro l e;cases l with
    |nil=>exact⟨[], .refl _, rfl⟩
    |cons a r=>cases e
  |cons x p ih=>intro l e;cases l with
    |nil=>cases e
    |cons a r=>
      rw[List.map_cons] at e
      injection e with e1 e2
      obtain⟨qs, h1, h2⟩:=ih e2
      exact⟨a::qs, h1.cons a, by rw[e1, h2];rfl⟩
  |swap x y l'=>intro l e;cases l with
    |nil=>cases e
    |cons a r=>cases r with
      |nil=>simp at e
      |cons b r=>
        rw[List.map_cons, List.map_cons] at e
        injection e with e1 e2
        injection e2 with e2 e3
        exact⟨b::a::r, .swap a b r, by rw[e1, e2, e3];rfl⟩
  | trans p1 p2 ih1 ih2 => intro l e
                           obtain⟨qs, h1, h2⟩:=ih2 e
                           obtain⟨rs, h3, h4⟩:=ih1 h2
                           exact⟨rs, h3.trans h1, h4⟩
noncomputable def KeyR (g:De)(μ:Mem):List T->List Int->Prop
 |[],[]=>True
 |t::ts,z::zs=>g [some t] μ (λt' μ'=>t'=.int z/\μ'=μ) (λ_ _ _=>False)/\KeyR g μ ts zs
 |_,_=>False
theorem KeyR.len{g:De}{μ:Mem}:∀{ts:List T} {kz:List Int},KeyR g μ ts kz->kz.length=ts.length
 |[],[],_=>rfl
 |_::_,_::_,h=>by simp[KeyR.len h.2]
 |[],_::_,h=>h.elim
 |_::_,[],h=>h.elim
theorem KeyR.at{g:De}{μ:Mem}:∀{ts:List T} {kz:List Int} {i:Nat} {t:T} {z:Int},KeyR g μ ts kz->ts[i]?=some t->kz[i]?=some z->g [some t] μ (λt' μ'=>t'=.int z/\μ'=μ) (λ_ _ _=>False)
 |a::ts,b::zs,0,t,z,h,e1,e2=>by
  have e1:some a=some t:=by simpa using e1
  have e2:some b=some z:=by simpa using e2
  cases e1;cases e2
  exact h.1
 |a::ts,b::zs,i+1,t,z,h,e1,e2=>KeyR.at (ts:=ts) (kz:=zs) (i:=i) h.2 (by simpa using e1) (by simpa using e2)
 |[],[],i,t,z,h,e1,e2=>by simp at e1
 |[],_::_,_,_,_,h,_,_=>h.elim
 |_::_,[],_,_,_,h,_,_=>h.elim
noncomputable abbrev Vg(j:Nat)(g:De)(xs:List T)(μ:Mem):RE T:=λK _=>xs.length<64/\∃kz,KeyR g μ xs kz/\
 ∀ps:List (Int×T),ps.Perm (kz.zip xs)->ps.Pairwise (λp q=>p.1<=q.1)->K (.lst (ps.map (·.2))) μ
noncomputable abbrev Yl(j:Nat)(g:De)(t:T)(μ:Mem):RE T:=λK Z=>(∃i:Nat,μ[i]?=some (MO.tab j))/\(match t with
 |.lst xs=>Vg j g xs μ
 |.mut i=>λK Z=>∃xs,μ[i]?=some (MO.lst xs)/\Vg j g xs μ K Z
 |_=>.st) K Z
noncomputable abbrev Vj(j:Nat)(g f:De):De:=λτ μ=>(f τ μ).bind (Yl j g)
section
variable {X:Cx}{D:DP}{W:XW}{Γ:Cn}{k n:Nat}{pins:List (Addr×Obj)}{s:Shared}{σ:St}{H:Hp}{φ α:List Addr}{τ:Sl}{μ:Mem}
theorem XS{a:Addr}{o:HO}(I:Inv X pins σ H s)(h0:H a=none)(h1:X.s₀.heap.objs.size<=a)(h2:a≠X.env.locals)(h3:∀x c,X.env.cells.lookup x=some c->c≠a)(h4:∀p∈X.pn++pins,p.1≠a)
  (new:ObjOk X.prog X.w (upd H a o) s.heap a o):Inv X pins σ (upd H a o) s:=by
 have ne:∀{b u},H b=some u->b≠a:=λ{b u} e z=>by rw[z,h0] at e;cases e
 refine I.step (h':=s.heap) (g':=s.gens) (t':=s.toks) (d':=s.drawn) (ch:=[a]) (λb hb=>?_) (λb o _ _ _ e n=>e) (λb o _ _ _ e n=>⟨o.slots,e⟩) (λb o hb e n=>?_) (λb o _ e=>⟨o,e⟩) (λb xs e=>?_) (λb o u e=>?_) (λb qs e=>?_) (λm hm=>hm) (λb u e=>?_) I.bare
 ·rw[List.mem_singleton.mp hb];exact⟨.inr h1,h2,h3,h4⟩
 ·rw[z7 (λz=>hb (by rw[z];simp))];exact n
 ·rw[z7 (ne e)];exact e
 ·rw[z7 (ne e)];exact e
 ·exact⟨#[],by rw[z7 (ne e),e];simp⟩
 ·by_cases z:b=a
  ·subst z
   rw[z6] at e;cases e
   exact new
  ·rw[z7 z] at e
   refine (I.hok b u e).stay (λc v hc q=>q) (λc q=>?_) λc xs q=>?_
   ·rw[z7 (ne q)];exact q
   ·rw[z7 (ne q)];exact q
theorem W7 {q c' ad : Addr} {x : Str} {G : List Str} {params : Arguments} {body : Expr} {scope : Scope} {qn : Str} {pm ctv : Value} {g : De} {xs : List T} {vs : List V} {Q : VK} {j : Nat}
    (C : Ck D W Γ X k) (hk : 2 <= k) (hc : Γ.calm = true) (hG : G.all (fun y => Γ.U.contains y && Xf (Γ.gl y)) = true) (hs : xR (jN Γ x G) [x] scope = true) (hE : ∀ Y W k,Ck D W (jN Γ x G) Y k -> PE Y body (rdE D W g)) (hbind : ∀ (s : Shared) (u : Value),BindsTo s (PySem.W.kla_fn "<lambda>" qn params body scope [] pm (.ref c') ctv) ⟨[u],[]⟩ [(x,u)])
    (I : Inv X ((q,PySem.W.kla_obj "<lambda>" qn params body scope [] pm c' ctv) :: pins) σ H s) (mr : MRel D φ α H μ) (hca : c' ∉ α) (hcc : H c' = some (.ext (wk c' qn))) (hq : Rd H ad (.lst vs)) (l : DenL D φ α H xs vs) (p : Post D W φ α H σ (RV D φ Q) (Vg j g xs μ)) :
    wpAny (model X.prog X.w) X.A (call (.builtin "sorted") [.ref ad] [(Str.ofString "key",.ref q)]) (EP X pins σ Q) X.xe s := by
  obtain ⟨its,rv,pl,hz⟩ := I.list (.inl hq)
  obtain ⟨K0,Z0,⟨h64,kz,hkr,hK⟩,k1,k2⟩ := p
  have hlen : its.length < 64 := by rw [← rv.length,← l.length]; exact h64
  have hkl : kz.length = its.length := by rw [hkr.len,← rv.length,← l.length]
  refine call_function_entry_kw kind_sorted plain_sorted entry_sorted (ksk_s1 _ _) ?_
  unfold Builtin.«sorted»
  refine wpAny_bind (m := checkCount "sorted" 1 1 _) (wpAny_pure ?_)
  refine wpAny_bind (collect_list pl.isList ?_ (by rw [sizeLine_eq]; omega))
  refine wpAny_bind (wpAny_newList ?_ (by rw [sizeLine_eq]; omega))
  have hsz : ((s.heap.push (seqObj "list" #[] 0)).update s.heap.objs.size (Obj.mapSeq (· ++ its.toArray))).objs.size = s.heap.objs.size + 1 := by
    rw [Heap.size_update,Heap.size_push]
  have hoL : (((s.heap.push (seqObj "list" #[] 0)).update s.heap.objs.size (Obj.mapSeq (· ++ its.toArray))).push (seqObj "list" its.toArray 0)).get? (s.heap.objs.size + 1) = some (seqObj "list" its.toArray 0) := by
    rw [← hsz]; exact Heap.get?_push_size _ rfl
  have keep : ∀ b o,s.heap.get? b = some o -> (((s.heap.push (seqObj "list" #[] 0)).update s.heap.objs.size (Obj.mapSeq (· ++ its.toArray))).push (seqObj "list" its.toArray 0)).get? b = some o := fun b o q => by
    have hlt : b < s.heap.objs.size := Heap.lt_size q
    rw [Heap.get?_push_ne _ _ _ (by rw [hsz]; exact Nat.ne_of_lt (Nat.lt_succ_of_lt hlt)),Heap.get?_update_ne _ _ _ _ (Nat.ne_of_lt hlt),Heap.get?_push_ne _ _ _ (Nat.ne_of_lt hlt)]
    exact q
  show wpAny _ _ _ _ _ { s with heap := ((s.heap.push (seqObj "list" #[] 0)).update s.heap.objs.size (Obj.mapSeq (· ++ its.toArray))).push (seqObj "list" its.toArray 0) }
  rw [hsz]
  have hs1 : ((((s.heap.push (seqObj "list" #[] 0)).update s.heap.objs.size (Obj.mapSeq (· ++ its.toArray))).push (seqObj "list" its.toArray 0))).objs.size = s.heap.objs.size + 2 := by rw [Heap.size_push,hsz]
  have I1 : Inv X ((q,PySem.W.kla_obj "<lambda>" qn params body scope [] pm c' ctv) :: pins) σ H { s with heap := ((s.heap.push (seqObj "list" #[] 0)).update s.heap.objs.size (Obj.mapSeq (· ++ its.toArray))).push (seqObj "list" its.toArray 0) } := I.kept (t' := s.toks) keep
  generalize ((s.heap.push (seqObj "list" #[] 0)).update s.heap.objs.size (Obj.mapSeq (· ++ its.toArray))).push (seqObj "list" its.toArray 0) = h1 at I1 hoL hs1 keep
  generalize hca' : s.heap.objs.size + 1 = a at hoL
  have new : ∀ b,s.heap.objs.size <= b -> H b = none /\ X.s₀.heap.objs.size <= b /\ b ≠ X.env.locals /\ (∀ x c,X.env.cells.lookup x = some c -> c ≠ b) /\ (∀ p ∈ X.pn ++ pins,p.1 ≠ b) /\ b ∉ X.fs /\ b ≠ q := fun b hb => by
    have lt : ∀ {d o},s.heap.get? d = some o -> d ≠ b := fun {d o} e z => absurd (Nat.lt_of_lt_of_le (Heap.lt_size e) hb) (by rw [z]; exact Nat.lt_irrefl _)
    refine ⟨I.hok.fresh hb,Nat.le_trans I.sz hb,Nat.ne_of_gt (Nat.lt_of_lt_of_le I.lt hb),fun x c e => ?_,fun p hp => ?_,I.nofs hb,?_⟩
    · obtain ⟨v,o,ho,_⟩ := I.cell x c e
      exact lt ho
    · exact lt ((qW I).pin p hp).1
    · exact (lt (I.pin _ (List.mem_append_right _ List.mem_cons_self)).1).symm
  have na := new a (by omega)
  have nk := new (h1.objs.size + 1) (by omega)
  let J : Shared -> Prop := fun s' => ∃ H',Inv X ((q,PySem.W.kla_obj "<lambda>" qn params body scope [] pm c' ctv) :: pins) σ H' s' /\ Stp α H α H' /\ MRel D φ α H' μ /\ H' c' = some (.ext (wk c' qn)) /\ H' a = none /\ H' (h1.objs.size + 1) = none
  have KJ : Keeps J a (h1.objs.size + 1) := by
    refine ⟨fun s' b h' tk hj hb sb => ?_,fun s' o hj => ?_⟩
    · obtain ⟨H',J1,J2,J3,J4,J5,J6⟩ := hj
      have hb0 : H' b = none := by rcases hb with rfl | rfl <;> assumption
      have nb := by
        have := hb
        exact show X.s₀.heap.objs.size <= b /\ b ≠ X.env.locals /\ (∀ x c,X.env.cells.lookup x = some c -> c ≠ b) /\ (∀ p ∈ X.pn ++ pins,p.1 ≠ b) /\ b ∉ X.fs /\ b ≠ q from by rcases this with rfl | rfl; exact na.2; exact nk.2
      have ex : ∀ c o,c ≠ b -> s'.heap.get? c = some o -> h'.get? c = some o := fun c o n e => (sb.2 c n).trans e
      have neb : ∀ {c u},H' c = some u -> c ≠ b := fun {c u} e z => by rw [z,hb0] at e; cases e
      refine ⟨H',J1.step (h' := h') (g' := s'.gens) (t' := tk) (d' := s'.drawn) (ch := [b]) (fun c hc => ?_) (fun c o _ _ n e _ => ex c o (fun z => n (by rw [z]; simp)) e) (fun c o _ _ n e _ => ⟨o.slots,ex c o (fun z => n (by rw [z]; simp)) e⟩) (fun c o _ _ n => n) (fun c o n e => ⟨o,ex c o (fun z => n (by rw [z]; simp)) e⟩) (fun c xs e => e) (fun c o u e => e) (fun c qs e => ⟨#[],by rw [e]; simp⟩) (fun m hm => ?_) (fun c u e => ?_) J1.bare,J2,J3,J4,J5,J6⟩
      · rw [List.mem_singleton.mp hc]
        refine ⟨.inr nb.1,nb.2.1,nb.2.2.1,fun p hp => ?_⟩
        rcases List.mem_append.mp hp with z | z
        · exact nb.2.2.2.1 p (List.mem_append_left _ z)
        · rcases List.mem_cons.mp z with rfl | z
          · exact nb.2.2.2.2.2.symm
          · exact nb.2.2.2.1 p (List.mem_append_right _ z)
      · exact hm.sameBut sb nb.2.1.symm
      · refine (J1.hok c u e).stay (fun d v hd q => ex d v (fun z => ?_) q) (fun d q => q) fun d xs q => q
        rcases hd with hd | hd
        · exact neb e (hd ▸ z)
        · exact neb hd z
    · obtain ⟨H',J1,J2,J3,J4,J5,J6⟩ := hj
      exact ⟨H',J1.kept (t' := s'.toks) fun b o e => Heap.get?_push_of_some _ e,J2,J3,J4,J5,J6⟩
  refine wpAny_bind (wpAny_holding (wpAny_call_entry_kw slot_list_sort ⟨_,hoL,rfl⟩ entry_list_sort ?body (ksk_l1 _ _)))
  case body =>
    show wpAny (model X.prog X.w) X.A.in1.in1 (Builtin.«list.sort» ⟨[.ref a],[(Str.ofString "key",.ref q)]⟩) _ _ _
    rw [ksk_t1]
    refine z04 (J := J) (kz := kz) (vs := its) (s := { s with heap := h1 }) KJ ⟨H,I1,Stp.refl _ _,mr,hcc,na.1,nk.1⟩ hoL hkl hlen (fun i v z s' ka ca ck e1 e2 hj ga gk => ?_) fun s' out c hj ga hout => ⟨_,rfl,wpAny_pure ⟨_,rfl,?_⟩⟩
    · obtain ⟨H',J1,J2,J3,J4,J5,J6⟩ := hj
      have J1a := jW (jW J1 ga J5 na.2.2.1 na.2.2.2.2.2.1 (fun v z => by cases z)) gk J6 nk.2.2.1 nk.2.2.2.2.2.1 (fun v z => by cases z)
      have hi : i < its.length := (List.getElem?_eq_some_iff.mp e1).1
      obtain ⟨vv,hvv⟩ : ∃ vv,vs[i]? = some vv := ⟨_,List.getElem?_eq_getElem (by rw [rv.length]; exact hi)⟩
      obtain ⟨tt,htt⟩ : ∃ tt,xs[i]? = some tt := ⟨_,List.getElem?_eq_getElem (by rw [l.length,rv.length]; exact hi)⟩
      have rr : RelV vv v := by
        obtain ⟨u0,e0,r0⟩ := rv.get hvv
        rw [e1] at e0; cases e0; exact r0
      obtain ⟨vv',hv',dd⟩ := (l.step J2).get htt
      rw [hvv] at hv'; cases hv'
      have hrec : s'.heap.CodeRec (.ref c') qn := (J1.hok c' _ J4).1
      have ho : s'.heap.get? q = some (PySem.W.kla_obj "<lambda>" qn params body scope [] pm c' ctv) := (J1.pin _ (List.mem_append_right _ List.mem_cons_self)).1
      have rm := C.rom hc
      have hr : Room (0 + 1) X.A.in1.in1 := ⟨rm.hd,by have := rm.dp; show X.A.depth + 3 * (0 + 1) + 5 < _; omega,by have := rm.un; show X.A.units + 1 + 1 + 16 * (0 + 1) + 200 < _; omega⟩
      refine wpAny_call (codeAny_mono (XN (k0 := 0) C hc hG hs hE hbind hr J1a.env0.in1.in1 ho hrec rr dd J3 (Q := fun v' H2 => v' = .int z /\ Stp α H' α H2 /\ MRel D φ α H2 μ) (hkr.at htt e2) ?_) fun r s2 hq => ?_)
      · rintro t' μ' ⟨rfl,rfl⟩ α' H2 v' st m d
        have ea : α' = α := by
          obtain ⟨⟨more,e,_⟩,_,_⟩ := id st
          have h1 := m.len
          have h2 := J3.len
          rw [e,List.length_append,h2] at h1
          have : more = [] := List.eq_nil_of_length_eq_zero (by omega)
          rw [e,this,List.append_nil]
        subst ea
        exact ⟨d,st,m⟩
      · cases r with
        | error e => exact hq.elim
        | ok fl =>
          cases fl with
          | ret u =>
            obtain ⟨v',H2,I2,r2,rfl,st2,m2⟩ := J1a.after hq
            obtain ⟨t2,rfl⟩ := r2
            have p1 := I2.pin _ (List.mem_append_right _ List.mem_cons_self)
            have p2 := (qW I2).pin _ (List.mem_append_right _ List.mem_cons_self)
            exact ⟨⟨t2,rfl⟩,⟨H2,qW (qW I2),J2.trans st2,m2,st2.keep c' _ hca J4,p2.2.1,p1.2.1⟩,p2.1,p1.1⟩
          | next => exact False.elim hq
          | brk => exact False.elim hq
          | cont => exact False.elim hq
    · obtain ⟨H',J1,J2,J3,J4,J5,J6⟩ := hj
      obtain ⟨ps,hp,ho,hpw⟩ := hout
      have lz : ∀ {A B : Type} (a : List A) (b : List B),a.length = b.length -> (a.zip b).length = b.length := fun a b h => by rw [List.length_zip,h,Nat.min_self]
      have hvl : vs.length = its.length := rv.length
      have hxl : xs.length = its.length := by rw [l.length,hvl]
      have em : kz.zip its = (kz.zip (its.zip (vs.zip xs))).map (fun q => (q.1,q.2.1)) := by
        refine List.ext_getElem (by simp [hkl,hvl,hxl]) fun i h1 h2 => by simp
      obtain ⟨qs,hqp,rfl⟩ := QZ hp em
      have mem : ∀ q ∈ qs,RelV q.2.2.1 q.2.1 /\ Den D φ α H' q.2.2.2 q.2.2.1 := fun q hq => by
        have := hqp.mem_iff.mp hq
        obtain ⟨i,hi⟩ := List.mem_iff_getElem?.mp this
        obtain ⟨hi',rfl⟩ := List.getElem?_eq_some_iff.mp hi
        simp only [List.length_zip,Nat.lt_min] at hi'
        have d := (l.step J2).get (i := i) (List.getElem?_eq_getElem hi'.2.2.2)
        obtain ⟨v',e',d⟩ := d
        rw [List.getElem?_eq_getElem hi'.2.2.1] at e'
        cases e'
        simp only [List.getElem_zip]
        obtain ⟨u0,e0,r0⟩ := rv.get (List.getElem?_eq_getElem hi'.2.2.1)
        rw [List.getElem?_eq_getElem hi'.2.1] at e0; cases e0
        exact ⟨r0,d⟩
      have hvs : ∀ (qs : List (Int × Value × V × T)),(∀ q ∈ qs,RelV q.2.2.1 q.2.1 /\ Den D φ α H' q.2.2.2 q.2.2.1) -> Vals (qs.map (·.2.2.1)) (qs.map (·.2.1)) /\ DenL D φ α H' (qs.map (·.2.2.2)) (qs.map (·.2.2.1)) := by
        intro qs
        induction qs with
        | nil => exact fun _ => ⟨.nil,rfl⟩
        | cons q r ih =>
          intro h
          obtain ⟨a1,a2⟩ := ih fun q' hq' => h q' (List.mem_cons_of_mem _ hq')
          obtain ⟨b1,b2⟩ := h q List.mem_cons_self
          exact ⟨.cons b1 a1,_,_,rfl,b2,a2⟩
      obtain ⟨w1,w2⟩ := hvs qs mem
      have hol : out.toList = qs.map (·.2.1) := by rw [ho,List.map_map]; rfl
      have hql : qs.length = its.length := by rw [hqp.length_eq]; simp [hkl,hvl,hxl]
      have J7 : Inv X pins σ (upd H' a (.lst (qs.map (·.2.2.1)))) s' := XS (qW J1) J5 na.2.1 na.2.2.1 na.2.2.2.1 na.2.2.2.2.1 (show ObjOk X.prog X.w _ _ _ (.lst (qs.map (·.2.2.1))) from ⟨by rw [List.length_map,hql,sizeLine_eq]; omega,qs.map (·.2.1),c,w1,by rw [← hol,Array.toArray_toList]; exact ga⟩)
      refine ⟨.ref a,_,J7,rfl,?_⟩
      have sm := zb (o := HO.lst (qs.map (·.2.2.1))) J5
      have e2 : (qs.map fun q => (q.1,q.2.2.2)).map (·.2) = qs.map (·.2.2.2) := by rw [List.map_map]; rfl
      have e3 : kz.zip xs = (kz.zip (its.zip (vs.zip xs))).map (fun q => (q.1,q.2.2.2)) := by
        refine List.ext_getElem (by simp [hkl,hvl,hxl]) fun i h1 h2 => by simp
      have kk := hK (qs.map fun q => (q.1,q.2.2.2)) (by rw [e3]; exact hqp.map _) (by
        rw [List.pairwise_map] at hpw ⊢
        exact hpw.imp fun h => by simpa using h)
      rw [e2] at kk
      refine k1 _ _ kk α _ (J2.trans (Stp.new sm)) (J3.new sm) _ ⟨_,_,rfl,zh J3 J5,zi J3 J5,.inl z6,w2.step (Stp.new sm)⟩
theorem bind1{fd:FuncData}{y:Str}{pa:Pos}{u:Value}(hp:fd.params=⟨[],[⟨y,none,pa⟩],none,[],[],none,[]⟩)(hd:fd.defaults=.none):bindArgs fd ⟨[u],[]⟩=pure [(y,u)]:=by
 have e:List.lookup y [(y,u)]=some u:=by simp[List.lookup]
 unfold bindArgs
 rw[hp,hd]
 simp[e,seqItems?]
 rfl
theorem Um(C:Ck D W Γ X k)(hc:Γ.calm=true){y:Str}{p0 pa pk pl pos:Pos}{a body:Expr}{sc:Scope}{j:Nat}{G:List Str}{f g:De}
  (hx:("sorted":Str)∈Γ.G) (hg0:Γ.gl "sorted"=.none) (hs0:noStar a=true) (ha:PE X a (rdE D W f)) {poss:List Pos} (hlm:Γ.lam=some (j,poss)) (hpp:pl∈poss) (hG:G.all (λy=>Γ.U.contains y&&Xf (Γ.gl y))=true) (hs:xR (jN Γ y G) [y] sc=true) (hE:∀Y W k,Ck D W (jN Γ y G) Y k->PE Y body (rdE D W g)) :
  PE X (.Call (.Name "sorted" p0) [a] [⟨some "key",.Lambda ⟨[],[⟨y,none,pa⟩],none,[],[],none,[]⟩ body sc pl,pk⟩] pos) (rdE D W (Vj j g f)):=by
 obtain⟨hk,c,P,hcode,hC,hB,hD⟩:=C.lam j poss hlm
 have hm:=C.glo _ hx
 rw[hg0] at hm
 have hfr:∀x∈sc.names,x.2≠.free:=by
  have hs':=hs
  simp only[xR,Bool.and_eq_true,List.all_eq_true,bne_iff_ne,ne_eq] at hs'
  exact hs'.1.1.1.1.2
 rintro pins s σ H Q I ⟨φ,α,τ,μ,sr,mr,p⟩
 refine wpAny_Call_Name_kw (w_ I (C.glb _ hx) hm (show bootBuiltins "sorted"=some (.builtin "sorted") by decide +kernel) ?_ (by decide) (C.dbG _ hx))
 refine callWith_kw (thn (zr ha qi (z4 hs0) pos pins s σ H (λvs H1=>∃v t μ1 α1,vs=[v]/\Stp α H α1 H1/\MRel D φ α1 H1 μ1/\Den D φ α1 H1 t v/\Post D W φ α1 H1 σ (RV D φ Q) (Yl j g t μ1)) I ⟨φ,α,τ,μ,sr,mr,p.bind.mono λt μ' α' H' st m q v d=>⟨v,t,μ',α',rfl,st,m,d,q⟩⟩) ?_) (by rw[z4 hs0];rfl) (by rw[z4 hs0];rfl) rfl rfl
 rintro us s1 ⟨vs,H1,I1,rv,v,t,μ1,α1,rfl,st,m,d,K0,Z0,⟨⟨i,hi⟩,q⟩,k1,k2⟩
 obtain⟨u,rfl,r1⟩:=vals1 rv
 refine kws_cons (PySem.W.kla_eval rfl (X3 (line:=pl.line) I1 m hi hD hpp hcode hC hB (closureFor_none hfr) λq0 c' ctv H2 s2 I2 st2 m2 hca hcc _=>kws_nil ?_))
 have k1':∀t μ',K0 t μ'->∀α' H',Stp α1 H2 α' H'->MRel D φ α' H' μ'->RV D φ Q t μ' α' H':=λt μ' z α' H' st3 m3=>k1 t μ' z α' H' (st2.trans st3) m3
 show wpAny _ _ (call (.builtin "sorted") [u] [(Str.ofString "key",.ref q0)]) _ _ _
 split at q
 ·obtain⟨ad,xs,rfl,n1,n2,hq,l⟩:=d.step st2
  cases r1
  exact W7 (j:=j) C hk hc hG hs hE (λs u=>.of_eq (bind1 rfl rfl)) I2 m2 hca hcc hq l ⟨K0,Z0,q,k1',λcc fs μ' z α' H' CC dd st3 m3=>k2 cc fs μ' z α' H' CC dd (st2.trans st3) m3⟩
 ·obtain⟨ts,hj,q⟩:=q
  obtain⟨ad,hi2,rfl⟩:=d
  cases r1
  obtain⟨xs,hq,l⟩:=m2.ob _ ad _ hi2 hj
  exact W7 (j:=j) C hk hc hG hs hE (λs u=>.of_eq (bind1 rfl rfl)) I2 m2 hca hcc (.inl hq) l ⟨K0,Z0,q,k1',λcc fs μ' z α' H' CC dd st3 m3=>k2 cc fs μ' z α' H' CC dd (st2.trans st3) m3⟩
 ·exact False.elim q
end
noncomputable def z4X (r:Rec)(Γ:Cn)(x ky:Str)(a:Expr)(y:Str)(body:Expr)(sc:Scope)(pl:Pos):Option De:=
  gd (x == ("sorted":Str)&&ky == ("key":Str)&&(idx Γ.N x).isNone&&noStar a&&Γ.calm&&(Zv sc).all (λy=>Γ.U.contains y&&Xf (Γ.gl y))&&xR (jN Γ y (Zv sc)) [y] sc)
   ((r.e Γ a).bind λf=>(r.e (jN Γ y (Zv sc)) body).bind λg=>(match Γ.look x,Γ.lam with
    |.none,some (j,poss)=>gd (decide (pl∈poss)) (some (Vj j g f))
    |_,_=>none))
noncomputable def z4Y:Arg->Option Str
 |⟨y,none,_⟩=>some y
 |_=>none
noncomputable def z36:Arguments->Option Str
 |⟨[],[p],none,[],[],none,[]⟩=>z4Y p
 |_=>none
noncomputable def z4g:Keyword->Option (Str×Arguments×Expr×Scope×Pos)
 |⟨some ky,.Lambda ar body sc pl,_⟩=>some (ky,ar,body,sc,pl)
 |_=>none
noncomputable def WU:ER:=λr Γ e=>match e with
 |.Call (.Name x _) [a] [k] _=>(z4g k).bind λq=>(z36 q.2.1).bind λy=>z4X r Γ x q.1 a y q.2.2.1 q.2.2.2.1 q.2.2.2.2
 |_=>none
theorem z0l{k:Keyword}{q:Str×Arguments×Expr×Scope×Pos}(h:z4g k=some q):∃p,k=⟨some q.1,.Lambda q.2.1 q.2.2.1 q.2.2.2.1 q.2.2.2.2,p⟩:=by
 unfold z4g at h
 split at h
 ·cases h;exact⟨_,rfl⟩
 ·cases h
theorem z0E{a:Arguments}{y:Str}(h:z36 a=some y):∃p,a=⟨[],[⟨y,none,p⟩],none,[],[],none,[]⟩:=by
 unfold z36 at h
 split at h
 ·unfold z4Y at h
  split at h
  ·cases h;exact⟨_,rfl⟩
  ·cases h
 ·cases h
theorem Kg{D:DP}:EOk D WU:=by
 intro r H X W Γ k e d C h
 unfold WU at h
 split at h
 ·rename_i x p0 a k' pos
  obtain⟨⟨ky,ar,body,sc,pl⟩,hk,h⟩:=bnd h
  obtain⟨y,ha,h⟩:=bnd h
  obtain⟨pk,rfl⟩:=z0l hk
  obtain⟨pa,e⟩:=z0E ha
  have e:ar=_:=e
  subst e
  unfold z4X at h
  have hh:=zo h
  clear h
  obtain⟨hb,h⟩:=hh
  simp only[Bool.and_eq_true,beq_iff_eq] at hb
  obtain⟨⟨⟨⟨⟨⟨rfl,rfl⟩,h2⟩,h3⟩,h4⟩,h5⟩,h6⟩:=hb
  obtain⟨f,h7,h⟩:=bnd h
  obtain⟨g,h8,h⟩:=bnd h
  cases hl:Γ.look "sorted" with
  |none=>
   cases hm:Γ.lam with
   |none=>simp[hl,hm] at h
   |some jp=>
    obtain⟨j,pl'⟩:=jp
    simp only[hl,hm] at h
    obtain⟨h9,h10⟩:=zo h
    have h9:=of_decide_eq_true h9
    cases h10
    obtain⟨hx,hg⟩:=qC hl (by intro z;cases z)
    exact Um C h4 hx hg h3 (H.e C h7) hm h9 h5 h6 λY W k C'=>H.e C' h8
  |_=>simp[hl] at h
 ·cases h
end NH
end
section
namespace NH
open PySem PySem.Spec PyProof.Rows L2
theorem JU{P:Program}{w:World}{K:PySem.W.Frag}{mg mb:Str->Option Value}{CX:CXT}{k:Nat}{fa a c P0:Addr}{fd:FuncData}{x:Str}{sp:Sp}{s₁:Shared}{vs:List Value}{ns:List Int}
  (KX:K.In s₁.heap) (hns:s₁.heap.Ns mainGlobals mg) (hb:s₁.heap.Ns builtinsNs mb) (hbb:∀x:Str,x≠"__name__"->mb x=bootBuiltins x) (hlim:s₁.heap.NoLimit) (hg:s₁.gens=#[])
  (hbm:∃bm ob,mg "__builtins__"=some (.ref bm)/\bm≠builtinsNs/\s₁.heap.get? bm=some ob/\ob.cls=.type "module"/\ob.dict=some builtinsNs/\ob.data=.plain)
  (hnl:WS K=true) (hPt:s₁.heap.get? P0=some (PySem.W.tabObj #[])) (hKP:K.lookup P0=none) (hPc:P0≠cStatics) (hcd:PySem.W.codeHdIn K c P0=true)
  (ha:s₁.heap.get? a=some {cls:=.type "list",data:=.seq vs.toArray}) (hi:IntsAre vs ns) (hl:ns.length<=sizeLine) (hr:Room k callerA)
  (F:∀base:Heap,K.In base->base.Ns mainGlobals mg->base.BuiltinsAt mg P0->FnOk P w K mg base CX k fa fd [x] sp) (hbind:∀(s:Shared) (u:Value),BindsTo s fd ⟨[u],[]⟩ [(x,u)])
  (hsp:∀H:Hp,Rd H a (.lst (ns.map V.int))->H P0=some (.tbl #[])->a≠P0->sp [.ref a] H (λv _=>v=.bl true) λ_ _ _=>False)
  (hCX:∀H e s',CX [] H s₁ (λ_ _ _=>False) e s'->False) :
  codeAny (model P w) callerA (.call (.ref fa) ⟨[.ref a],[]⟩) (λr s'=>r=.ok (.ret (.bool true))/\OldK s₁.heap s'.heap/\s'.os=s₁.os/\AllBare s'.gens) s₁:=by
 have rv:=L2.vals_ints hi
 have lenV:=hi.length
 have naP:a≠P0:=λz=>by rw[z,hPt] at ha;cases ha
 have hKa:K.lookup a=none:=by
  cases q:K.lookup a with
  |none=>rfl
  |some o=>
   have e:=KX a o q
   rw[ha] at e;cases e
   exact absurd rfl (Jb hnl q)
 obtain⟨H,hH⟩:∃H:Hp,H=upd (upd (λ_=>none) P0 (.tbl #[])) a (.frz {cls:=.type "list",data:=.seq vs.toArray} (.lst (ns.map V.int))):=⟨_,rfl⟩
 have Ha:H a=some (.frz {cls:=.type "list",data:=.seq vs.toArray} (.lst (ns.map V.int))):=by rw[hH];exact z6
 have HP:H P0=some (.tbl #[]):=by rw[hH,z7 naP.symm];exact z6
 have Ho:∀b,b≠a->b≠P0->H b=none:=λb h1 h2=>by rw[hH,z7 h1,z7 h2]
 have hok:HOk P w H s₁.heap:=λb u e=>by
  by_cases h1:b=a
  ·subst h1
   rw[Ha] at e;cases e
   exact⟨ha,by rw[List.length_map];exact hl,vs,_,rv,ha⟩
  ·by_cases h2:b=P0
   ·subst h2
    rw[HP] at e;cases e
    exact hPt
   ·rw[Ho b h1 h2] at e;cases e
 have un:∀{b:Addr} {o:Obj},s₁.heap.get? b=some o->o.cls≠.none->o.cls≠.type "list"->H b=none:=λ{b o} e n1 n2=>Ho b (λz=>by rw[z,ha] at e;cases e;exact n2 rfl) λz=>by rw[z,hPt] at e;cases e;exact n1 rfl
 have noA:∀{b:Addr} {o:Obj} {es:Array DictEntry} {ep:Nat},s₁.heap.get? b=some o->o.data=.dict es ep->H b=none:=λ{b o es ep} e d=>Ho b (λz=>by rw[z,ha] at e;cases e;cases d) λz=>by rw[z,hPt] at e;cases e;cases d
 have qB:∀{b:Addr} {o:Obj},s₁.heap.get? b=some o->H b=none->(uU s₁.heap H).get? b=some o:=λe n=>XH e n
 have nsK:∀{b:Addr} {m:Str->Option Value},s₁.heap.Ns b m->(uU s₁.heap H).Ns b m:=λ{b m} ⟨o,es,ep,e,d,r⟩=>⟨o,es,ep,qB e (noA e d),d,r⟩
 have hKf:∀b o,K.lookup b=some o->H b=none:=λb o e=>Ho b (λz=>by rw[z,hKa] at e;cases e) λz=>by rw[z,hKP] at e;cases e
 have hKb:K.In (uU s₁.heap H):=λb o e=>qB (KX b o e) (hKf b o e)
 have hM:Mod K mg (uU s₁.heap H):=⟨hKb,nsK hns,⟨mb,nsK hb,hbb⟩,let ⟨mc,h1,h2⟩:=hlim;⟨mc,nsK h1,h2⟩⟩
 have hB:(uU s₁.heap H).BuiltinsAt mg P0:=by
  obtain⟨bm,ob,b1,b2,b3,b4,b5,b6⟩:=hbm
  refine⟨bm,ob,b1,b2,λz=>?_,λz=>?_,qB b3 (un b3 (by rw[b4];exact λz=>by cases z) (by rw[b4];exact λz=>absurd (Value.type.inj z) (by decide))),b4,b5,b6⟩
  ·obtain⟨o,es,ep,e,d,_⟩:=hns
   rw[z,e] at b3;cases b3;rw[d] at b6;cases b6
  ·rw[z,hPt] at b3;cases b3;cases b4
 have e0:Env0 P w K mg (uU s₁.heap H) callerA [] s₁ H:=⟨rfl,hM,λb o e=>z0d e,Nat.le_of_eq (JQ _ _),trivial,λb hb=>absurd (show b∈([]:List Addr) from hb) (by simp),hok,.of_eq hg⟩
 refine codeAny_mono ((F _ hKb (nsK hns) hB).run callerA [] s₁ H ⟨[.ref a],[]⟩ [.ref a] [.ref a] _ _ hr e0 (hbind s₁ (.ref a)) (.cons rfl .nil) (hsp H (.inr ⟨_,Ha⟩) HP naP)) λr s' h=>?_
 cases r with
 |error e=>exact (hCX H e s' h).elim
 |ok fl=>
  cases fl with
  |next=>exact False.elim h
  |brk=>exact False.elim h
  |cont=>exact False.elim h
  |ret u=>
   obtain⟨v,H',os,bare,un,hok',r',q⟩:=h
   have q':v=.bl true:=q
   subst q'
   obtain rfl:u=Value.bool true:=r'
   have kp:∀b o,H b=none->s₁.heap.get? b=some o->s'.heap.get? b=some o:=λb o n e=>un.keep b o e n (by intro z;exact absurd (show b∈([]:List Addr) from z) (by simp)) (by simp)
   obtain⟨more,hm⟩:=un.tbls P0 _ HP
   have hP':s'.heap.get? P0=some (PySem.W.tabObj (#[]++more)):=hok' P0 _ hm
   have cd:=PySem.W.codeHd_of_K KX hcd
   have cd':PySem.W.CodeHd s'.heap c P0:=by
    obtain⟨o,vs,file,tf,flags,tg,inF,text,tt,e1,e2,r⟩:=cd
    refine⟨o,vs,file,tf,flags,tg,inF,text,tt,kp c o ?_ e1,e2,r⟩
    exact Ho c (λz=>by rw[z,ha] at e1;cases e1;exact absurd (Value.type.inj e2) (by decide)) λz=>by rw[z,hPt] at e1;cases e1;cases e2
   refine⟨rfl,(OldK.refl s₁.heap).step_table (cd.tab hPt) (cd.tab hPt) (cd'.tab hP') (λb o hb e=>?_) hPc,os,bare⟩
   by_cases h1:b=a
   ·subst h1
    have z2:=un.frzs b _ _ Ha
    obtain⟨e2,_⟩:=hok' b _ z2
    rw[ha] at e;cases e
    exact e2
   ·exact kp b o (Ho b h1 hb) e
noncomputable def VF(K:PySem.W.Frag)(P0:Addr):Sp:=λvs H Q _=>∃(a:Addr) (ns:List Int),vs=[.ref a]/\Rd H a (.lst (ns.map V.int))/\H P0=some (.tbl #[])/\a≠P0/\ns.length<=63/\∀H',Q (.bl true) H'
noncomputable def Vm(f:Fn):Prop:=∀ns:List Int,ns.length<=63->f [.lst (ns.map T.int)] [.tab 0] (λt _=>t=.bl true) (λ_ _ _=>False)
theorem z0t{D:DP}{P:Program}{w:World}{K:PySem.W.Frag}{mg:Str->Option Value}{base:Heap}{k:Nat}{fa P0:Addr}{fd:FuncData}{x:Str}{f:Fn}{poss:List Pos}{qn:Str}(ht:Vm f)(hD:D.tabs 0=some (P0,poss,qn))
  (F:FnOk P w K mg base (CX1 P w) k fa fd [x] (spN D 1 f)):FnOk P w K mg base (CX1 P w) k fa fd [x] (VF K P0):=by
 refine F.imp ?_
 rintro vs H Q E ⟨a,ns,rfl,r,hP,hne,hn,q⟩
 refine⟨rfl,[],[P0],[.lst (ns.map T.int)],[.tab 0],⟨.ref a,[],rfl,⟨a,_,rfl,by simp,by simpa using hne,r,Z9 ns⟩,rfl⟩,⟨rfl,by simp,by simp,by simp,λi a' o e1 e2=>?_⟩,_,_,ht ns hn,?_,?_⟩
 ·cases i with
  |succ i=>simp at e1
  |zero=>
   have e1:P0=a':=by simpa using e1
   have e2:MO.tab 0=o:=by simpa using e2
   subst e1;subst e2
   exact⟨poss,qn,#[],hD,hP,trivial,λ_ _=>.inl rfl⟩
 ·rintro t μ rfl α' H' st m v d
  have d:v=.bl true:=d
  rw[d]
  exact q H'
 ·exact λ_ _ _ z=>z.elim
end NH
end
section
namespace NH
open PySem PySem.Spec PyProof.Rows L2
noncomputable abbrev inT(x y:T)(μ:Mem):RE T:=match y with
 |.mut i=>(match x with
  |.int z=>λK _=>∃kvs,μ[i]?=some (MO.dic kvs)/\K (.bl (zd (.inl z) kvs).isSome) μ
  |.str z=>λK _=>∃kvs,μ[i]?=some (MO.dic kvs)/\K (.bl (zd (.inr z) kvs).isSome) μ
  |_=>.st)
 |_=>uS .In x y μ
noncomputable abbrev K3(f g:De):De:=λτ μ=>(f τ μ).bind λx μ1=>(g τ μ1).bind λy μ2=>inT x y μ2
noncomputable abbrev yc(o b f:De):Ds:=λτ μ=>(f τ μ).out τ λt μ1=>(o τ μ1).out τ λot μ2=>(b τ μ2).out τ λit μ3=>match ot,it with
 |.mut i,.int k=>λE=>(∃ts,μ3[i]?=some (.lst ts)/\(0<=k/\k<ts.length/\k<9223372036854775808)/\E.nx τ (μ3.set i (.lst (ts.set k.toNat t))))\/(∃kvs,μ3[i]?=some (.dic kvs)/\kvs.length<room/\E.nx τ (μ3.set i (.dic (wI (.inl k) t kvs))))
 |.mut i,.str z=>λE=>∃kvs,μ3[i]?=some (.dic kvs)/\kvs.length<room/\E.nx τ (μ3.set i (.dic (wI (.inr z) t kvs)))
 |_,_=>.st
section
variable {X:Cx}{D:DP}{W:XW}{Γ:Cn}{k:Nat}{pins:List (Addr×Obj)}{s:Shared}{σ:St}{H:Hp}{φ α:List Addr}{τ:Sl}{μ:Mem}{f g:De}{a b:Expr}{pos:Pos}
theorem yA{z:Key}:∀{kvs:List (Key×T)} {gs:List (Key×V)},DenK D φ α H kvs gs->(v_ gs z).isSome=(zd z kvs).isSome
 |[],_,h=>by cases h;rfl
 |p::r,_,h=>by
  obtain⟨v,q,rfl,d,l⟩:=h
  unfold zd
  by_cases e:p.1=z
  ·rw[if_pos e,wV (p:=(p.1,v)) e];rfl
  ·rw[if_neg e,wA (p:=(p.1,v)) e];exact yA l
theorem z1q{x y:T}{v w:V}{u1 u2:Value}{Q:VK}(I:Inv X pins σ H s)(hu:X.A.units+64<cLine)(mr:MRel D φ α H μ)(d1:Den D φ α H x v)(d2:Den D φ α H y w)(r1:RelV v u1)(r2:RelV w u2)
  (p:Post D W φ α H σ (RV D φ Q) (inT x y μ)):wpAny (model X.prog X.w) X.A (compareOp .In u1 u2) (EP X pins σ Q) X.xe s:=by
 have go:∀{i:Nat} {z:Key} {kvs:List (Key×T)},y=.mut i->v=kV z->μ[i]?=some (MO.dic kvs)->Post D W φ α H σ (RV D φ Q) (.ok (.bl (zd z kvs).isSome) μ)->wpAny (model X.prog X.w) X.A (compareOp .In u1 u2) (EP X pins σ Q) X.xe s:=λ{i z kvs} ey ev hi p'=>by
  subst ey;subst ev
  obtain⟨ad,ha,rfl⟩:=d2
  cases r2
  obtain⟨gs,hH,l⟩:=mr.ob i ad _ ha hi
  refine z60 (by omega) I (DGet.k (k:=z) hH) r1 λs' I'=>⟨.bl (v_ gs z).isSome,H,I',rfl,?_⟩
  rw[yA l]
  exact p'.here mr rfl
 unfold inT at p
 split at p
 ·split at p
  ·obtain⟨kvs,hi,p⟩:=p.ex1
   have d1:v=_:=d1
   exact go (z:=.inl _) rfl d1 hi p
  ·obtain⟨kvs,hi,p⟩:=p.ex1
   have d1:v=_:=d1
   exact go (z:=.inr _) rfl d1 hi p
  ·exact p.elim
 ·exact Qh I hu mr d1 d2 r1 r2 p
theorem z3E(C:Ck D W Γ X k)(ho:wM .In b=true)(ha:PE X a (rdE D W f))(hb:PE X b (rdE D W g)):PE X (.Compare a [.In] [b] pos) (rdE D W (K3 f g)):=by
 rintro pins s σ H Q I ⟨φ,α,τ,μ,sr,mr,p⟩
 refine wpAny_Compare1 (thn (sub ha I sr mr p) ?_) (vV ho)
 rintro u s1 ⟨v,H1,t,μ1,α1,I1,r1,st1,sr1,mr1,d1,p1⟩
 refine thn (sub hb I1 sr1 mr1 p1) ?_
 rintro u' s2 ⟨v',H2,t',μ2,α2,I2,r2,st2,sr2,mr2,d2,p2⟩
 exact z1q I2 C.unt mr2 (d1.step st2) d2 r1 r2 p2
theorem PostS.or{E:Ends}{r r':En->Prop}(p:PostS D W φ α H E λE=>r E\/r' E):PostS D W φ α H E r\/PostS D W φ α H E r':=by
 obtain⟨E0,q,hE⟩:=p
 rcases q with q|q
 ·exact .inl ⟨E0,q,hE⟩
 ·exact .inr ⟨E0,q,hE⟩
theorem Y8(hu:X.A.units+1<cLine):z2b X (λo i v H Q=>(∃l k xs,o=.ref l/\i=.int k/\H l=some (.lst xs)/\0<=k/\k<xs.length/\k<9223372036854775808/\Q (upd H l (.lst (xs.set k.toNat v))))\/(∃l gs z,o=.ref l/\i=kV z/\H l=some (.dK gs)/\gs.length<sizeLine/\Q (upd H l (.dK (putK gs z v))))):=by
 intro pins s σ H o i v ov iv u Q I ro ri rv h
 rcases h with h|⟨l,gs,z,rfl,rfl,hH,hl,q⟩
 ·exact set_list pins s σ H o i v ov iv u Q I ro ri rv h
 ·cases ro
  exact Kx hu I (DPut.k (k:=z) hH hl) ri rv λs4 I4=>⟨_,I4,q⟩
theorem z0T (C : Sk D W Γ X k) {o : Expr} {p1 : Pos} {fo fb : De} (hb' : qo b = true) (ha : PE X a (rdE D W f)) (ho : PE X o (rdE D W fo)) (hb : PE X b (rdE D W fb)) :
    PS X (.Assign [.Subscript o b p1] a pos) (rdS D W (yc fo fb f)) := by
  rintro pins s σ H E I ⟨φ,α,τ,μ,sr,mr,p⟩
  have h1 : swapsWithSole [.Subscript o b p1] a pos.line X.env = pure false := by cases a <;> rfl
  have h2 : swappedStores [.Subscript o b p1] a X.env = pure none := by cases a <;> rfl
  refine Ve ha (Xo ho hb (Y8 (by have := C.toCk.unt; omega)) (fun v => by cases b <;> first | (simp [qo] at hb'; done) | rfl)) h1 h2 rfl pins s σ H E I ⟨φ,α,τ,μ,sr,mr,(PostS.out sr p).mono fun t μ1 α1 H1 st1 m1 q v d => ?_⟩
  have sr1 := sr.step st1
  refine ⟨φ,α1,τ,μ1,sr1,m1,(PostS.out sr1 q).mono fun ot μ2 α2 H2 st2 m2 q2 ov dv => ?_⟩
  have sr2 := sr1.step st2
  refine ⟨φ,α2,τ,μ2,sr2,m2,(PostS.out sr2 q2).mono fun it μ3 α3 H3 st3 m3 q3 iv di => ?_⟩
  have d3 := (d.step st2).step st3
  have dv := dv.step st3
  cases ot with
  | «mut» i =>
    obtain ⟨x,hx,rfl⟩ := dv
    cases it with
    | int kk =>
      have di : iv = .int kk := di
      subst di
      rcases PostS.or q3 with q3 | q3
      · obtain ⟨ts,hμ,hk,q3⟩ := PostS.ex1 q3
        obtain ⟨xs,hH,l⟩ := m3.ob i x _ hx hμ
        have st4 : Stp α3 H3 α3 (upd H3 x (.lst (xs.set kk.toNat v))) := Stp.turn (List.mem_of_getElem? hx) ⟨_,hH⟩
        have hi : i < μ3.length := (List.getElem?_eq_some_iff.mp hμ).1
        exact .inl ⟨x,kk,xs,rfl,rfl,hH,hk.1,by rw [← l.length]; exact hk.2.1,hk.2.2,PostS.nx q3 st4 (m3.turn hx hi st4 ⟨_,z6,DenL.set (l.step st4) (d3.step st4)⟩) ((sr2.step st3).step st4)⟩
      · obtain ⟨kvs,hμ,hk,q3⟩ := PostS.ex1 q3
        obtain ⟨gs,hH,l⟩ := m3.ob i x _ hx hμ
        have st4 : Stp α3 H3 α3 (upd H3 x (.dK (putK gs (.inl kk) v))) := Stp.turn (List.mem_of_getElem? hx) ⟨_,hH⟩
        have hi : i < μ3.length := (List.getElem?_eq_some_iff.mp hμ).1
        exact .inr ⟨x,gs,(.inl kk),rfl,rfl,hH,by rw [uI l]; exact Nat.lt_of_lt_of_le hk (zp (Nat.le_refl _)),PostS.nx q3 st4 (m3.turn hx hi st4 ⟨_,z6,Wm (d3.step st4) (l.step st4)⟩) ((sr2.step st3).step st4)⟩
    | str z =>
      have di : iv = .str z := di
      obtain ⟨kvs,hμ,hk,q3⟩ := PostS.ex1 q3
      obtain ⟨gs,hH,l⟩ := m3.ob i x _ hx hμ
      have st4 : Stp α3 H3 α3 (upd H3 x (.dK (putK gs (.inr z) v))) := Stp.turn (List.mem_of_getElem? hx) ⟨_,hH⟩
      have hi : i < μ3.length := (List.getElem?_eq_some_iff.mp hμ).1
      exact .inr ⟨x,gs,(.inr z),rfl,di,hH,by rw [uI l]; exact Nat.lt_of_lt_of_le hk (zp (Nat.le_refl _)),PostS.nx q3 st4 (m3.turn hx hi st4 ⟨_,z6,Wm (d3.step st4) (l.step st4)⟩) ((sr2.step st3).step st4)⟩
    | _ => exact PostS.elim q3
  | _ => exact PostS.elim q3
theorem z1U{β:Type}{R:β->Mem->List Addr->Hp->Prop}{kk:T->Mem->RE β}{x y:T}{v w:V}{u1 u2:Value}(I:Inv X pins σ H s)(hu:X.A.units+64<cLine)(mr:MRel D φ α H μ)(d1:Den D φ α H x v)(d2:Den D φ α H y w)(r1:RelV v u1)(r2:RelV w u2)
  (p:Post D W φ α H σ R ((inT x y μ).bind kk)):wpAny (model X.prog X.w) X.A (compareOp .In u1 u2) (EP X pins σ λz H1=>∃t μ1 α1,Stp α H α1 H1/\MRel D φ α1 H1 μ1/\Den D φ α1 H1 t z/\Post D W φ α1 H1 σ R (kk t μ1)) X.xe s:=
 z1q I hu mr d1 d2 r1 r2 (p.bind.mono λt μ' α' H' st m q v d=>⟨t,μ',α',st,m,d,q⟩)
theorem KG(C:Ck D W Γ X k)(ho:wM .In b=true)(ha:PE X a (rdE D W f))(hb:PE X b (rdE D W g)):PT X (.Compare a [.In] [b] pos) (rdT D W (tE (K3 f g))):=by
 rintro pins s σ H Q I ⟨φ,α,τ,μ,sr,mr,p⟩
 have p:Post D W φ α H σ (λb _ _ H'=>Q b H') ((f τ μ).bind λx μ1=>(g τ μ1).bind λy μ2=>(inT x y μ2).bind jU):=p
 refine wpAny_isTrue_Compare1 (thn (sub ha I sr mr p) ?_) (vV ho)
 rintro u s1 ⟨v,H1,t,μ1,α1,I1,r1,st1,sr1,mr1,d1,p1⟩
 refine thn (sub hb I1 sr1 mr1 p1) ?_
 rintro u' s2 ⟨v',H2,t',μ2,α2,I2,r2,st2,sr2,mr2,d2,p2⟩
 refine thn (z1U I2 C.unt mr2 (d1.step st2) d2 r1 r2 p2) ?_
 rintro d s3 ⟨z,H3,I3,r3,t3,μ3,α3,st3,mr3,d3,p3⟩
 unfold jU at p3
 split at p3
 ·cases d3
  cases r3
  exact wpAny_truthy_bool ⟨H3,I3,p3.ok (Stp.refl _ _) mr3⟩
 ·exact p3.elim
end
noncomputable def YT(Γ:Cn)(b:Expr):Bool:=match b with
 |.Name x _=>(idx Γ.N x).isSome
 |_=>false
noncomputable def z1K:ER:=λr Γ e=>match e with
 |.Compare a [.In] [b] _=>gd (YT Γ b&&wM .In b) ((r.e Γ a).bind λf=>(r.e Γ b).bind λg=>some (K3 f g))
 |_=>none
theorem z0G{D:DP}:EOk D z1K:=by
 intro r H X W Γ k e d C h
 unfold z1K at h
 split at h
 ·obtain⟨hb,h1⟩:=zo h
  obtain⟨f,e1,h1⟩:=bnd h1
  obtain⟨g,e2,h1⟩:=bnd h1
  cases h1
  simp only[Bool.and_eq_true] at hb
  exact z3E C hb.2 (H.e C e1) (H.e C e2)
 ·cases h
noncomputable def Ud:TR:=λr Γ e=>match e with
 |.Compare a [.In] [b] _=>gd (YT Γ b&&wM .In b) ((r.e Γ a).bind λf=>(r.e Γ b).bind λg=>some (tE (K3 f g)))
 |_=>none
theorem Yx{D:DP}:TOk D Ud:=by
 intro r H X W Γ k e d C h
 unfold Ud at h
 split at h
 ·obtain⟨hb,h1⟩:=zo h
  obtain⟨f,e1,h1⟩:=bnd h1
  obtain⟨g,e2,h1⟩:=bnd h1
  cases h1
  simp only[Bool.and_eq_true] at hb
  exact KG C hb.2 (H.e C e1) (H.e C e2)
 ·cases h
noncomputable def VL:SR:=λr Γ s=>match s with
 |.Assign [.Subscript o b _] e _=>gd (qo b) ((r.e Γ o).bind λfo=>(r.e Γ b).bind λfb=>(r.e Γ e).bind λf=>some (yc fo fb f))
 |_=>none
theorem JT{D:DP}:SOk D VL:=by
 intro r H X W Γ k e d C h
 unfold VL at h
 split at h
 ·obtain⟨hb,h1⟩:=zo h
  obtain⟨fo,e1,h1⟩:=bnd h1
  obtain⟨fb,e2,h1⟩:=bnd h1
  obtain⟨f,e3,h1⟩:=bnd h1
  cases h1
  exact z0T C hb (H.e C.toCk e3) (H.e C.toCk e1) (H.e C.toCk e2)
 ·cases h
end NH
end
section
namespace NH.P
open PySem L2 NH
@[reducible] noncomputable def jZ:List Ds:=[(sIf (zQ (tE (z8 qf [(eV 0),(eV 1)]))) [(zy 13 [(eC (.str "no moment, house or count of the shape"))])] [])]
noncomputable def qA:Fn:=fnW 2 0 jZ
@[reducible] noncomputable def ZL:List Ds:=[(zI (z8 qA [(eV 1),(z9 (eV 0) 0)])),(zI (z8 qA [(eV 2),(z9 (eV 0) 1)])),(zI (z8 qA [(eV 3),(z9 (eV 0) 2)])),(zj (za .Add (za .Mult (za .Add (za .Mult (eV 1) (z9 (eV 0) 1)) (eV 2)) (z9 (eV 0) 2)) (eV 3)))]
noncomputable def jK:Fn:=fnW 4 0 ZL
@[reducible] noncomputable def u6:List Ds:=[(sIf (tOr (zQ (tE (vW [4] (eV 1)))) (tE (zu .NotEq (eB1 vF (eV 1)) (eC (.int 3))))) [(zj (eC (.bl false)))] []),(sIf (zQ (vj (tE (z8 qf [(eIx (eV 1) (eC (.int 0))),(z9 (eV 0) 1)])) (vj (tE (z8 qg [(eIx (eV 1) (eC (.int 1)))])) (tE (z8 qg [(eIx (eV 1) (eC (.int 2)))]))))) [(zj (eC (.bl false)))] []),(zj (eCh (eC (.int 0)) [(.LtE,(eIx (eV 1) (eC (.int 1)))),(.Lt,(eIx (eV 1) (eC (.int 2)))),(.LtE,(z9 (eV 0) 0))]))]
noncomputable def vC:Fn:=fnW 2 0 u6
@[reducible] noncomputable def je:List Ds:=[(sIf (zQ (tE (z8 vC [(eV 0),(eV 1)]))) [(zy 18 [(eC (.str "no lease of the shape"))])] [])]
noncomputable def qD:Fn:=fnW 2 0 je
@[reducible] noncomputable def kI:List Ds:=[(qb (eV 0) 5 (eV 1)),(qb (eV 0) 6 (eV 2)),(qb (eV 0) 7 (eIx (eV 2) (eC (.int 2)))),(qb (eV 0) 8 (eC (.bl false)))]
noncomputable def ji:Fn:=fnW 3 0 kI
@[reducible] noncomputable def JN:List Ds:=[(zj (zu .Lt (eB2 uC (eIx (z9 (eV 0) 6) (eC (.int 1))) (eV 1)) (eB2 ZO (z9 (eV 0) 7) (eV 2))))]
noncomputable def meets:Fn:=fnW 3 0 JN
@[reducible] noncomputable def ja:List Ds:=[(zq 3 (eV 1)),(kR (.one 4) (iE (Vj 0 (eIx (z9 (eV 0) 6) (eC (.int 1))) (eV 0))) [(sIf (tE (z8 meets [(eV 4),(eV 3),(za .Add (eV 3) (eV 2))])) [(zq 3 (z9 (eV 4) 7))] [])]),(zj (eV 3))]
noncomputable def qG:Fn:=fnW 3 2 ja
@[reducible] noncomputable def j9:List Ds:=[(zq 3 Zb),(kR (.one 4) (iE (eV 0)) [(sIf (tE (z8 meets [(eV 4),(eV 1),(za .Add (eV 1) (eV 2))])) [(yc (eV 3) (eIx (z9 (eV 4) 6) (eC (.int 0))) (eC (.bl true)))] [])]),(zq 5 (eC (.int 0))),(Qk (tE (K3 (eV 5) (eV 3))) [(zq 5 (za .Add (eV 5) (eC (.int 1))))]),(zj (eV 5))]
noncomputable def wj:Fn:=fnW 3 3 j9
@[reducible] noncomputable def j8:List Ds:=[(qb (eV 0) 9 (eV 1)),(qb (eV 0) 10 (KD []))]
noncomputable def wa:Fn:=fnW 2 0 j8
@[reducible] noncomputable def qh:List Ds:=[(sIf (zQ (tE (z8 qy [(eV 1)]))) [(zy 17 [(eC (.str "a holder is a text of one to eight small letters"))])] []),(sIf (vj (tE (zu .IsNot (eV 2) (eC .non))) (zQ (tE (z8 qf [(eV 2),(z9 (z9 (eV 0) 9) 1)])))) [(zy 13 [(eC (.str "no house of the shape"))])] []),(sIf (zQ (tE (z8 w6 [(eV 4)]))) [(zy 16 [(eC (.str "a span is a whole number from 1 on"))])] []),(sIf (zQ (tE (z8 qg [(eV 3)]))) [(zy 16 [(eC (.str "a moment is a whole number"))])] [])]
noncomputable def q9:Fn:=fnW 5 0 qh
@[reducible] noncomputable def qR:List Ds:=[(zj (qL 1 [1] (.one 0) (iE (z9 (eV 0) 10)) [(tE (zu .Eq (eIx (z9 (eV 0) 6) (eC (.int 0))) (eV 1)))] (eV 0)))]
noncomputable def zZ:Fn:=fnW 2 0 qR
@[reducible] noncomputable def qI:List Ds:=[(sIf (tE (zu .Is (eV 1) (eC .non))) [(zj (qP [(z8 wj [(z9 (eV 0) 10),(eV 2),(eV 3)]),(eV 2),(za .Add (eV 2) (eV 3))]))] []),(zq 4 (z8 qG [(zW 43 zZ (eV 0) [(eV 1)]),(eV 2),(eV 3)])),(zj (qP [(eV 1),(eV 4),(za .Add (eV 4) (eV 3))]))]
noncomputable def zP:Fn:=fnW 4 1 qI
@[reducible] noncomputable def kg:List Ds:=[(zI (zW 43 q9 (eV 0) [(eV 1),(eV 2),(eV 3),(eV 4)])),(zq 5 (zW 43 zP (eV 0) [(eV 2),(eB2 uC (eV 3) (eC (.int 0))),(eV 4)])),(sIf (tOr (tE (zu .GtE (eIx (eV 5) (eC (.int 0))) (z9 (z9 (eV 0) 9) 1))) (tE (zu .Gt (eIx (eV 5) (eC (.int 2))) (z9 (z9 (eV 0) 9) 0)))) [(zy 19 [(eC (.str "no such stretch is free"))])] []),(zI (We (z9 (eV 0) 10) (z0a 42 ji [(eV 1),(eV 5)]))),(zj (eV 5))]
noncomputable def qS:Fn:=fnW 5 1 kg
@[reducible] noncomputable def vI:List Ds:=[(zI (z8 qD [(z9 (eV 0) 9),(eV 1)])),(kR (.one 2) (iE (z9 (eV 0) 10)) [(sIf (vj (tE (zu .Eq (z9 (eV 2) 6) (eV 1))) (zQ (tE (z9 (eV 2) 8)))) [(zj (eV 2))] [])]),(zy 18 [(eC (.str "no lease that was let and isn't cut"))])]
noncomputable def jC:Fn:=fnW 2 1 vI
@[reducible] noncomputable def kc:List Ds:=[(zq 3 (zW 43 jC (eV 0) [(eV 1)])),(sIf (tE (zu .Is (eV 2) (eC .non))) [(zq 4 (eIx (eV 1) (eC (.int 1))))] [(sIf (vj (tE (z8 qg [(eV 2)])) (tE (eCh (eIx (eV 1) (eC (.int 1))) [(.LtE,(eV 2)),(.Lt,(eIx (eV 1) (eC (.int 2))))]))) [(zq 4 (za .Add (eV 2) (eC (.int 1))))] [(zy 16 [(eC (.str "no moment of the lease"))])])]),(qb (eV 3) 7 (eV 4)),(qb (eV 3) 8 (eC (.bl true)))]
noncomputable def Vh:Fn:=fnW 3 2 kc
end NH.P
end
section
namespace NH
open PySem PySem.Spec PyProof.Rows L2
theorem walkT2{l:PySem.W.OpenLaw}{q:Program}{loose:List Str}{XP:(Str->Option Value)->Heap->Prop}{YP:World->Heap->Prop}{d:DefRec}{K:Params->PySem.W.Frag}{x:Str}{k:Nat}{P0:Addr}(hk:k<=90)(hn:l.most=some 63)(hdf:d.params.defaults=[])
  (hY:∀(w:World) (h:Heap),YP w h->(K w.params).In h) (hT:∀(w:World) (h:Heap),YP w h->h.get? P0=some (PySem.W.tabObj #[]))
  (F:∀(w:World) (mg:Str->Option Value) (fa:Addr) (h:Heap),(K w.params).In h->h.Ns mainGlobals mg->mg d.name=some (.ref fa)->
   (WS (K w.params)=true/\(K w.params).lookup P0=none/\P0≠cStatics/\∃c,PySem.W.codeHdIn (K w.params) c P0=true)/\∃fd:FuncData,(∀(s:Shared) (u:Value),BindsTo s fd ⟨[u],[]⟩ [(x,u)])/\∀base:Heap,(K w.params).In base->base.Ns mainGlobals mg->base.BuiltinsAt mg P0->FnOk l.prog w (K w.params) mg base (CX1 l.prog w) k fa fd [x] (VF (K w.params) P0)) :
  PySem.W.WalkO q loose XP YP l.row.toRowW d [] (λf vs=>PySem.call f vs):=by
 refine Att.attach_call hn hdf λw s₀ s₁ mg mb fa o pm cd doc a vs ns G Y ho hd hcd hmg hobj hints hlen hg=>?_
 have KX:=hY w _ Y
 obtain⟨⟨f1,f2,f3,c,f4⟩,fd,hb,hF⟩:=F w mg fa _ KX G.T.g hmg
 exact JU KX G.T.g G.T.b G.T.builtins G.T.nolimit hg G.T.bmain f1 (hT w _ Y) f2 f3 f4 hobj hints (Nat.le_trans hlen (by decide)) (Room.mono (k:=90) ⟨rfl,by decide,by decide⟩ hk) hF hb (λH hr hP hne=>⟨a,ns,rfl,hr,hP,hne,hlen,λ_=>rfl⟩) λH e s' z=>by
  obtain⟨_,_,_,_,_,_,_,_,_,_,_,_,_,_,_,z⟩:=z
  exact z
end NH
end
section
namespace NH
open PySem PySem.Spec PyProof.Rows L2
section
variable {prog:Program}{w:World}{A:Around}{E:Value->Shared->Prop}{h:Heap}{g:Array GenState}{d:Drawn}{t:Nat}{os:OsState}
variable {nm q:Str}{C N:Addr}{bs bm bmB:List Value}{hdct:Bool}{sn:List Str}{sub:List Value}{ab:Bool}{col:Option Bool}{dd:Option Addr}{k0 k1 k2 k3 k5:Option Value}{B newId initId:String}
theorem Km (F : ExcBaseFacts B newId initId bmB) (T0 : OwnTail h bmB bm) {mN : Str -> Option Value} {us : List Value} {fI : Addr} {oI : Obj} {Q : Fin -> Shared -> Prop}
    (gC : h.get? C = some (excClassObj nm q C N bs bm hdct sn sub ab col dd k0 k1 k2 k3 k5 newId)) (gN : h.Ns N mN) (gI : mN "__init__" = some (.ref fI)) (gf : h.get? fI = some oI) (gc : oI.cls = .type "function")
    (go : ∀ h1 x,Heap.MadeExcOf h h1 x (.ref C) us -> wpAny (model prog w) A (call (.ref fI) (.ref x :: us)) (fun r s1 => r = .none /\ Q (.done (.ret (.ref x))) s1) E ⟨h1,g,d,t,os⟩) (hus : us.length <= sizeLine) :
    wpAny (model prog w) A (Builtin.«type.__call__» ⟨.ref C :: us,[]⟩) Q E ⟨h,g,d,t,os⟩ := by
  repeat (first | (with_reducible refine wpAny_loadPart_at gC ?_) | (with_reducible refine wpAny_madeBy_exc gC ?_) | wp_step)
  refine codeAny_call_builtin_code (Code.quiet_builtin _ F.quiet) (wpAny_check_new_subT F T0 gC (codeAny_exc_new_subT F T0 gC ?_ hus))
  show wpAny _ _ _ _ _ _
  let tu : Obj := { cls := .type "tuple",data := .seq us.toArray }
  let xo : Obj := { cls := .ref C,data := .fields #[.ref h.objs.size,.none,.none,.none,.bool false,.none] }
  have up : ∀ b o,h.get? b = some o -> ((h.push tu).push xo).get? b = some o := fun b o e => Heap.get?_push_of_some _ (Heap.get?_push_of_some _ e)
  have gC1 := up _ _ gC
  have gf1 := up _ _ gf
  have gN1 : ((h.push tu).push xo).Ns N mN := by
    obtain ⟨o,es,ep,e,r⟩ := gN
    exact ⟨o,es,ep,up _ _ e,r⟩
  have gx : ((h.push tu).push xo).get? (h.objs.size + 1) = some xo := by
    have := Heap.get?_push_size (h.push tu) (o := xo) rfl
    rw [Heap.size_push] at this
    exact this
  have own : (Value.ref C :: bm).contains (.ref C) = true := by simp
  have T1 : OwnTail ((h.push tu).push xo) bmB bm := T0.keeps up
  unfold isInstance
  repeat (first | (with_reducible refine wpAny_loadPart_at gx ?_) | (with_reducible refine wpAny_isSubtype_exc gC1 ?_; rw [own]) | wp_step)
  show wpAny _ _ (typeLookup (.ref C) _) _ _ _
  refine wpAny_typeLookup_tail gC1 gN1 T1 F.mroIs F.init.lookup ?_
  rw [gI]
  refine wpAny_holding (wpAny_bind ?_)
  unfold bindSpecial
  refine wpAny_bind (wpAny_typeOf (T := "function") ⟨_,gf1,gc⟩ ?_)
  rw [if_pos (by decide)]
  have mk : Heap.MadeExcOf h ((h.push tu).push xo) (h.objs.size + 1) (.ref C) us := ⟨up,Heap.get?_none_of_le (Nat.le_succ _),h.objs.size,gx,Heap.get?_none_of_le (Nat.le_refl _),Heap.get?_push_of_some _ (Heap.get?_push_at rfl rfl)⟩
  refine wpAny_pure (wpAny_bind (wpAny_mono (go _ _ mk) (fun r s1 hr => ?_) fun _ _ z => z))
  obtain ⟨rfl,hr⟩ := hr
  wp_walk
  exact hr
theorem K8(F:ExcBaseFacts B newId initId bmB)(T0:OwnTail h bmB bm){mN:Str->Option Value}{us:List Value}{fI:Addr}{oI:Obj}{Q:Value->Shared->Prop}
  (gC:h.get? C=some (excClassObj nm q C N bs bm hdct sn sub ab col dd k0 k1 k2 k3 k5 newId)) (gN:h.Ns N mN) (gI:mN "__init__"=some (.ref fI)) (gf:h.get? fI=some oI) (gc:oI.cls=.type "function")
  (go:∀h1 x,Heap.MadeExcOf h h1 x (.ref C) us->wpAny (model prog w) (A.under (.builtin "type.__call__" ⟨.ref C::us,[]⟩)) (call (.ref fI) (.ref x::us)) (λr s1=>r=.none/\Q (.ref x) s1) E ⟨h1,g,d,t,os⟩) (hus:us.length<=sizeLine) :
  wpAny (model prog w) A (call (.ref C) us) Q E ⟨h,g,d,t,os⟩:=by
 have i1:=tc_lookup
 have i2:=tc_bind (.ref C)
 have tp:Shared.TypeIs ⟨h,g,d,t,os⟩ (.ref C) "type":=⟨_,gC,rfl⟩
 refine wpAny_call (codeAny_of_tree ?_)
 show wpAny _ _ (callAny (.ref C) _) _ _ _
 repeat (any_goals (first|assumption|(with_reducible refine wpAny_loadPart_at gC ?_)|wp_step))
 refine⟨rfl,codeAny_call_builtin_at (Code.quiet_builtin _ (by decide +kernel)) entry_typeCall (wpAny_check_type_call_sub gC ?_)⟩
 exact Km F T0 gC gN gI gf gc (λh1 x mk=>go h1 x mk) hus
theorem ub {M:Model} {env:Env} {s:Shared} {x:Sem Value} {Q:Flow->Shared->Prop} (hbase:bm.contains (.type "BaseException")=true) (hh:A.handled=none)
  (go:wpAny M A x (λv s1=>∃e t dx,v=.ref e/\s1.heap.get? C=some (excClassObj nm q C N bs bm hdct sn sub ab col dd k0 k1 k2 k3 k5 newId)/\
   s1.heap.get? e=some {cls:=.ref C,dict:=dx,data:=.fields #[.ref t,.none,.none,.none,.bool false,.none]}/\E (.ref e) s1) E s) :
  wpAny M A (raiseStmt env (some x) none) Q E s:=by
 have isB:(Value.ref C::bm).contains (.type "BaseException")=true:=by rw[List.contains_cons,hbase];simp
 unfold raiseStmt
 refine wpAny_bind (wpAny_mono go (λv s1 k=>?_) λ_ _ z=>z)
 obtain⟨e,t,dx,rfl,gC,ge,gE⟩:=k
 obtain⟨h1,g1,d1,t1,o1⟩:=s1
 repeat (first|(with_reducible refine wpAny_loadPart_at ge ?_)|(with_reducible refine wpAny_loadPart_at gC ?_)|(with_reducible refine wpAny_isSubtype_exc gC ?_;rw[isB])|wp_step)
 exact wpAny_raiseNew_none hh gE
end
end NH
end
section
namespace NH
open PySem PySem.Spec PyProof.Rows L2
section
variable {prog:Program}{w:World}{A:Around}{E:Value->Shared->Prop}{s:Shared}
variable {nm q:Str}{C N:Addr}{bs bm bmB:List Value}{hdct:Bool}{sn:List Str}{sub:List Value}{ab:Bool}{col:Option Bool}{dd:Option Addr}{k0 k1 k2 k3 k5:Option Value}{B newId initId:String}
theorem XD (F : ExcBaseFacts B newId initId bmB) (T0 : OwnTail s.heap bmB bm) {e : Addr} {ob : Obj} {vs : Array Value} {t0 : Addr} {rest : List Value} {Q : Value -> Shared -> Prop}
    (gC : s.heap.get? C = some (excClassObj nm q C N bs bm hdct sn sub ab col dd k0 k1 k2 k3 k5 newId)) (he : s.heap.get? e = some ob) (hcls : ob.cls = .ref C) (hd : ob.data = .fields vs) (h0 : vs[0]? = some (.ref t0))
    (h : Q .none { s with heap := (s.heap.push { cls := .type "tuple",data := .seq rest.toArray }).update e (Obj.mapFields (·.setIfInBounds 0 (.ref s.heap.objs.size))) }) (hrest : rest.length <= sizeLine) :
    wpAny (model prog w) A (call (.builtin initId) (.ref e :: rest)) Q E s := by
  obtain ⟨hh,g,d,t,os⟩ := s
  refine wpAny_call (codeAny_call_builtin F.init.plain F.initEntry (wpAny_check_init_subT F T0 gC he hcls ?_))
  unfold Builtin.«BaseException.__init__»
  dsimp only
  rw [if_neg (by simp)]
  unfold newTuple Builtin.BaseException.bexcPut
  have hsz : 0 < vs.size := (Array.getElem?_eq_some_iff.mp h0).1
  have he₁ := Heap.get?_push_of_some (h := hh) { cls := .type "tuple",data := .seq rest.toArray } he
  refine wpAny_bind (wpAny_newObj_type (wpAny_bind (wpAny_bind (wpAny_field he₁ hd h0 (wpAny_bind (wpAny_setField he₁ hd hsz ?_))))) (by show rest.toArray.size <= sizeLine; rw [List.size_toArray]; exact hrest))
  exact wpAny_letGo (wpAny_pure h)
end
noncomputable def wZ:List Value->Bool
 |.ref _::r=>wZ r
 |l=>l == zC
theorem vE(self:Value):∀{l:List Value},wZ l=true->PySem.refuseLoop self "__setattr__" l=pure ()
 |.ref c::r,e=>by rw[refuseLoop_ref];exact vE self e
 |.type n::r,e=>by rw[show Value.type n::r=zC from beq_iff_eq.mp e];exact PySem.F.store_ValueError.passes self
 |[],e=>by cases e
 |v::r,e=>by
  unfold wZ at e
  split at e
  ·rename_i h;cases h;rw[refuseLoop_ref];exact vE self e
  ·rw[beq_iff_eq.mp e];exact PySem.F.store_ValueError.passes self
theorem jv:∀{l:List Value},wZ l=true->l.contains (.type "object")=true
 |.ref c::r,e=>by rw[List.contains_cons,jv (l:=r) e,Bool.or_true]
 |[],e=>by cases e
 |v::r,e=>by
  unfold wZ at e
  split at e
  ·rename_i h;cases h;rw[List.contains_cons,jv (l:=_) e,Bool.or_true]
  ·rw[beq_iff_eq.mp e];decide
section
variable {prog:Program}{w:World}{A:Around}{E:Value->Shared->Prop}{s:Shared}{K:PySem.W.Frag}{C x:Addr}
theorem z15{ox:Obj}{name:Str}{v:Value}{Q:Unit->Shared->Prop}(X:K.In s.heap)(hx:s.heap.get? x=some ox)(hc:ox.cls=.ref C)(hnc:PySem.W.notCls ox=true)(hd:ox.dict=none)
  (hs:PySem.W.findIn K (.ref C) "__setattr__"=some (some (.builtin "object.__setattr__"))) (hp:((PySem.W.clsIn K C).any λcd=>wZ cd.mro)=true) (ht:PySem.W.findIn K (.ref C) name=some none) (hh:PySem.W.hasDictIn K C=true)
  (h:∀h' tk,h'.get? x=some {ox with dict:=some s.heap.objs.size}->h'.Ns1 s.heap.objs.size (λy=>if y=name then some v else none)->(∀b o,b≠x->s.heap.get? b=some o->h'.get? b=some o)->Q () {s with heap:=h',toks:=tk}) :
  wpAny (model prog w) A (setAttr (.ref x) name v) Q E s:=by
 have J:PySem.W.InstAt s.heap x ox C none:=⟨hx,hc,hnc,by rw[hd];trivial⟩
 refine PySem.W.set_plain X J hs ?_
 have SF:=PySem.F.store_object
 obtain⟨cd,hcd,ho⟩:=PySem.W.any_some hp
 obtain⟨cd',hcd',hdict⟩:=PySem.W.any_some hh
 rw[hcd] at hcd'
 cases hcd'
 have ne:cd.mro.isEmpty=false:=by cases q:cd.mro with|nil=>rw[q] at ho;cases ho|cons _ _=>rfl
 have sub:PySem.W.Looks (model prog w) s.heap (isInstance (.ref x) (.type "object")) true:=J.type.andThen (PySem.W.looks_mroIn X (by unfold PySem.W.mroIn;rw[hcd,Option.bind_some,if_neg (by rw[ne];decide),jv ho]))
 refine codeAny_call_builtin SF.slot.plain SF.entry (@PySem.W.check_slot (model prog w) _ _ {s with toks:=s.toks+1} "object.__setattr__" "object" "__setattr__" (.ref x) [.str name s.toks,v] [] _ SF.kind SF.split sub (SF.args (.ref x) (.str name s.toks) v) ?_)
 have hm:PySem.W.Looks (model prog w) s.heap (mroOf (.ref C)) cd.mro:=(PySem.W.looks_clsIn X hcd).andThen .now
 rw[PySem.W.osa_eq,refuse_eq]
 refine wpAny_bind (wpAny_bind (PySem.W.Looks.here (s:={s with toks:=s.toks+1}) J.type (wpAny_bind (PySem.W.Looks.here (s:={s with toks:=s.toks+1}) hm ?_))))
 rw[vE _ ho]
 refine wpAny_pure (wpAny_bind (PySem.W.Looks.here (s:={s with toks:=s.toks+1}) J.type (wpAny_bind (PySem.W.Looks.here (s:={s with toks:=s.toks+1}) (PySem.W.looks_findIn X ht) (wpAny_bind (wpAny_pure ?_))))))
 obtain⟨hh0,g,dr,t,os⟩:=s
 obtain⟨oc,odi,oda,osl⟩:=ox
 dsimp only at hc hd hx
 subst hc hd
 have hnc':∀c,oda≠.cls c:=λc z=>by subst z;cases hnc
 refine wpAny_bind (wpAny_pure (wpAny_bind (wpAny_bind (wpAny_loadPart hx (wpAny_bind (PySem.W.Looks.here (s:=⟨hh0,g,dr,t+1,os⟩) (PySem.W.looks_clsIn X hcd) ?_))))))
 rw[hdict]
 have hx₁:(hh0.push {cls:=.type "dict",data:=.dict #[]}).get? x=some ⟨.ref C,none,oda,osl⟩:=Heap.get?_push_of_some _ hx
 have hxs:x≠hh0.objs.size:=Nat.ne_of_lt (Heap.lt_size hx)
 have go:wpAny (model prog w) A.in1 (do
   let d ←alloc {cls:=.type "dict",data:=.dict #[]}
   update x λo=>{o with dict:=some d}
   dictMade (.ref C) x d) (λa s'=>wpAny (model prog w) A.in1 (match a with
    |some d=>Builtin.ObjectAttr.storeInDict d (.str name t) name v
    |none=>Builtin.ObjectAttr.noDictFor (.ref x) (.ref C) name false) (λfin s'=>match fin with|.done f=>(match (Except.ok f:Result) with|.ok (.ret _)=>Q () s'|.ok _=>False|.error e=>E e s')|.again c'=>c'.quiet=true/\codeAny (model prog w) A c' (λr s'=>match r with|.ok (.ret _)=>Q () s'|.ok _=>False|.error e=>E e s') s') (λe s'=>E e s') s') (λe s'=>E e s') ⟨hh0,g,dr,t+1,os⟩:=by
  refine wpAny_bind (wpAny_alloc' ?_)
  refine wpAny_bind (wpAny_update' hx₁ ?_)
  refine wpAny_pure ?_
  have hgd:((hh0.push {cls:=.type "dict",data:=.dict #[]}).update x λo=>{cls:=o.cls,dict:=some hh0.objs.size,data:=o.data,slots:=o.slots}).get? hh0.objs.size
    = some {cls:=.type "dict",data:=.dict #[]}:=
   (Heap.get?_update_ne _ _ _ _ hxs.symm).trans (Heap.get?_push_at rfl rfl)
  have hnd:((hh0.push {cls:=.type "dict",data:=.dict #[]}).update x λo=>{cls:=o.cls,dict:=some hh0.objs.size,data:=o.data,slots:=o.slots}).Ns hh0.objs.size (λ_=>none):=
   ⟨_,#[],_,hgd,rfl,λe he=>absurd he (by simp),λ_=>rfl⟩
  show wpAny _ _ (Builtin.ObjectAttr.storeInDict hh0.objs.size (.str name t) name v) _ _ _
  unfold Builtin.ObjectAttr.storeInDict Builtin.ObjectAttr.newKeyGuard
  refine wpAny_bind (wpAny_pure (wpAny_bind (wpAny_nsSet1 (Heap.Ns1.of_empty hnd) λh' hn' hs=>?_)))
  obtain⟨oD,esD,epD,hoD,hdD,hcD⟩:=hn'.count (Within.cons name v Within.nil)
  refine wpAny_bind (wpAny_lookBehind hoD (by rw[hdD];exact pastItsLine_dict (Nat.le_trans hcD (by rw[List.length_cons,List.length_nil,sizeLine_eq];omega))) ?_)
  refine wpAny_pure (h h' _ ?_ ?_ ?_)
  ·refine (hs.2 x hxs).trans (Heap.get?_update_self _ hx₁ ?_)
   have hfr:=(Heap.get?_some_iff.mp hx).2
   cases oda<;>first|rfl|exact hfr
  ·obtain⟨o',es,ep,e1,e2,e3,eu,e4⟩:=hn'
   exact⟨o',es,ep,e1,e2,e3,eu,λy=>by rw[e4 y]⟩
  ·intro b o hbx hb
   exact (hs.2 b (Nat.ne_of_lt (Heap.lt_size hb))).trans ((Heap.get?_update_ne _ _ _ _ hbx).trans (Heap.get?_push_of_some _ hb))
 cases oda<;>first|exact absurd rfl (hnc' _)|exact go
end
end NH
end
section
namespace NH
open PySem PySem.Spec PyProof.Rows L2
theorem kN{K:PySem.W.Frag}{h:Heap}{N:Addr}{x:Str}{v:Value}(X:K.In h)(e:PySem.W.nsOkIn K N=true)(q:PySem.W.nsIn K N x=some (some v)):h.nsMap N x=some v:=by
 obtain⟨o,es,ep,ho,hd,_,hf⟩:=(Heap.Ns.of_isNs (PySem.W.isNs_of_in X e):h.Ns N (h.nsMap N))
 unfold PySem.W.nsIn at q
 split at q
 ·rename_i c d es' n' sl q'
  have:=X _ _ q'
  rw[ho] at this
  cases this
  cases hd
  split at q
  ·rename_i he
   cases q
   rw[←hf]
   unfold nsFind findBy
   rw[←Array.find?_toList,he]
   rfl
  ·split at q<;>cases q
 ·cases q
theorem XIn.mro{K:PySem.W.Frag}{C HE fI:Addr}{fl:Str}(x:XIn K C HE fI fl):((PySem.W.clsIn K C).any λcd=>wZ cd.mro)=true:=by
 obtain⟨N,nm,q,bs,hd,sn,sub,ab,col,dd,k0,k1,k2,k3,k5,h,_⟩:=x.cls
 unfold PySem.W.clsIn
 rw[h]
 show wZ (.ref C::.ref HE::zC)=true
 show wZ zC=true
 decide
theorem XIn.at_{K:PySem.W.Frag}{C HE fI:Addr}{fl:Str}{h:Heap}(x:XIn K C HE fI fl)(X:K.In h):∃N nm q bs hd sn sub ab col dd k0 k1 k2 k3 k5,h.get? C=some (excClassObj nm q C N bs (.ref HE::zC) hd sn sub ab col dd k0 k1 k2 k3 k5 "ValueError.__new__")/\h.Ns N (h.nsMap N)/\h.nsMap N "__init__"=some (.ref fI)/\OwnTail h zC (.ref HE::zC):=by
 obtain⟨N,nm,q,bs,hd,sn,sub,ab,col,dd,k0,k1,k2,k3,k5,h1,h2,h3⟩:=x.cls
 obtain⟨tl,N',nm',q',bs',hd',sn',sub',ab',col',dd',k0',k1',k2',k3',k5',mN,g1,g2,g3,g4⟩:=W9 X x.he
 exact⟨N,nm,q,bs,hd,sn,sub,ab,col,dd,k0,k1,k2,k3,k5,X _ _ h1,.of_isNs (PySem.W.isNs_of_in X h2),kN X h2 h3,.own g1 g2 g3 .base⟩
section
variable {X:Cx}{pins:List (Addr×Obj)}{s:Shared}{σ:St}{H:Hp}{C HE fI:Addr}{fl:Str}
theorem z09 {a b par:Str} {ka kb:Nat} {p1 p2 p3 p4 p5:Pos} (hN:X.N[1]?=some par) (hv:Vis X.env.scope par) (hd:(par == ("__debug__":Str))=false) (hcd:(par == ("__classdict__":Str))=false) (ha:a.length<=1000) (hb:b.length<=1000) :
  PE X (.JoinedStr [.Constant (.str a) ka p1,.FormattedValue (.Name par p2) (-1) none p3,.Constant (.str b) kb p4] p5) (λσ H Q=>∃i:Int,σ[1]?=some (some (.int i))/\i.natAbs.log2<1920/\∀z,Q (.str z) H):=by
 rintro pins s σ H Q I ⟨i,hi,hlog,q⟩
 have e:=int_text_length_le (k:=1920) (by decide) hlog
 have e2:(Str.ofString (toString i)).length<=1921:=by rw[PySem.ofString_length];exact e
 refine wpAny_JoinedStr ?_
 refine thn (Qd (x:=a) pins s σ H (λv H1=>v=.str a/\H1=H) I ⟨rfl,rfl⟩) ?_
 rintro u s1 ⟨v,H1,I1,r,rfl,rfl⟩
 obtain⟨t1,rfl⟩:=r
 have l0:(Str.empty++a).length<=1000:=by rw[strLen_append];show 0+a.length<=1000;omega
 refine⟨_,_,rfl,by rw[sizeLine_eq];omega,?_⟩
 refine wpAny_FormattedValue_plain (thn (kZ (i:=1) hN hv hd hcd pins s1 σ H1 (λv H2=>v=.int i/\H2=H1) I1 ⟨_,hi,rfl,rfl⟩) ?_)
 rintro u s2 ⟨v,H2,I2,r,rfl,rfl⟩
 obtain⟨t2,rfl⟩:=r
 refine wpAny_formatField_int hlog ?_
 have l1:(Str.empty++a++Str.ofString (toString i)).length<=3000:=by rw[strLen_append];omega
 refine⟨_,_,rfl,by rw[sizeLine_eq];omega,?_⟩
 have I3:Inv X pins σ H2 {s2 with toks:=s2.toks+1+1}:=I2.kept (h':=s2.heap) λ_ _ q=>q
 refine thn (Qd (x:=b) pins _ σ H2 (λv H1=>v=.str b/\H1=H2) I3 ⟨rfl,rfl⟩) ?_
 rintro u s4 ⟨v,H4,I4,r,rfl,rfl⟩
 obtain⟨t4,rfl⟩:=r
 have l2:(Str.empty++a++Str.ofString (toString i)++b).length<=5000:=by rw[strLen_append];omega
 refine⟨_,_,rfl,by rw[sizeLine_eq];omega,by rw[sizeLine_eq];omega,?_⟩
 exact⟨.str _,H4,I4.kept (h':=s4.heap) λ_ _ q=>q,⟨_,rfl⟩,q _⟩
theorem Uc {a par:Str} {ka:Nat} {p1 p2 p3 p5:Pos} (hN:X.N[1]?=some par) (hv:Vis X.env.scope par) (hd:(par == ("__debug__":Str))=false) (hcd:(par == ("__classdict__":Str))=false) (ha:a.length<=1000) :
  PE X (.JoinedStr [.Constant (.str a) ka p1,.FormattedValue (.Name par p2) (-1) none p3] p5) (λσ H Q=>∃i:Int,σ[1]?=some (some (.int i))/\i.natAbs.log2<1920/\∀z,Q (.str z) H):=by
 rintro pins s σ H Q I ⟨i,hi,hlog,q⟩
 have e:=int_text_length_le (k:=1920) (by decide) hlog
 have e2:(Str.ofString (toString i)).length<=1921:=by rw[PySem.ofString_length];exact e
 refine wpAny_JoinedStr ?_
 refine thn (Qd (x:=a) pins s σ H (λv H1=>v=.str a/\H1=H) I ⟨rfl,rfl⟩) ?_
 rintro u s1 ⟨v,H1,I1,r,rfl,rfl⟩
 obtain⟨t1,rfl⟩:=r
 have l0:(Str.empty++a).length<=1000:=by rw[strLen_append];show 0+a.length<=1000;omega
 refine⟨_,_,rfl,by rw[sizeLine_eq];omega,?_⟩
 refine wpAny_FormattedValue_plain (thn (kZ (i:=1) hN hv hd hcd pins s1 σ H1 (λv H2=>v=.int i/\H2=H1) I1 ⟨_,hi,rfl,rfl⟩) ?_)
 rintro u s2 ⟨v,H2,I2,r,rfl,rfl⟩
 obtain⟨t2,rfl⟩:=r
 refine wpAny_formatField_int hlog ?_
 have l1:(Str.empty++a++Str.ofString (toString i)).length<=3000:=by rw[strLen_append];omega
 refine⟨_,_,rfl,by rw[sizeLine_eq];omega,by rw[sizeLine_eq];omega,?_⟩
 exact⟨.str _,H2,I2.kept (h':=s2.heap) λ_ _ q=>q,⟨_,rfl⟩,q _⟩
noncomputable def WT(par:Str)(parts:List Expr):Prop:=
 (∃(a b:Str) (ka kb:Nat) (p1 p2 p3 p4:Pos),parts=[.Constant (.str a) ka p1,.FormattedValue (.Name par p2) (-1) none p3,.Constant (.str b) kb p4]/\a.length<=1000/\b.length<=1000)\/
 ∃(a:Str) (ka:Nat) (p1 p2 p3:Pos),parts=[.Constant (.str a) ka p1,.FormattedValue (.Name par p2) (-1) none p3]/\a.length<=1000
theorem YV {par:Str} {parts:List Expr} {p5:Pos} (hN:X.N[1]?=some par) (hv:Vis X.env.scope par) (hd:(par == ("__debug__":Str))=false) (hcd:(par == ("__classdict__":Str))=false) (h:WT par parts) :
  PE X (.JoinedStr parts p5) (λσ H Q=>∃i:Int,σ[1]?=some (some (.int i))/\i.natAbs.log2<1920/\∀z,Q (.str z) H):=by
 rcases h with⟨a,b,ka,kb,p1,p2,p3,p4,rfl,h1,h2⟩|⟨a,ka,p1,p2,p3,rfl,h1⟩
 ·exact z09 hN hv hd hcd h1 h2
 ·exact Uc hN hv hd hcd h1
theorem z08 {par slf B:Str} {parts:List Expr} {p5 q0 q1 q2 q4:Pos} (xi:XIn X.K C HE fI fl) (hN0:X.N[0]?=some slf) (hv0:Vis X.env.scope slf) (hd0:(slf == ("__debug__":Str))=false) (hcd0:(slf == ("__classdict__":Str))=false)
  (hN:X.N[1]?=some par) (hv:Vis X.env.scope par) (hd:(par == ("__debug__":Str))=false) (hcd:(par == ("__classdict__":Str))=false) (hfp:WT par parts)
  (hB:Gl X B) (hm:X.mg B=some (.ref HE)) (hBd:(B == ("__debug__":Str))=false) (hga:PySem.W.specialIn X.K (.ref HE) "__getattribute__"=some (some (.builtin "type.__getattribute__"))) (hr:PySem.W.readsIn X.K HE (.type "type")=true)
  (hf:PySem.W.findCls X.K (.ref HE) (.type "type") "__init__"=some (.val (.builtin "ValueError.__init__"))) (hline:(q1.endLine == q4.line)=true) :
  PE X (.Call (.Attribute (.Name B q0) "__init__" q1) [.Name slf q2,.JoinedStr parts p5] [] q4) (λσ H Q=>∃(x:Addr) (i:Int),σ[0]?=some (some (.ref x))/\σ[1]?=some (some (.int i))/\i.natAbs.log2<1920/\H x=some (.ext (xT x C))/\Q .non (upd H x (.ext (xT x C)))):=by
 rintro pins s σ H Q I ⟨x,i,h0,h1,hlog,hx,q⟩
 rw[arm_eval_Call]
 refine wpAny_bind (wc I hB hm ?_ hBd)
 refine wpAny_bind (wpAny_standAt ?_)
 have hpos:methodCallPos true (.Name B q0) X.env q1 q4=pure q4:=by unfold methodCallPos;simp[hline]
 unfold methodCall
 refine wpAny_bind (wpAny_holding (PySem.W.method_cls I.kIn hga (PySem.W.cls_value I.kIn hr hf rfl ?_)))
 refine wpAny_bind (wpAny_of_eq hpos ?_)
 have I1:Inv X pins σ H {s with toks:=s.toks+1}:=I.kept (h':=s.heap) λ_ _ q=>q
 have pa:PA X [.Name slf q2,.JoinedStr parts p5] _:=zr (kZ (i:=0) hN0 hv0 hd0 hcd0) (zr (YV hN hv hd hcd hfp) qi)
 refine PySem.W.callWith_of (P:=λ_=>True) (first:=[]) rfl (λh _=>⟨.machine,.inr (.inl rfl),PySem.W.Looks.of_pure rfl⟩) (Calls.evalArgs_plain (thn (pa q4 pins _ σ H (λvs H1=>∃z,vs=[.ref x,.str z]/\H1=H) I1 ⟨_,h0,i,h1,hlog,λz=>⟨z,rfl,rfl⟩⟩) ?_))
 rintro us s2 ⟨vs,H2,I2,rv,z,rfl,rfl⟩
 obtain⟨u1,rfl⟩:∃u1,us=[.ref x,u1]:=by
  cases rv with
  |cons r1 r2=>cases r2 with
   |cons r3 r4=>cases r4;cases r1;exact⟨_,rfl⟩
 refine⟨trivial,?_⟩
 obtain⟨N,nm,qn,bs,hdd,sn,sub,ab,col,dd,k0,k1,k2,k3,k5,g1,g2,g3,g4⟩:=xi.at_ I2.kIn
 obtain⟨t,ex⟩:xT x C s2.heap:=(show ObjOk X.prog X.w H2 s2.heap x (.ext (xT x C)) from I2.hok _ _ hx).1
 refine XD (rest:=[u1]) PySem.F.excBase_ValueError g4 g1 ex rfl rfl rfl ?_ (by rw[sizeLine_eq];show 1<=_;omega)
 have lt:x<s2.heap.objs.size:=Heap.lt_size ex
 have ex1:=Heap.get?_push_of_some (h:=s2.heap) {cls:=.type "tuple",data:=.seq [u1].toArray} ex
 have k1:∀b u,b≠x->s2.heap.get? b=some u->((s2.heap.push {cls:=.type "tuple",data:=.seq [u1].toArray}).update x (Obj.mapFields (·.setIfInBounds 0 (.ref s2.heap.objs.size)))).get? b=some u:=λb u hb hu=>by
  rw[Heap.get?_update_other _ _ (Ne.symm hb)]
  exact Heap.get?_push_of_some _ hu
 have ex2:((s2.heap.push {cls:=.type "tuple",data:=.seq [u1].toArray}).update x (Obj.mapFields (·.setIfInBounds 0 (.ref s2.heap.objs.size)))).get? x=some {cls:=.ref C,data:=.fields #[.ref s2.heap.objs.size,.none,.none,.none,.bool false,.none]}:=by
  rw[Heap.get?_update_self _ ex1 rfl];rfl
 exact⟨.non,_,I2.write (x:=x) (e:=x) (o:=.ext (xT x C)) (t':=s2.toks) (by rw[hx];exact True.intro) (.inl rfl) k1 ⟨_,ex2⟩ ⟨⟨_,ex2⟩,⟨_,ex2⟩,λh1 h2 ⟨t,e⟩ k=>⟨t,k _ e⟩⟩,rfl,q⟩
theorem Ya {par slf:Str} {q0 q1 q2 q3:Pos} (xi:XIn X.K C HE fI fl) (hN0:X.N[0]?=some slf) (hv0:Vis X.env.scope slf) (hd0:(slf == ("__debug__":Str))=false) (hcd0:(slf == ("__classdict__":Str))=false)
  (hN:X.N[1]?=some par) (hv:Vis X.env.scope par) (hd:(par == ("__debug__":Str))=false) (hcd:(par == ("__classdict__":Str))=false) :
  PS X (.Assign [.Attribute (.Name slf q0) fl q1] (.Name par q2) q3) (λD σ H=>∃(x:Addr) (i:Int),σ[0]?=some (some (.ref x))/\σ[1]?=some (some (.int i))/\H x=some (.ext (xT x C))/\∀dx,H dx=none->dx≠x->D.nx σ (upd (upd H x (.ext (uJ x C dx))) dx (.xd [(fl,.int i)]))):=by
 rintro pins s σ H D I ⟨x,i,h0,h1,hx,q⟩
 refine plainObj_wpAny_Assign_Attribute (thn (kZ (i:=1) hN hv hd hcd pins s σ H (λv H1=>v=.int i/\H1=H) I ⟨_,h1,rfl,rfl⟩) ?_) rfl
 rintro u s1 ⟨v,H1,I1,r,rfl,rfl⟩
 refine thn (kZ (i:=0) hN0 hv0 hd0 hcd0 pins s1 σ H1 (λv H2=>v=.ref x/\H2=H1) I1 ⟨_,h0,rfl,rfl⟩) ?_
 rintro ov s2 ⟨v,H2,I2,r2,rfl,rfl⟩
 cases r2
 obtain⟨t,ex⟩:xT x C s2.heap:=(show ObjOk X.prog X.w H2 s2.heap x (.ext (xT x C)) from I2.hok _ _ hx).1
 refine z15 I2.kIn ex rfl rfl rfl xi.sa xi.mro xi.no xi.dct λh' tk e1 e2 e3=>?_
 have lt:x<s2.heap.objs.size:=Heap.lt_size ex
 have hf:H2 s2.heap.objs.size=none:=I2.hok.fresh (Nat.le_refl _)
 have ne:s2.heap.objs.size≠x:=Nat.ne_of_gt lt
 refine⟨σ,_,?_,q _ hf ne⟩
 have ox:XOk X H2 s2.heap.objs.size:=v7 I2 (Heap.get?_none_of_le (Nat.le_refl _))
 have hpn:∀p∈pins,p.1≠s2.heap.objs.size:=λp hp z=>by
  have:=(I2.pin p (List.mem_append_right _ hp)).1
  rw[z,Heap.get?_none_of_le (Nat.le_refl _)] at this;cases this
 have I3:Inv X pins σ (upd H2 x (.ext (uJ x C s2.heap.objs.size))) {s2 with heap:=h',toks:=tk}:=I2.write (x:=x) (e:=x) (by rw[hx];exact True.intro) (.inl rfl) (λb u hb hu=>e3 b u hb hu) ⟨_,e1⟩ ⟨⟨t,e1⟩,⟨_,e1⟩,λh1 h2 ⟨t,e⟩ k=>⟨t,k _ e⟩⟩
 have ox3:XOk X (upd H2 x (.ext (uJ x C s2.heap.objs.size))) s2.heap.objs.size:=⟨by rw[z7 ne];exact ox.free,ox.loc,ox.nfs,ox.new,ox.cel,ox.pin⟩
 refine yS I3 ox3 hpn ⟨_,e2,λf=>?_⟩
 show RelO (List.lookup f [(fl,V.int i)]) (if f=fl then some u else none)
 by_cases z:f=fl
 ·subst z
  rw[if_pos rfl]
  simp only[List.lookup,beq_self_eq_true]
  exact r
 ·rw[if_neg z]
  have:(f == fl)=false:=beq_eq_false_iff_ne.mpr z
  simp only[List.lookup,this]
  exact trivial
end
noncomputable def z4P(body:List Stmt)(B slf par fl:Str):Prop:=∃(q0 q1 q2 p5 q4 q5 r0 r1 r2 r3:Pos) (parts:List Expr),
 body=[.Expr (.Call (.Attribute (.Name B q0) "__init__" q1) [.Name slf q2,.JoinedStr parts p5] [] q4) q5,.Assign [.Attribute (.Name slf r0) fl r1] (.Name par r2) r3]/\(q1.endLine == q4.line)=true/\WT par parts
noncomputable def scI(slf par B:Str)(sc:Scope):Bool:=(sc.kind == .function)&&!sc.isCoroutine&&!sc.isGenerator&&(slf != par)&&(sc.names.lookup slf == some .local)&&(sc.names.lookup par == some .local)&&sc.names.all (λy=>y.2 != .free)&&(sc.names.lookup B == some .globalImplicit)&&
 (slf != ("__debug__":Str))&&(slf != ("__classdict__":Str))&&(par != ("__debug__":Str))&&(par != ("__classdict__":Str))&&(B != ("__debug__":Str))
section
variable {P:Program}{w:World}{K:PySem.W.Frag}{mg:Str->Option Value}{base:Heap}{C HE fI:Addr}{fl:Str}{k:Nat}
structure HIn(K:PySem.W.Frag)(mg:Str->Option Value)(HE:Addr)(B:Str):Prop where
 mg:mg B=some (.ref HE)
 ga:PySem.W.specialIn K (.ref HE) "__getattribute__"=some (some (.builtin "type.__getattribute__"))
 rd:PySem.W.readsIn K HE (.type "type")=true
 fc:PySem.W.findCls K (.ref HE) (.type "type") "__init__"=some (.val (.builtin "ValueError.__init__"))
theorem z5y{CX:CXT}{name qual slf par B:Str}{params:Arguments}{body:List Stmt}{scope:Scope}{dV kV doc pm cdv ct oc:Value}{an od:Option Addr}{osl:Array (Option Value)}
  (xi:XIn K C HE fI fl) (hi:HIn K mg HE B) (lk:K.lookup fI=some ⟨oc,od,.func (PySem.W.fnOf name qual params body scope dV kV doc pm an cdv ct),osl⟩) (hcd:PySem.W.codeIn K cdv qual=true) (hf:z4P body B slf par fl) (hs:scI slf par B scope=true) :
  FnOk P w K mg base CX (k+1) fI (PySem.W.fnOf name qual params body scope dV kV doc pm an cdv ct) [slf,par] (spI C fl):=by
 simp only[scI,Bool.and_eq_true,List.all_eq_true,beq_iff_eq,Bool.not_eq_true',bne_iff_ne,ne_eq] at hs
 obtain⟨⟨⟨⟨⟨⟨⟨⟨⟨⟨⟨⟨h1,h2⟩,h3⟩,h4⟩,h5⟩,h6⟩,h7⟩,h8⟩,h9⟩,h10⟩,h11⟩,h12⟩,h13⟩:=hs
 have S:FnScope [slf,par] [slf,par] scope:=⟨h1,h2,h3,by simp[h4],rfl,λx hx=>by
  rcases List.mem_cons.mp hx with rfl|hx
  ·exact .inl h5
  ·rw[List.mem_singleton.mp hx];exact .inl h6,h7⟩
 obtain⟨q0,q1,q2,p5,q4,q5,r0,r1,r2,r3,parts,rfl,c5,c6⟩:=hf
 refine z1H lk hcd S (λvs H Q E q=>by obtain⟨x,i,rfl,_⟩:=q;rfl) λA outer s H vs Q E hr hsp=>?_
 obtain⟨x,i,rfl,hlog,hx,q⟩:=hsp
 have hd0:(slf == ("__debug__":Str))=false:=beq_eq_false_iff_ne.mpr h9
 have hc0:(slf == ("__classdict__":Str))=false:=beq_eq_false_iff_ne.mpr h10
 have hd1:(par == ("__debug__":Str))=false:=beq_eq_false_iff_ne.mpr h11
 have hc1:(par == ("__classdict__":Str))=false:=beq_eq_false_iff_ne.mpr h12
 have hdB:(B == ("__debug__":Str))=false:=beq_eq_false_iff_ne.mpr h13
 refine⟨_,Wy (Ju (z08 (C:=C) (HE:=HE) (fI:=fI) (fl:=fl) xi rfl (.inl h5) hd0 hc0 rfl (.inl h6) hd1 hc1 c6 h8 hi.mg hdB hi.ga hi.rd hi.fc c5)) (UC (Ya (C:=C) (HE:=HE) (fI:=fI) xi rfl (.inl h5) hd0 hc0 rfl (.inl h6) hd1 hc1)),?_⟩
 refine⟨x,i,rfl,rfl,hlog,hx,x,i,rfl,rfl,z6,λdx hdx ne=>?_⟩
 rw[Ji]
 exact q dx (by rw[z7 ne] at hdx;exact hdx) ne
end
end NH
end
section
namespace NH
open PySem PySem.Spec PyProof.Rows L2
section
variable {X:Cx}{pins:List (Addr×Obj)}{s:Shared}{σ:St}{H:Hp}
theorem Wc{x:Addr}{φ:Heap->Prop}(I:Inv X pins σ (upd H x (.ext φ)) s)(hx:H x=none):Inv X pins σ H s:=by
 have nn:∀b,upd H x (.ext φ) b=none->H b=none:=λb e=>by
  by_cases z:b=x
  ·rw[z];exact hx
  ·rw[z7 z] at e;exact e
 have so:∀b o,upd H x (.ext φ) b=some o->(∀ψ,o≠.ext ψ)->H b=some o:=λb o e n=>by
  by_cases z:b=x
  ·rw[z,z6] at e;cases e;exact absurd rfl (n φ)
  ·rw[z7 z] at e;exact e
 refine⟨I.ok,I.os,I.bare,⟨I.base.keep,I.base.slot,λb o e n hx'=>nn b (I.base.free b o e n hx'),I.base.there,λb xs e=>so b _ (I.base.tups b xs e) (λψ z=>by cases z),λb o u e=>so b _ (I.base.frzs b o u e) (λψ z=>by cases z),λb ps e=>?_⟩,I.loc,I.cell,nn _ I.free,λy c e=>nn _ (I.freeC y c e),λp hp=>?_,λb ob e=>?_,I.len⟩
 ·obtain⟨more,q⟩:=I.base.tbls b ps e
  exact⟨more,so b _ q (λψ z=>by cases z)⟩
 ·obtain⟨e,n,r⟩:=I.pin p hp
  exact⟨e,nn _ n,r⟩
 ·have ne:b≠x:=λz=>by rw[z,hx] at e;cases e
  have q:=I.hok b ob (by rw[z7 ne];exact e)
  exact q.stay (λ_ _ _ q=>q) (λc q=>so c _ q (λψ z=>by cases z)) λc xs q=>so c _ q (λψ z=>by cases z)
end
section
variable {X:Cx}{D:DP}{W:XW}{Γ:Cn}{k:Nat}{pins:List (Addr×Obj)}{s:Shared}{σ:St}{H:Hp}{φ α:List Addr}{τ:Sl}{μ:Mem}{a:Expr}{pos:Pos}{E:Ends}{g:De}
theorem YX{H:Hp}{x y:Addr}{a b:HO}(h:x≠y):upd (upd H x a) y b=upd (upd H y b) x a:=by
 funext c
 by_cases z:c=y
 ·subst z;rw[z6,z7 (Ne.symm h),z6]
 ·rw[z7 z]
  by_cases z2:c=x
  ·subst z2;rw[z6,z6]
  ·rw[z7 z2,z7 z2,z7 z]
theorem Uv{C HE fI:Addr}{fl:Str}{fd:FuncData}{ps:List Str}{kk:Nat}{u:Value}{i:Int}{Q:Value->Shared->Prop}(xi:XIn X.K C HE fI fl)(hb:Binds X.K fd ps [])(hr:Room (kk+1) X.A)
  (F:FnOk X.prog X.w X.K X.mg X.base (CX1 X.prog X.w) kk fI fd ps (spI C fl)) (I:Inv X pins σ H s) (r:RelV (.int i) u) (hlog:i.natAbs.log2<1920)
  (q:∀x dx t s',Inv X pins σ (upd H dx (.xd [(fl,.int i)])) s'->H dx=none->XOk X H x->dx≠x->s'.heap.get? x=some {cls:=.ref C,dict:=some dx,data:=.fields #[.ref t,.none,.none,.none,.bool false,.none]}->Q (.ref x) s') :
  wpAny (model X.prog X.w) X.A (call (.ref C) [u]) Q X.xe s:=by
 obtain⟨N,nm,qn,bs,hdd,sn,sub,ab,col,dd,k0,k1,k2,k3,k5,g1,g2,g3,g4⟩:=xi.at_ I.kIn
 obtain⟨oI,gf,gc⟩:∃oI,s.heap.get? fI=some oI/\oI.cls=.type "function":=by
  obtain⟨o,ho,e⟩:=Option.map_eq_some_iff.mp xi.fn
  exact⟨o,I.kIn _ _ ho,e⟩
 obtain⟨hh,gg,d,tk,os⟩:=s
 refine K8 PySem.F.excBase_ValueError g4 g1 g2 g3 gf gc (λh1 x mk=>?_) (by rw[sizeLine_eq];show 1<=_;omega)
 have J:Inv X pins σ H ⟨h1,gg,d,tk,os⟩:=I.kept (t':=tk) mk.keeps
 have ox:XOk X H x:=v7 I mk.new
 have hpn:∀p∈pins,p.1≠x:=λp hp z=>by
  have:=(I.pin p (List.mem_append_right _ hp)).1
  rw[z,mk.new] at this;cases this
 obtain⟨t,ho,_,_⟩:=mk.there
 have I2:Inv X pins σ (upd H x (.ext (xT x C))) ⟨h1,gg,d,tk,os⟩:=yS J ox hpn ⟨⟨t,ho⟩,⟨_,ho⟩,λh1 h2 ⟨t,e⟩ k=>⟨t,k _ e⟩⟩
 have rv:Vals [.ref x,.int i] [.ref x,u]:=.cons rfl (.cons r .nil)
 have hl:([Value.ref x,u]++[]).length=ps.length:=by
  have:=F.len [.ref x,.int i] (upd H x (.ext (xT x C))) (λ_ _=>True) (λ_ _ _=>False) ⟨x,i,rfl,hlog,z6,λ_ _ _=>trivial⟩
  exact this
 refine wpAny_call (codeAny_mono (F.run _ X.stack ⟨h1,gg,d,tk,os⟩ (upd H x (.ext (xT x C))) ⟨[.ref x,u],[]⟩ [.ref x,u] [.ref x,.int i] (λv H'=>v=.non/\∃dx,H dx=none/\dx≠x/\H'=upd (upd H x (.ext (uJ x C dx))) dx (.xd [(fl,.int i)])) (λ_ _ _=>False) (hr.make C [u] []) (I2.env0.make C [u] []) (by simpa using hb _ [.ref x,u] I2.kIn hl) rv
  ⟨x,i,rfl,hlog,z6,λdx hdx ne=>⟨rfl,dx,by rw[z7 ne] at hdx;exact hdx,ne,by rw[Ji]⟩⟩) λres s' hq=>?_)
 cases res with
 |error e=>
  obtain⟨_,_,_,_,_,_,_,_,_,_,_,_,_,_,_,z⟩:=hq
  exact z.elim
 |ok flw=>
  cases flw with
  |ret v=>
   obtain⟨v',H',I3,rv',⟨rfl,dx,hdx,ne,rfl⟩⟩:=I2.after hq
   refine⟨rv',?_⟩
   obtain⟨t',e'⟩:uJ x C dx s'.heap:=(show ObjOk X.prog X.w _ s'.heap x (.ext (uJ x C dx)) from I3.hok x _ (by rw[z7 (Ne.symm ne),z6])).1
   rw[YX (Ne.symm ne)] at I3
   have I4:=Wc I3 (by rw[z7 (Ne.symm ne)];exact ox.free)
   exact q x dx t' s' I4 hdx ox ne e'
  |next=>exact False.elim hq
  |brk=>exact False.elim hq
  |cont=>exact False.elim hq
noncomputable def hash(m:Str):Str:=⟨#[35]++m.cps⟩
theorem JZ(C:Sk D W Γ X k)(hc:Γ.calm=true){x fl:Str}{n f:Nat}{p0 p1:Pos}(hx:x∈Γ.G)(hU:hash x∈Γ.U)(hg:Γ.gl (hash x)=.xin n f x fl)(hst:noStar a=true)(ha:PE X a (rdE D W g)) :
  PS X (.Raise (some (.Call (.Name x p0) [a] [] p1)) none pos) (rdS D W (ZU n f g)):=by
 rintro pins s σ H E I ⟨φ,α,τ,μ,sr,mr,p⟩
 have q:=(C.glU _ hU).1
 rw[hg] at q
 obtain⟨C0,HE,fI,fd,ps,kk,ad,hm,hfl,xi,hb,hkk,F⟩:=q
 have hr:=(C.rom hc).mono hkk
 obtain⟨N,nm,qn,bs,hdd,sn,sub,ab,col,dd,k0,k1,k2,k3,k5,g1,g2,g3,g4⟩:=xi.at_ I.ok.mod.kin
 have hbase:(Value.ref HE::zC).contains (.type "BaseException")=true:=g4.hasType PySem.F.excBase_ValueError.hasBase
 have body:wpAny (model X.prog X.w) X.A (eval (.Call (.Name x p0) [a] [] p1) X.env) (λv s1=>∃e t dx,v=.ref e/\s1.heap.get? C0=some (excClassObj nm qn C0 N bs (.ref HE::zC) hdd sn sub ab col dd k0 k1 k2 k3 k5 "ValueError.__new__")/\
   s1.heap.get? e=some {cls:=.ref C0,dict:=dx,data:=.fields #[.ref t,.none,.none,.none,.bool false,.none]}/\X.xe (.ref e) s1) X.xe s:=by
  refine wpAny_Call_ofName (wc I (C.glb x hx) hm ?_ (C.dbG x hx))
  refine PySem.W.callWith_K (K:=X.K) (first:=[]) (h₀:=X.base) I.ok.mod.kin xi.kp (thn (zr ha qi (z4 hst) p1 pins s σ H (λvs H1=>∃v t μ1 α1,vs=[v]/\Stp α H α1 H1/\SRel D φ α1 H1 τ σ/\MRel D φ α1 H1 μ1/\Den D φ α1 H1 t v/\PostS D W φ α1 H1 E ((match t with
   |.int i=>.grd (i.natAbs.log2<1920) (.ex n [(f,.int i)] τ μ1)
   |_=>.st:Out))) I ⟨φ,α,τ,μ,sr,mr,(PostS.out sr p).mono λt μ' α' H' st m q v d=>⟨v,t,μ',α',rfl,st,sr.step st,m,d,q⟩⟩) ?_) (z4 hst) rfl
  rintro us s1 ⟨vs,H1,I1,rv,v,t,μ1,α1,rfl,st1,sr1,mr1,d1,p1⟩
  obtain⟨u,rfl,r⟩:∃u,us=[u]/\RelV v u:=by
   cases rv with
   |cons r1 r2=>cases r2;exact⟨_,rfl,r1⟩
  refine⟨I1.kIn,?_⟩
  cases t<;>first|(obtain⟨Q,q,_⟩:=p1;exact q.elim)|skip
  rename_i i
  obtain⟨hlog,p2⟩:=PostS.grd p1
  cases d1
  refine Uv xi hb hr F I1 r hlog λe dx t s' I2 hdx oe ne he=>?_
  refine⟨e,t,some dx,rfl,I2.bk _ _ g1,he,C.xe _ _ ?_⟩
  have sm:xg H1 (upd H1 dx (.xd [(fl,.int i)])):=zb hdx
  have st2:Stp α1 H1 α1 (upd H1 dx (.xd [(fl,.int i)])):=Stp.new sm
  refine⟨e,.ref C0,some dx,σ,_,none,.none,rfl,I2.pins_of (λp hp=>absurd hp (by simp)),⟨by rw[z7 (Ne.symm ne)];exact oe.free,oe.loc,oe.nfs,oe.new,oe.cel,oe.pin⟩,λt ht=>absurd ht (by simp),⟨⟨_,_,.ref t,he,⟨rfl,rfl⟩,rfl,rfl,rfl⟩,rfl⟩,.inl rfl,?_⟩
  refine PostS.ex p2 st2 (mr1.new sm) (sr1.step st2) ad ⟨_,zh mr1 hdx,zi mr1 hdx,z6,?_⟩
  exact⟨fl,.int i,[],hfl,rfl,rfl,rfl⟩
 rw[arm_exec_Raise]
 first
  |exact wpAny_bind (wpAny_standAt (ub hbase (I.ok.hd (C.clm hc)) (wpAny_bind (wpAny_mono body (λv s₃ h₃=>wpAny_bind (wpAny_standAt (wpAny_pure h₃))) λ_ _ x=>x))))
  |(simp only[evalOpt,Option.map];exact wpAny_bind (wpAny_standAt (ub hbase (I.ok.hd (C.clm hc)) (wpAny_bind (wpAny_mono body (λv s₃ h₃=>wpAny_bind (wpAny_standAt (wpAny_pure h₃))) λ_ _ x=>x)))))
end
noncomputable def Va:SR:=λr Γ s=>match s with
 |.Raise (some (.Call (.Name x _) [a] [] _)) none _=>gd (Γ.calm&&(idx Γ.N x).isNone&&Γ.G.contains x&&Γ.U.contains (hash x)&&noStar a) ((r.e Γ a).bind λg=>(match Γ.gl (hash x) with
  |.xin c f nm _=>gd (nm == x) (some (ZU c f g))
  |_=>none))
 |_=>none
theorem KC{D:DP}:SOk D Va:=by
 intro r H X W Γ k e d C h
 unfold Va at h
 split at h
 ·rename_i x p0 a p1 p2
  have hh:=zo h
  clear h
  obtain⟨hb,h⟩:=hh
  simp only[Bool.and_eq_true] at hb
  obtain⟨⟨⟨⟨h0,h2⟩,h3⟩,h4⟩,h5⟩:=hb
  obtain⟨g,h6,h⟩:=bnd h
  cases hl:Γ.gl (hash x) with
  |xin c f nm fl=>
   simp only[hl] at h
   obtain⟨h7,h8⟩:=zo h
   have h7:=beq_iff_eq.mp h7
   subst h7
   cases h8
   exact JZ C h0 (by simpa using h3) (by simpa using h4) hl h5 (H.e C.toCk h6)
  |_=>simp[hl] at h
 ·cases h
end NH
end
section
namespace NH
open PySem PySem.Spec PyProof.Rows L2
noncomputable abbrev Xs(n:Nat)(o f:De):De:=λτ μ=>(o τ μ).bind λt μ1=>(Qb t n μ1).bind λw μ2=>.grd (Wd w) ((f τ μ2).bind λ_ μ3=>.ok .non μ3)
noncomputable abbrev z5B(j:Nat):De:=λ_ (μ:Mem) K _=>(∃i:Nat,μ[i]?=some (MO.tab j))/\K (.clo (2 * j) [.clo (100+j) []]) μ
noncomputable abbrev z4s(c:Nat)(g:Fn)(fs:List De):De:=λτ μ=>(evs fs τ μ).bind (x_ c λts μ=>g (ts++[.non]) μ)
noncomputable def WZ:Str:=⟨#[37]⟩
noncomputable def til(m:Str):Str:=⟨#[126]++m.cps⟩
section
variable {X:Cx}{D:DP}{W:XW}{Γ:Cn}{k:Nat}{pins:List (Addr×Obj)}{s:Shared}{σ:St}{H:Hp}{φ α:List Addr}{τ:Sl}{μ:Mem}{f g:De}{fs:List De}{a b c:Expr}{pos:Pos}{es:List Expr}
theorem QT{A:Around}{E:Value->Shared->Prop}{ad C0 dx:Addr}{gs:List (Str×V)}{m:Str}{v:V}{pl:Sem Bool}{Q:Value×List Value->Shared->Prop}(I:Inv X pins σ H s)(e:H ad=some (.ins C0 dx gs))(c:Cls X.K C0)(n:NoAttr X.K C0 m)(l:gs.lookup m=some v)
  (h:∀u s',Inv X pins σ H s'->RelV v u->Q (u,[]) s'):wpAny (model X.prog X.w) A (getMethod (.ref ad) m pl) Q E s:=by
 obtain⟨mA,O,r,_,_,_⟩:=kr I.hok e
 obtain⟨od,J,hl⟩:=O.look
 exact PySem.W.method_usual I.kIn J (PySem.W.plainGet_of (c.get m)).1 (PySem.W.plainGet_of (c.get m)).2 n rfl (uh I e c n l h)
theorem z0u(C:Ck D W Γ X k){m:Str}{n:Nat}{o:Expr}{go:De}{apos:Pos}(hU:WZ∈Γ.U)(hg:Γ.gl WZ=.kpr)(hn:(m,n)∈Γ.fld)(hc:Γ.calm=true)(hp:zL o=true)(hline:(apos.endLine == pos.line)=true)(hst:noStar a=true)(ho:PE X o (rdE D W go))(ha:PE X a (rdE D W f)) :
  PE X (.Call (.Attribute o m apos) [a] [] pos) (rdE D W (Xs n go f)):=by
 have gq:=(C.glU _ hU).1
 rw[hg] at gq
 rintro pins s σ H Q I ⟨φ,α,τ,μ,sr,mr,p⟩
 rw[arm_eval_Call,qB hp]
 refine wpAny_bind (thn (sub ho I sr mr p) ?_)
 rintro u s1 ⟨v,H1,t,μ1,α1,I1,r1,st1,sr1,mr1,d1,p1⟩
 refine wpAny_bind (wpAny_standAt ?_)
 have hform:methodCallForm ([a].length+([]:List Keyword).length) (backTo pos (starEach [a] X.env)) (backToKw pos (keywordEach [] X.env))=true:=Xl (by simp[hst]) (by show (1:Nat)<30;decide)
 have hpos:methodCallPos true o X.env apos pos=pure pos:=by unfold methodCallPos;simp[hline]
 have run:∀{ad0 C0 dx:Addr} {gs:List (Str×V)} {z:V} {t0:T},H1 ad0=some (.ins C0 dx gs)->Cls X.K C0->NoAttr X.K C0 m->gs.lookup m=some z->u=.ref ad0->Den D φ α1 H1 t0 z->Post D W φ α1 H1 σ (RV D φ Q) (RE.grd (Wd t0) ((f τ μ1).bind λ_ μ3=>.ok .non μ3))->
   wpAny (model X.prog X.w) X.A (methodCall o m apos pos X.env u ([a].length+([]:List Keyword).length) (backTo pos (starEach [a] X.env)) (backToKw pos (keywordEach [] X.env))) (EP X pins σ Q) X.xe s1:=λ{ad0 C0 dx gs z t0} e1 cl na lk hu dz p=>by
  subst hu
  obtain⟨hj,p2⟩:=Post.grd p
  obtain⟨fa,kk,rfl,hkk,hF⟩:=gq.1 t0 φ α1 H1 z hj dz
  unfold methodCall
  rw[hform]
  refine wpAny_bind (wpAny_holding (QT I1 e1 cl na lk λu' s1' I1' r'=>?_))
  cases (show u'=Value.ref fa from r')
  refine wpAny_bind (wpAny_of_eq hpos ?_)
  refine PySem.W.callWith_F (first:=[]) (hF X.A X.stack s1' I1'.env0).1 (thn (zr ha qi (z4 hst) pos pins s1' σ H1 (λvs H2=>∃v t μ2 α2,vs=[v]/\Stp α1 H1 α2 H2/\MRel D φ α2 H2 μ2/\Den D φ α2 H2 t v/\Post D W φ α2 H2 σ (RV D φ Q) (.ok .non μ2)) I1' ⟨φ,α1,τ,μ1,sr1,mr1,p2.bind.mono λt μ' α' H' st m q v d=>⟨v,t,μ',α',rfl,st,m,d,q⟩⟩) ?_) (z4 hst) rfl
  rintro us s2 ⟨vs,H2,I2,rv,v2,t2,μ2,α2,rfl,st2,m2,d2,p3⟩
  obtain⟨ux,rfl,rx⟩:=vals1 rv
  obtain⟨fa',kk',e',hkk',hF'⟩:=gq.1 t0 φ α2 H2 _ hj (dz.step st2)
  cases e'
  have hE:=hF' X.A X.stack s2 I2.env0
  refine⟨hE.1,wpAny_call (codeAny_mono (hE.2 ((C.rom hc).mono hkk') ux v2 Q t2 φ α2 μ2 rx d2 m2 (λα' H' st' m'=>p3.ok st' m' _ rfl)) λr s' hq=>?_)⟩
  cases r with
  |error e=>
   obtain⟨_,_,_,_,_,_,_,_,_,_,_,_,_,_,_,z⟩:=hq
   exact z.elim
  |ok fl=>
   cases fl with
   |ret u=>exact I2.after hq
   |next=>exact False.elim hq
   |brk=>exact False.elim hq
   |cont=>exact False.elim hq
 unfold Qb at p1
 split at p1
 ·split at p1
  ·rename_i c fs _ w hw
   obtain⟨ad,C0,dx,gs,rfl,_,_,e1,e2,l⟩:=d1
   obtain⟨y,z,hy,hz,dz⟩:=l.look hw
   obtain⟨c0,c1,c2⟩:=C.fld c C0 m n e1 hn
   rw[hy] at c0;cases c0
   exact run e2 c1 c2 hz r1 dz p1
  ·exact Post.elim p1
 ·obtain⟨c,fs,w,hi,hw,q⟩:=Post.ex3 p1
  obtain⟨ad,hi',rfl⟩:=d1
  obtain⟨C0,dx,gs,e1,e2,l⟩:=mr1.ob _ ad _ hi' hi
  obtain⟨y,z,hy,hz,dz⟩:=l.look hw
  obtain⟨c0,c1,c2⟩:=C.fld c C0 m n e1 hn
  rw[hy] at c0;cases c0
  exact run e2 c1 c2 hz r1 dz q
 ·exact Post.elim p1
theorem z0c{c:Nat}{g:Fn}{C0 fI:Addr}{fd:FuncData}{ps:List Str}{kk:Nat}{us:List Value}{vs:List V}{ts:List T}{Q:VK}(C:Ck D W Γ X k)(ad:D.cad c=some C0)(M:Mk X.K C0 fI)(F:FnOk X.prog X.w X.K X.mg X.base (CX1 X.prog X.w) kk fI fd ps (spN D ps.length g))
  (hr:Room (kk+1) X.A) (hb:Binds X.K fd ps [.none]) (har:∀ts μ K Z,g ts μ K Z->ts.length=ps.length) (I:Inv X pins σ H s) (r:Vals vs us) (mr:MRel D φ α H μ) (d:DenL D φ α H ts vs) (p:Post D W φ α H σ (RV D φ Q) (x_ c (λts μ=>g (ts++[.non]) μ) ts μ)) :
  wpAny (model X.prog X.w) X.A (call (.ref C0) us) (EP X pins σ Q) X.xe s:=by
 obtain⟨K,Z,hg,hk,hz⟩:=p
 have hl:(T.mut μ.length::ts++[T.non]).length=ps.length:=har _ _ _ _ hg
 have hlv:(V.ref 0::(vs++[V.non])).length=ps.length:=by
  have:=d.length
  simp only[List.length_cons,List.length_append,List.length_nil] at hl ⊢;omega
 have hq:∀x dx,H x=none->H dx=none->dx≠x->spN D ps.length g (.ref x::(vs++[.non])) (upd (upd H dx (.own x)) x (.ins C0 dx [])) (λv H2=>v=.non/\Q (.ref x) H2) (λc d H'=>W c d σ H'):=by
  intro x dx hx hdx hne
  have sm1:xg H (upd H dx (.own x)):=zb hdx
  have hx1:upd H dx (.own x) x=none:=by rw[z7 (Ne.symm hne)];exact hx
  have mr1:MRel D φ α (upd H dx (.own x)) μ:=mr.new sm1
  have st0:Stp α H (α++[x]) (upd (upd H dx (.own x)) x (.ins C0 dx [])):=(Stp.new sm1).trans (vT hx1)
  have mr2:MRel D φ (α++[x]) (upd (upd H dx (.own x)) x (.ins C0 dx [])) (μ++[.obj c []]):=mr1.layO hx1 ⟨C0,dx,[],ad,z6,rfl⟩
  have hget:(α++[x])[μ.length]?=some x:=by rw[←mr.len,List.getElem?_append_right (Nat.le_refl _)];simp
  refine⟨hlv,φ,α++[x],.mut μ.length::(ts++[T.non]),μ++[MO.obj c []],⟨.ref x,vs++[.non],rfl,⟨x,hget,rfl⟩,DenL.append (d.step st0) (show DenL D φ (α++[x]) _ [T.non] [V.non] from ⟨.non,[],rfl,rfl,rfl⟩)⟩,mr2,_,_,hg,?_,?_⟩
  ·rintro t μ2 ⟨rfl,q⟩ α2 H3 st m v dv
   refine⟨dv,?_⟩
   obtain⟨β,e,_⟩:=st.ext
   refine hk _ _ q α2 H3 (st0.trans st) m _ ⟨x,?_,rfl⟩
   rw[e,List.getElem?_append_left (List.getElem?_eq_some_iff.mp hget).1];exact hget
  ·rintro e fs μ2 q α2 H3 C1 d1 st m had xd
   exact hz _ _ _ q α2 H3 C1 d1 (st0.trans st) m had xd
 have hq1:=hq (s.heap.objs.size+1) s.heap.objs.size (I.hok.fresh (Nat.le_succ _)) (I.hok.fresh (Nat.le_refl _)) (Nat.ne_of_lt (Nat.lt_succ_self _))
 have I2:=Inv.made (C:=C0) I
 have r2:Vals (V.ref (s.heap.objs.size+1)::(vs++[V.non])) (Value.ref (s.heap.objs.size+1)::us++[.none]):=.cons rfl (r.append (.cons rfl .nil))
 have hlu:(Value.ref (s.heap.objs.size+1)::us++[Value.none]).length=ps.length:=by
  have:=r2.length
  rw[←this]
  simpa using hlv
 refine wpAny_call (y9 (f:=fI) I.kIn M.makes M.init (beq_iff_eq.mp M.fn) (codeAny_mono (F.run _ X.stack _ _ ⟨Value.ref (s.heap.objs.size+1)::us,[]⟩ (Value.ref (s.heap.objs.size+1)::us++[.none]) _ _ (λc d H'=>W c d σ H') (hr.make C0 us [])
  (I2.env0.make C0 us []) (by simpa using hb _ (Value.ref (s.heap.objs.size+1)::us) I2.kIn hlu) r2 hq1) λr s' hq'=>?_))
 cases r with
 |error e=>exact C.xe e s' (y0 (E:=λc d H'=>W c d σ H') I2 hq' λcls d H' w=>w)
 |ok fl=>
  cases fl with
  |ret u=>
   obtain⟨v,H',I3,rv,ev,q3⟩:=I2.after hq'
   subst ev
   exact⟨rv,⟨V.ref (s.heap.objs.size+1),H',I3,rfl,q3⟩⟩
  |next=>exact False.elim hq'
  |brk=>exact False.elim hq'
  |cont=>exact False.elim hq'
theorem Yd(C:Ck D W Γ X k){x:Str}{c n:Nat}{g:Fn}{p0:Pos}(hx:x∈Γ.G)(hU:til x∈Γ.U)(hg:Γ.gl (til x)=.mkd c x n g)(hc:Γ.calm=true)(ha:EsOk X D W (a::es) fs):PE X (.Call (.Name x p0) (a::es) [] pos) (rdE D W (z4s c g fs)):=by
 have q:=(C.glU _ hU).1
 rw[hg] at q
 obtain⟨C0,fI,fd,ps,kk,ad,hm,M,hb,hkk,Fn,har,_⟩:=q
 have hr:=(C.rom hc).mono hkk
 have hs:=ha.stars
 have pa:=wq ha
 rintro pins s σ H Q I ⟨φ,α,τ,μ,sr,mr,p⟩
 refine wpAny_Call_Name_kw (wc I (C.glb x hx) hm ?_ (C.dbG x hx))
 simp only[List.all_cons,Bool.and_eq_true] at hs
 refine PySem.W.callWith_K (h₀:=X.base) I.ok.mod.kin M.kp (thn (XF pa I sr mr p) ?_) (z4 hs.1) (zY hs.2)
 rintro us s1 ⟨vs,H1,ts,μ1,α1,I1,r1,st1,sr1,mr1,d1,_,p1⟩
 exact⟨I1.kIn,z0c C ad M Fn hr hb har I1 r1 mr1 d1 p1⟩
end
noncomputable def z6i:ER:=λr Γ e=>match e with
 |.Lambda ⟨[],[⟨y,none,_⟩],none,[],[],none,[]⟩ (.Constant .none _ _) sc pl=>gd (Yv y sc&&Γ.U.contains WZ) (match Γ.gl WZ,Γ.lam with
  |.kpr,some (j,poss)=>gd (decide (pl∈poss)&&decide (j<2)) (some (z5B j))
  |_,_=>none)
 |_=>none
noncomputable def XM:ER:=λr Γ e=>match e with
 |.Call (.Attribute o m pa) [a] [] pc=>gd (zL o&&pa.endLine == pc.line&&Γ.calm&&noStar a&&Γ.U.contains WZ&&m == ("keeper":Str)) ((r.e Γ o).bind λgo=>(r.e Γ a).bind λf=>(match Γ.gl WZ,Γ.fld.lookup m with
  |.kpr,some n=>some (Xs n go f)
  |_,_=>none))
 |_=>none
theorem u9{x:Str}{n:Nat}:∀{l:List (Str×Nat)},l.lookup x=some n->(x,n)∈l
 |[],h=>by cases h
 |(y,m)::r,h=>by
  rw[List.lookup_cons] at h
  split at h
  ·rename_i e
   have e:=beq_iff_eq.mp e
   cases h
   rw[e];exact List.mem_cons_self
  ·exact List.mem_cons_of_mem _ (u9 h)
theorem YW{D:DP}:EOk D XM:=by
 intro r H X W Γ k e d C h
 unfold XM at h
 split at h
 ·have hh:=zo h
  clear h
  obtain⟨hb,h⟩:=hh
  simp only[Bool.and_eq_true] at hb
  obtain⟨⟨⟨⟨⟨h0,h1⟩,h2⟩,h3⟩,h4⟩,h5⟩:=hb
  obtain⟨go,e1,h⟩:=bnd h
  obtain⟨f,e2,h⟩:=bnd h
  split at h
  ·rename_i hl hm
   cases h
   exact z0u C (by simpa using h4) hl (u9 hm) h2 h0 h1 h3 (H.e C e1) (H.e C e2)
  ·cases h
 ·cases h
noncomputable def z38:ER:=λr Γ e=>match e with
 |.Call (.Name x _) (a::es) [] _=>gd ((idx Γ.N x).isNone&&Γ.calm&&Γ.G.contains x&&Γ.U.contains (til x)) ((cEs r Γ (a::es)).bind λfs=>(match Γ.gl (til x) with
  |.mkd c nm n g=>gd (nm == x&&decide (es.length+1=n)) (some (z4s c g fs))
  |_=>none))
 |_=>none
theorem z0b{D:DP}:EOk D z38:=by
 intro r H X W Γ k e d C h
 unfold z38 at h
 split at h
 ·rename_i x p0 a es pos
  have hh:=zo h
  clear h
  obtain⟨hb,h⟩:=hh
  simp only[Bool.and_eq_true] at hb
  obtain⟨⟨⟨h0,h1⟩,h2⟩,h3⟩:=hb
  obtain⟨fs,e1,h⟩:=bnd h
  cases hl:Γ.gl (til x) with
  |mkd c nm n g=>
   simp only[hl] at h
   obtain⟨h4,h5⟩:=zo h
   simp only[Bool.and_eq_true] at h4
   have h4:=beq_iff_eq.mp h4.1
   subst h4
   cases h5
   exact Yd C (by simpa using h2) (by simpa using h3) hl h1 (wt H C e1)
  |_=>simp[hl] at h
 ·cases h
noncomputable def yr (qns:List Str)(fo:Option Addr):Nat->Addr->Option HO->List V->Prop:=λn a ob xs=>
 (∃j qn,qns[j]?=some qn/\j<2/\n=2 * j/\∃c,xs=[.ref c]/\ob=some (.ext (Jk a c qn)))\/(∃j qn,qns[j]?=some qn/\j<2/\n=100+j/\xs=[]/\ob=some (.ext (wk a qn)))\/(n=1/\xs=[]/\ob=none/\fo=some a)
section
variable {P:Program}{w:World}{K:PySem.W.Frag}{mg:Str->Option Value}{base:Heap}{D:DP}{k n:Nat}
theorem XX{A:Around}{outer:List Env}{s:Shared}{H:Hp}{a c:Addr}{qn:Str}{u:Value}{x:V}{Q:VK}(hr:Room 1 A)(e0:Env0 P w K mg base A outer s H)(hn:Jk a c qn s.heap)(hrec:s.heap.CodeRec (.ref c) qn)(r:RelV x u)(q:Q .non H) :
  codeAny (model P w) A (.call (.ref a) ⟨[u],[]⟩) (CR (CX1 P w) outer P w H s Q (λ_ _ _=>False)) s:=by
 obtain⟨y,pa,kk,bp,sc,pm,ctv,hs,ho⟩:=hn
 simp only[Yv,Bool.and_eq_true,List.all_eq_true,beq_iff_eq,Bool.not_eq_true',bne_iff_ne,ne_eq] at hs
 obtain⟨⟨⟨⟨⟨⟨h1,h2⟩,h3⟩,h4⟩,h5⟩,h6⟩,h7⟩:=hs
 have loc:∀z∈[y],sc.names.lookup z=some .local:=λz hz=>by
  have:z=y:=by simpa using hz
  rw[this];exact h5
 have S:FnScope [y] [y] sc:=⟨h1,h2,h3,by simp,rfl,λz hz=>.inl (loc z hz),h4⟩
 have lim:s.heap.NoLimit:=e0.mod.nolimit.keeps λb o e=>(e0.bs b o e).1
 have hbind:BindsTo s (PySem.W.kla_fn "<lambda>" qn ⟨[],[⟨y,none,pa⟩],none,[],[],none,[]⟩ (.Constant .none kk bp) sc [] pm (.ref c) ctv) ⟨[u],[]⟩ [(y,u)]:=.of_eq (bind1 rfl rfl)
 refine PySem.W.kla_callFunE (fd:=PySem.W.kla_fn "<lambda>" qn ⟨[],[⟨y,none,pa⟩],none,[],[],none,[]⟩ (.Constant .none kk bp) sc [] pm (.ref c) ctv) hr.depth ho rfl S.co S.gen rfl hrec (hbind _ _ _ _ (wpAny_newFunctionEnv_cells S.kind (λz hz=>?_) λenv he s1 yy=>?_))
 ·obtain⟨z,w⟩:=z
  have:z=y:=by simpa using congrArg Prod.fst (List.mem_singleton.mp hz)
  subst this
  exact .inl (loc z (by simp))
 subst he
 refine⟨lim.keeps yy.toInCall.keep,PySem.W.kla_codeExpr ?_⟩
 have I0:=k_ (CX:=λ_ _ _ _ _ _=>False) (E:=λ_ _ _=>False) (f:=a) (cd:=.ref c) (qual:=qn) (A:=A) (vs:=[x]) (us:=[u]) S hr.hd e0 rfl (.cons r .nil) yy
 generalize hX:({WQ (λ_ _ _ _ _ _=>False) P w K mg base [y] qn sc a (.ref c) A outer s H (λ_ _ _=>False) with xe:=λ_ _=>False}:Cx)=Y
 have I:Inv Y [] (start [y] [x]) H s1:=by
  subst hX
  exact⟨⟨I0.ok.mod,I0.ok.kind,I0.ok.glob,I0.ok.blt,I0.ok.above,I0.ok.inj,I0.ok.has,I0.ok.cab,I0.ok.hd,I0.ok.frames,I0.ok.stk,I0.ok.exf,I0.ok.bs,I0.ok.bsz,I0.ok.noex,I0.ok.exfs,I0.ok.funs,I0.ok.frf⟩,I0.os,I0.bare,I0.base,I0.loc,I0.cell,I0.free,I0.freeC,I0.pin,I0.hok,I0.len⟩
 have B:=XC (X:=Y) (j:=kk) (pos:=bp) [] s1 _ H Q I q
 have XA:Y.A=A.deeper (envOfC qn sc s.heap.objs.size a (.ref c)):=by rw[←hX];rfl
 have Xp:Y.prog=P/\Y.w=w/\Y.env=envOfC qn sc s.heap.objs.size a (.ref c)/\(∀e s,Y.xe e s->False)/\Y.fs=frs outer/\Y.H₀=H/\Y.s₀=s/\Y.ex=[]:=by
  subst hX;exact⟨rfl,rfl,rfl,λ_ _ z=>z,rfl,rfl,rfl,rfl⟩
 obtain⟨x1,x2,x3,x4,x5,x6,x7,x8⟩:=Xp
 rw[XA,x1,x2,x3] at B
 refine wpAny_mono B (λw s' hs=>?_) λe s' z=>(x4 e s' z).elim
 obtain⟨v',H',J,rv,q'⟩:=hs
 have b:=J.base
 have o:=J.os
 have hk:=J.hok
 rw[x5,x6,x7,x8] at b
 rw[x7] at o
 rw[x1,x2] at hk
 exact⟨v',H',o,J.bare,b,hk,rv,q'⟩
theorem UN{A0:Ads}{x:Str}{tbs:List (Addr×List Pos×Str)}{fo:Option Addr}{k1:Nat}(h1:1<=k1)
  (hfo:∀fa,fo=some fa->∀(φ α:List Addr) (H:Hp),∃kk,kk<=k1/\∀(A:Around) (outer:List Env) (s:Shared),Env0 P w K mg base A outer s H->PySem.W.FnAt fa s.heap/\(Room kk A->∀(u:Value) (x:V) (Q:VK) (t:T) (φ' α':List Addr) (μ:Mem),RelV x u->Den (mkD K A0 (yr (tbs.map (·.2.2)) fo) λj=>tbs[j]?) φ' α' H t x->MRel (mkD K A0 (yr (tbs.map (·.2.2)) fo) λj=>tbs[j]?) φ' α' H μ->(∀α2 H',Stp α' H α2 H'->MRel (mkD K A0 (yr (tbs.map (·.2.2)) fo) λj=>tbs[j]?) φ' α2 H' μ->Q .non H')->
   codeAny (model P w) A (.call (.ref fa) ⟨[u],[]⟩) (CR (CX1 P w) outer P w H s Q (λ_ _ _=>False)) s)) :
  GlOkM (mkD K A0 (yr (tbs.map (·.2.2)) fo) λj=>tbs[j]?) P w K mg base k1 x .kpr:=by
 have lam:∀{j0:Nat} {φ α:List Addr} {H:Hp} {v:V},j0<2->Den (mkD K A0 (yr (tbs.map (·.2.2)) fo) λj=>tbs[j]?) φ α H (.clo (2 * j0) [.clo (100+j0) []]) v->∃a kk,v=.ref a/\kk<=k1/\∀(A:Around) (outer:List Env) (s:Shared),Env0 P w K mg base A outer s H->PySem.W.FnAt a s.heap/\(Room kk A->∀(u:Value) (x:V) (Q:VK) (t:T) (φ' α':List Addr) (μ:Mem),RelV x u->Den (mkD K A0 (yr (tbs.map (·.2.2)) fo) λj=>tbs[j]?) φ' α' H t x->MRel (mkD K A0 (yr (tbs.map (·.2.2)) fo) λj=>tbs[j]?) φ' α' H μ->(∀α2 H',Stp α' H α2 H'->MRel (mkD K A0 (yr (tbs.map (·.2.2)) fo) λj=>tbs[j]?) φ' α2 H' μ->Q .non H')->
   codeAny (model P w) A (.call (.ref a) ⟨[u],[]⟩) (CR (CX1 P w) outer P w H s Q (λ_ _ _=>False)) s):=λ{j0 φ α H v} hj0 d=>by
  obtain⟨a,ob,xs,rfl,hc,hob,v,q,rfl,⟨c,ob2,xs2,rfl,hc2,hob2,_⟩,hq⟩:=d
  rcases hc with⟨j,qn,hqn,hj,e1,c0,e0,rfl⟩|⟨j,qn,hqn,hj,z,_⟩|⟨z,_⟩
  ·cases e0
   have ej:j=j0:=by omega
   subst ej
   rcases hc2 with⟨j2,qn2,hqn2,hj2,z,_⟩|⟨j2,qn2,hqn2,hj2,z,_,rfl⟩|⟨z,_⟩
   ·omega
   ·have ej2:j2=j:=by omega
    subst ej2
    rw[hqn] at hqn2;cases hqn2
    obtain⟨_,_,ha⟩:=hob _ rfl
    obtain⟨_,_,hcc⟩:=hob2 _ rfl
    refine⟨a,1,rfl,h1,λA outer s e0=>?_⟩
    obtain⟨np,_⟩:=(show ObjOk P w H s.heap a (.ext (Jk a c qn)) from e0.hok a _ ha)
    obtain⟨cr,_⟩:=(show ObjOk P w H s.heap c (.ext (wk c qn)) from e0.hok c _ hcc)
    refine⟨?_,λhr u x Q t φ' α' μ r dx mr q=>XX hr e0 np cr r (q α' H (Stp.refl _ _) mr)⟩
    obtain⟨_,_,_,_,_,_,_,_,h2⟩:=np
    exact⟨_,_,_,_,h2⟩
   ·omega
  ·omega
  ·omega
 refine⟨λt φ α H v ht d=>?_,λj P' pos' qn' hj e a c=>?_⟩
 ·rcases ht with rfl|rfl|rfl
  ·exact lam (j0:=0) (by decide) d
  ·obtain⟨a,ob,xs,rfl,hc,hob,rfl⟩:=d
   rcases hc with⟨j,qn,hqn,hj,z,_⟩|⟨j,qn,hqn,hj,z,_⟩|⟨_,_,_,z⟩
   ·omega
   ·omega
   ·obtain⟨kk,hkk,h⟩:=hfo a z φ α H
    exact⟨a,kk,rfl,hkk,h⟩
  ·exact lam (j0:=1) (by decide) d
 ·have hq:(tbs.map (·.2.2))[j]?=some qn':=by
   rw[List.getElem?_map,show tbs[j]?=some (P',pos',qn') from e];rfl
  exact⟨.inl ⟨j,qn',hq,hj,rfl,c,rfl,rfl⟩,.inr (.inl ⟨j,qn',hq,hj,rfl,rfl,rfl⟩)⟩
theorem z2x{A0:Ads}{x y:Str}{tbs:List (Addr×List Pos×Str)}{fa:Addr}{fd:FuncData}{kk:Nat}{f:Fn}{oc:Value}{od:Option Addr}{fd':FuncData}{sl:Array (Option Value)}(hl:K.lookup fa=some ⟨oc,od,.func fd',sl⟩)(hb:Binds K fd [y] [])(hk:1<=kk)
  (F:FnOk P w K mg base (CX1 P w) kk fa fd [y] (spN (mkD K A0 (yr (tbs.map (·.2.2)) (some fa)) λj=>tbs[j]?) 1 f)) (hf:∀t μ K Z,K .non μ->f [t] μ K Z):GlOkM (mkD K A0 (yr (tbs.map (·.2.2)) (some fa)) λj=>tbs[j]?) P w K mg base kk x .kpr:=
 UN hk λfa' e φ α H=>by
  cases e
  refine⟨kk,Nat.le_refl _,λA outer s e0=>?_⟩
  have KX:K.In s.heap:=e0.mod.kin.keeps λb o e=>(e0.bs b o e).1
  refine⟨⟨oc,od,fd',sl,KX _ _ hl⟩,λhr u v Q t φ' α' μ r dx mr q=>?_⟩
  refine F.run A outer s H ⟨[u],[]⟩ [u] [v] Q _ hr e0 (by simpa using hb s [u] KX (by simp)) (.cons r .nil) ⟨rfl,φ',α',[t],μ,⟨v,[],rfl,dx,rfl⟩,mr,(λt' μ'=>t'=.non/\μ'=μ),(λ_ _ _=>False),hf t μ _ _ ⟨rfl,rfl⟩,?_,λ_ _ _ z=>z.elim⟩
  rintro t' μ' ⟨rfl,rfl⟩ α2 H2 st m v2 d2
  have d2:v2=.non:=d2
  rw[d2]
  exact q α2 H2 st m
theorem xu{fd:FuncData}{ps:List Str}{T0:Addr}{o:Obj}{items:Array Value}{n:Nat}(hd:fd.defaults=.ref T0)(ho:K.lookup T0=some o)(hs:o.data=.seq items n)(h:∀us:List Value,us.length=ps.length->∃k,bindArgs fd ⟨us,[]⟩=seqItems? fd.defaults >>= k/\k (some items)=pure (ps.zip us)):Binds K fd ps []:=λs us X hl=>by
 rw[List.append_nil] at hl ⊢
 obtain⟨k,h1,h2⟩:=h us hl
 exact PySem.W.binds_K X hd ho hs h1 h2
theorem kX{fd:FuncData}{ps:List Str}{T0:Addr}{o:Obj}{items:Array Value}{n:Nat}{d:Value}(hd:fd.defaults=.ref T0)(ho:K.lookup T0=some o)(hs:o.data=.seq items n)(h:∀us:List Value,us.length+1=ps.length->∃k,bindArgs fd ⟨us,[]⟩=seqItems? fd.defaults >>= k/\k (some items)=pure (ps.zip (us++[d]))):Binds K fd ps [d]:=λs us X hl=>by
 obtain⟨k,h1,h2⟩:=h us (by simpa using hl)
 exact PySem.W.binds_K X hd ho hs h1 h2
end
end NH
end
section
namespace NH.P
open PySem L2 NH
@[reducible] noncomputable def wO:List Ds:=[(zj (QJ (z8 qg [(eV 0)]) (zu .GtE (eV 0) (eC (.int 0)))))]
noncomputable def zV:Fn:=fnW 1 0 wO
@[reducible] noncomputable def ZI:List Ds:=[(sIf (tOr (zQ (tE (vW [4] (eV 1)))) (tE (zu .NotEq (eB1 vF (eV 1)) (eC (.int 2))))) [(zj (eC (.bl false)))] []),(sIf (zQ (tOr (tE (zu .Is (eIx (eV 1) (eC (.int 0))) (eC .non))) (tE (z8 vC [(eV 0),(eIx (eV 1) (eC (.int 0)))])))) [(zj (eC (.bl false)))] []),(zj (eOr (zu .Is (eIx (eV 1) (eC (.int 1))) (eC .non)) (z8 qf [(eIx (eV 1) (eC (.int 1))),(z9 (eV 0) 0)])))]
noncomputable def JH:Fn:=fnW 2 0 ZI
@[reducible] noncomputable def jI:List Ds:=[(qb (eV 0) 11 (eV 1)),(qb (eV 0) 12 (eV 2)),(qb (eV 0) 13 (eV 3))]
noncomputable def jm:Fn:=fnW 4 0 jI
@[reducible] noncomputable def ZD:List Ds:=[(zj (z8 jK [(eV 0),(za .FloorDiv (eV 2) (z9 (eV 0) 2)),(eV 1),(za .Mod (eV 2) (z9 (eV 0) 2))]))]
noncomputable def jH:Fn:=fnW 3 0 ZD
@[reducible] noncomputable def wW:List Ds:=[(zj (qL 1 [1,0] (.one 0) (V_ (z9 (eV 1) 12) (z9 (eV 1) 13)) [] (z8 jH [(eV 2),(z9 (eV 1) 11),(eV 0)])))]
noncomputable def qt:Fn:=fnW 2 0 wW
@[reducible] noncomputable def jb:List Ds:=[(zq 3 (z8 vD [(eV 0),(eV 2)])),(sIf (tE (zu .Lt (eIx (eV 3) (eC (.int 1))) (eV 1))) [(zj (za .Mult (eIx (eV 3) (eC (.int 0))) (z9 (eV 0) 2)))] []),(sIf (tE (zu .Gt (eIx (eV 3) (eC (.int 1))) (eV 1))) [(zj (za .Mult (za .Add (eIx (eV 3) (eC (.int 0))) (eC (.int 1))) (z9 (eV 0) 2)))] []),(zj (za .Add (za .Add (za .Mult (eIx (eV 3) (eC (.int 0))) (z9 (eV 0) 2)) (eIx (eV 3) (eC (.int 2)))) (eC (.int 1))))]
noncomputable def w8:Fn:=fnW 3 1 jb
@[reducible] noncomputable def jV:List Ds:=[(sIf (zQ (vj (tE (z8 zV [(eV 2)])) (tE (z8 zV [(eV 3)])))) [(zy 16 [(eC (.str "ahead and stride are whole numbers from 0 on"))])] []),(sIf (vj (tE (zu .IsNot (eV 5) (eC .non))) (zQ (tE (z8 JH [(eV 1),(eV 5)])))) [(zy 23 [(eC (.str "no note of the shape"))])] []),(qb (eV 0) 9 (eV 1)),(qb (eV 0) 14 (eV 2)),(qb (eV 0) 15 (eV 3)),(qb (eV 0) 16 (eV 4)),(qb (eV 0) 6 (eIf (tE (zu .Is (eV 5) (eC .non))) (eC .non) (eIx (eV 5) (eC (.int 0))))),(qb (eV 0) 17 (eIf (tE (zu .Is (eV 5) (eC .non))) (eC .non) (eIx (eV 5) (eC (.int 1))))),(qb (eV 0) 18 (eC .non)),(qb (eV 0) 19 (Z8 [])),(qb (eV 0) 20 (eC (.bl false)))]
noncomputable def qx:Fn:=fnW 6 0 jV
@[reducible] noncomputable def wx:List Ds:=[(sIf (tE (z9 (eV 0) 20)) [(zy 24 [(eC (.str "the house has fallen"))])] [])]
noncomputable def zS:Fn:=fnW 1 0 wx
@[reducible] noncomputable def kB:List Ds:=[(zj (qP [(z9 (eV 0) 6),(z9 (eV 0) 17)]))]
noncomputable def vb:Fn:=fnW 1 0 kB
@[reducible] noncomputable def k6:List Ds:=[(sIf (tE (zu .Eq (qP [(eV 1),(eV 2)]) (zW 45 vb (eV 0) []))) [YK] []),(qb (eV 0) 20 (eC (.bl true))),(zI (Xs 16 (eV 0) (qP [(eV 1),(eV 2)]))),(qb (eV 0) 20 (eC (.bl false))),(qb (eV 0) 6 (eV 1)),(qb (eV 0) 17 (eV 2))]
noncomputable def qT:Fn:=fnW 3 0 k6
@[reducible] noncomputable def qU:List Ds:=[(zI (zW 45 zS (eV 0) [])),(zI (z8 qD [(z9 (eV 0) 9),(eV 1)])),(zI (zW 45 qT (eV 0) [(eV 1),(z9 (eV 0) 17)]))]
noncomputable def zH:Fn:=fnW 2 0 qU
@[reducible] noncomputable def qk:List Ds:=[(sIf (tE (zu .Is (z9 (eV 0) 6) (eC .non))) [(zy 18 [(eC (.str "the house has no lease"))])] [])]
noncomputable def zN:Fn:=fnW 1 0 qk
@[reducible] noncomputable def qQ:List Ds:=[(sIf (tE (zu .IsNot (z9 (eV 0) 18) (eC .non))) [(zj (z8 w8 [(z9 (eV 0) 9),(eIx (z9 (eV 0) 6) (eC (.int 0))),(z9 (eV 0) 18)]))] []),(sIf (tE (zu .IsNot (z9 (eV 0) 17) (eC .non))) [(zj (za .Mult (za .Add (z9 (eV 0) 17) (eC (.int 1))) (z9 (z9 (eV 0) 9) 2)))] []),(zj (eC (.int 0)))]
noncomputable def z_:Fn:=fnW 1 0 qQ
@[reducible] noncomputable def qj:List Ds:=[(sIf (tOr (zQ (tE (z8 w6 [(eV 2)]))) (tE (zu .Gt (eV 2) (z9 (z9 (eV 0) 9) 2)))) [(zy 20 [(eC (.str "so many are whole numbers from 1 on up to the shape's counts"))])] []),(sIf (zQ (tE (z8 qg [(eV 1)]))) [(zy 16 [(eC (.str "a reading is a whole number"))])] []),(zI (zW 45 zN (eV 0) [])),(zq 3 (za .Mult (eB2 uC (eIx (z9 (eV 0) 6) (eC (.int 1))) (eV 1)) (z9 (z9 (eV 0) 9) 2))),(zq 4 (eB2 uC (zW 45 z_ (eV 0) []) (eV 3))),(zq 5 (za .Add (eV 4) (eV 2))),(sIf (tE (zu .Gt (eV 5) (za .Mult (eIx (z9 (eV 0) 6) (eC (.int 2))) (z9 (z9 (eV 0) 9) 2)))) [(zy 18 [(eC (.str "the lease has not so many names"))])] []),(zq 6 (za .Sub (za .FloorDiv (za .Sub (eV 5) (eC (.int 1))) (z9 (z9 (eV 0) 9) 2)) (za .Add (eV 1) (z9 (eV 0) 14)))),(sIf (tE (zu .Gt (eV 6) (eC (.int 0)))) [(ZU 21 29 (eV 6))] []),(zj (eMk 44 jm [(eIx (z9 (eV 0) 6) (eC (.int 0))),(eV 4),(eV 5)]))]
noncomputable def qa:Fn:=fnW 3 4 qj
@[reducible] noncomputable def qc:List Ds:=[(sIf (vj (tE (zu .IsNot (z9 (eV 0) 17) (eC .non))) (tE (zu .LtE (eV 1) (z9 (eV 0) 17)))) [(zj (z9 (eV 0) 17))] []),(zj (eB2 ZO (za .Add (eV 1) (z9 (eV 0) 15)) (za .Sub (z9 (z9 (eV 0) 9) 0) (eC (.int 1)))))]
noncomputable def zO:Fn:=fnW 2 0 qc
@[reducible] noncomputable def wX:List Ds:=[(zI (zW 45 zS (eV 0) [])),(zq 3 (zW 45 qa (eV 0) [(eV 1),(eV 2)])),(zI (zW 45 qT (eV 0) [(z9 (eV 0) 6),(zW 45 zO (eV 0) [(za .FloorDiv (za .Sub (z9 (eV 3) 13) (eC (.int 1))) (z9 (z9 (eV 0) 9) 2))])])),(qb (eV 0) 18 (z8 jH [(z9 (eV 0) 9),(z9 (eV 3) 11),(za .Sub (z9 (eV 3) 13) (eC (.int 1)))])),(zj (eV 3))]
noncomputable def zU:Fn:=fnW 3 1 wX
@[reducible] noncomputable def xI:List Ds:=[(zq 3 (zW 45 zU (eV 0) [(eV 1),(eV 2)])),(qb (eV 0) 19 (Z8 [])),(zj (z8 qt [(z9 (eV 0) 9),(eV 3)]))]
noncomputable def qw:Fn:=fnW 3 1 xI
@[reducible] noncomputable def jE:List Ds:=[(zj (z9 (eV 0) 18))]
noncomputable def VY:Fn:=fnW 1 0 jE
end NH.P
end
section
namespace NH
open PySem PySem.Spec PyProof.Rows L2
noncomputable abbrev z2r(ts:List T)(μ:Mem):RE T:=.som (intsOf ts) λns=>.ok (.int ns.sum) μ
noncomputable abbrev UG(t:T)(μ:Mem):RE T:=match t with
 |.lst ts=>z2r ts μ
 |.mut i=>λK Z=>∃ts,μ[i]?=some (.lst ts)/\z2r ts μ K Z
 |_=>.st
noncomputable def z5L(i:Nat)(t:T)(μ:Mem)(zs:List T):Prop:=t=.lst zs\/∃j,t=.mut j/\j≠i/\μ[j]?=some (.lst zs)
noncomputable abbrev z00(o f:De):De:=λτ μ=>(o τ μ).bind λot μ1=>match ot with
 |.mut i=>λK Z=>(∃ts,μ1[i]?=some (.lst ts))/\f τ μ1 (λt μ2=>∃ts zs,μ2[i]?=some (.lst ts)/\z5L i t μ2 zs/\ts.length+zs.length<=room/\K .non (μ2.set i (.lst (ts++zs)))) Z
 |_=>.st
section
variable {X:Cx}{D:DP}{W:XW}{Γ:Cn}{k:Nat}{pins:List (Addr×Obj)}{s:Shared}{σ:St}{H:Hp}{φ α:List Addr}{τ:Sl}{μ:Mem}{f g:De}{fs:List De}{a b c:Expr}{pos:Pos}{es:List Expr}
theorem z3B{A:Around}{E:Value->Shared->Prop}{prog:Program}{w:World}{l:Addr}{vs:List Value}{ns:List Int}{Q:Value->Shared->Prop}(hh:A.handled=none)(hl:s.heap.IsList l vs.toArray)(hi:IntsAre vs ns)
  (h:∀h' tk t',(∀b o,s.heap.get? b=some o->h'.get? b=some o)->Q (.int ns.sum t') {s with heap:=h',toks:=tk}):wpAny (model prog w) A (call (.builtin "sum") [.ref l]) Q E s:=by
 obtain⟨xs,hx⟩:=hi.allInts.items
 have hl':s.heap.IsList l (intItems xs):=hx▸hl
 refine sum_intListG hh hl' λh' tk t' hk=>?_
 have e1:ns=xs.toList.map (·.1):=by
  rw[←nums_intItems,←hx]
  exact (show numsOf vs.toArray.toList=ns from hi.numsOf).symm
 have e2:preSum (numAt xs) xs.size=ns.sum:=by
  rw[preSum_eq,List.take_of_length_le (by simp),e1]
 rw[e2]
 exact h h' tk t' hk
theorem Uk{ad:Addr}{xs:List T}{ws:List V}{Q:VK}(hc:X.calm=true)(I:Inv X pins σ H s)(mr:MRel D φ α H μ)(q:Rd H ad (.lst ws))(l:DenL D φ α H xs ws)(p:Post D W φ α H σ (RV D φ Q) (z2r xs μ)) :
  wpAny (model X.prog X.w) X.A (call (.builtin "sum") [.ref ad]) (EP X pins σ Q) X.xe s:=by
 obtain⟨its,rv,pl,hz⟩:=I.list (.inl q)
 obtain⟨ns,hns,p⟩:=Post.som p
 have ey:=qz hns l
 subst ey
 refine z3B (I.ok.hd hc) pl.isList (intsAre_of rv) λh' tk t' kp=>?_
 exact⟨.int ns.sum,H,I.kept kp,⟨_,rfl⟩,Post.here p mr rfl⟩
theorem z4o(hc:X.calm=true):B1 X D W (.builtin "sum") UG:=by
 intro pins s σ H φ α μ t v u Q I mr d r p
 unfold UG at p
 split at p
 ·obtain⟨ad,xs,rfl,_,_,q,l⟩:=d
  cases r
  exact Uk hc I mr q l p
 ·obtain⟨ts,hj,p⟩:=p.ex1
  obtain⟨ad,hi,rfl⟩:=d
  cases r
  obtain⟨xs,q,l⟩:=mr.ob _ ad _ hi hj
  exact Uk hc I mr (.inl q) l p
 ·exact p.elim
theorem W_:MtR X "list.extend" (λx vs H Q=>∃l b xs zs,x=.ref l/\vs=[.ref b]/\H l=some (.lst xs)/\Rd H b (.lst zs)/\xs.length+zs.length<=sizeLine/\Q .non (upd H l (.lst (xs++zs)))):=by
 intro pins s σ H x vs v us Q I rx rv h
 obtain⟨l,b,xs,zs,rfl,rfl,hH,hB,hz,q⟩:=h
 cases rx
 obtain⟨u,rfl,ru⟩:=vals1 rv
 cases ru
 obtain⟨z,its,n,r,hl,e⟩:=I.lstM hH
 obtain⟨z2,its2,n2,r2,e2⟩:=hB.ok I.hok
 have hl2:=r2.length
 have hsz:its.toArray.size+its2.toArray.size<=sizeLine:=by rw[List.size_toArray,List.size_toArray];omega
 have hlong:¬(!its.toArray.isEmpty&&Builtin.List.listTooLong (its.toArray.size+its2.toArray.size))=true:=by
  rw[YL hsz,Bool.and_false]
  exact Bool.false_ne_true
 refine call_meets F.slot_list_extend ⟨_,e,rfl⟩ F.entry_list_extend (F.args_list_extend_2 _ _)
  (AutoSeq1.list_extend_list_list_0 l its.toArray n b its2.toArray n2 hlong (by rw[List.size_toArray];omega) (by omega)) ⟨e,e2,?_⟩
 refine⟨.non,_,I.lset (its':=its++its2) hH e (by simp) (r.append r2) ?_,rfl,q⟩
 rw[List.length_append]
 omega
theorem z2J{o:Expr}{pa pc:Pos}{go:De}(hp:zL o=true)(hs:noStar a=true)(hline:(pa.endLine == pc.line)=true)(ho:PE X o (rdE D W go))(ha:PE X a (rdE D W f)) :
  PE X (.Call (.Attribute o "extend" pa) [a] [] pc) (rdE D W (z00 go f)):=by
 have hb:starEach [a] X.env=[(false,eval a X.env)]:=z4 hs
 refine PE.mono (z1B PySem.F.plainAttrs_list PySem.F.slot_list_extend PySem.F.type_list_extend W_ ho (zr ha qi (z4 hs)) (qB hp) (by rw[hb];rfl) hline (z4 hs) rfl) ?_
 rintro σ H Q ⟨φ,α,τ,μ,sr,mr,p⟩
 refine⟨φ,α,τ,μ,sr,mr,p.bind.mono λot μ1 α1 H1 st1 m1 q ov dv=>?_⟩
 split at q
 case h_2=>exact q.elim
 rename_i i
 obtain⟨K,Z,⟨⟨ts0,hμ0⟩,hf⟩,hk,hz⟩:=q
 obtain⟨x,hx,rfl⟩:=dv
 obtain⟨xs0,hH0,l0⟩:=m1.ob _ x _ hx hμ0
 refine⟨.inl ⟨rfl,_,.inl (.inl hH0)⟩,φ,α1,τ,μ1,sr.step st1,m1,_,Z,hf,?_,hz⟩
 rintro t μ2 ⟨ts,zs,hμ,hl,hr,q2⟩ α2 H2 st2 m2 v d
 obtain⟨β,e2,_⟩:=st2.ext
 have hx2:α2[i]?=some x:=by
  rw[e2,List.getElem?_append_left (List.getElem?_eq_some_iff.mp hx).1];exact hx
 obtain⟨xs,hH,l⟩:=m2.ob i x _ hx2 hμ
 have hv:∃y ws,v=.ref y/\Rd H2 y (.lst ws)/\DenL D φ α2 H2 zs ws:=by
  rcases hl with rfl|⟨j,rfl,hj,hμj⟩
  ·obtain⟨y,ws,rfl,_,_,r,dl⟩:=d
   exact⟨y,ws,rfl,r,dl⟩
  ·obtain⟨y,hy,rfl⟩:=d
   obtain⟨ws,hw,dl⟩:=m2.ob j y _ hy hμj
   exact⟨y,ws,rfl,.inl hw,dl⟩
 obtain⟨y,ws,rfl,hr2,dl⟩:=hv
 have st4:Stp α2 H2 α2 (upd H2 x (.lst (xs++ws))):=Stp.turn (List.mem_of_getElem? hx2) ⟨_,hH⟩
 have hi:i<μ2.length:=(List.getElem?_eq_some_iff.mp hμ).1
 refine⟨x,y,xs,ws,rfl,rfl,hH,hr2,?_,?_⟩
 ·rw[←l.length,←dl.length];exact Nat.le_trans hr (zp (Nat.le_refl _))
 ·exact hk _ _ q2 α2 _ (st2.trans st4) (m2.turn hx2 hi st4 ⟨_,z6,(l.step st4).append (dl.step st4)⟩) .non rfl
end
noncomputable def z5M:ER:=rB1 "sum" UG true
theorem z19{D:DP}:EOk D z5M:=QG λC hx hg hc hs ha=>Xz C hx hg (by decide +kernel) (by decide) hs (z4o (C.clm (hc rfl))) ha
noncomputable def z2u:ER:=λr Γ e=>match e with
 |.Call (.Attribute o m pa) [a] [] pc=>gd (m == ("extend":Str)&&zL o&&noStar a&&pa.endLine == pc.line) ((r.e Γ o).bind λgo=>(r.e Γ a).bind λf=>some (z00 go f))
 |_=>none
theorem z18{D:DP}:EOk D z2u:=by
 intro r H X W Γ k e d C h
 unfold z2u at h
 split at h
 ·obtain⟨hb,h1⟩:=zo h
  clear h
  simp only[Bool.and_eq_true] at hb
  obtain⟨⟨⟨h0,h2⟩,h3⟩,h4⟩:=hb
  have h0:=beq_iff_eq.mp h0
  subst h0
  obtain⟨go,e1,h1⟩:=bnd h1
  obtain⟨f,e2,h1⟩:=bnd h1
  cases h1
  exact z2J h2 h3 h4 (H.e C e1) (H.e C e2)
 ·cases h
end NH
end
section
namespace NH.P
open PySem L2 NH
@[reducible] noncomputable def xD:List Ds:=[(zj (eB1 UG (qL 1 [] (.one 0) (iE (eV 0)) [] (za .Sub (z9 (eV 0) 13) (z9 (eV 0) 12)))))]
noncomputable def Zn:Fn:=fnW 1 0 xD
@[reducible] noncomputable def vw:List Ds:=[(zq 3 (zW 45 zU (eV 0) [(eV 1),(eV 2)])),(zI (We (z9 (eV 0) 19) (eV 3))),(zj (z8 Zn [(z9 (eV 0) 19)]))]
noncomputable def wo:Fn:=fnW 3 1 vw
end NH.P
end
section
namespace NH
open PySem PySem.Spec PyProof.Rows L2
noncomputable def lexLe:List Int->List Int->Bool
 |[],[]=>true
 |[],_::_=>true
 |_::_,[]=>false
 |x::xs,y::ys=>if x=y then lexLe xs ys else decide (x<=y)
theorem Vt(x y:Int)(xs ys:List Int):lexLe (x::xs) (y::ys)=if x=y then lexLe xs ys else decide (x<=y):=rfl
theorem Z2:lexLe [] []=true:=rfl
theorem y4(y:Int)(ys:List Int):lexLe [] (y::ys)=true:=rfl
theorem yo(x:Int)(xs:List Int):lexLe (x::xs) []=false:=rfl
theorem X8(A:Around)(s:Shared)(a:Int)(t:Tok)(c:Int)(u:Tok)(prog:Program)(w:World)(E:Value->Shared->Prop)(Q:Value->Shared->Prop)(h:Q (.bool (decide (a<=c))) s) :
  wpAny (model prog w) A (richCompare .LtE (.int a t) (.int c u)) Q E s:=
 (PyProof.Rows.le_int h:wpAny (model prog w) A (compareOp .LtE (.int a t) (.int c u)) Q E s)
section
open PySem.SeqAt
open PySem.AutoSeq1 (wpAny_loadPart')
open PySem.MeetsSeq PySem.MeetsSeq2 PySem.MeetsSeq3
theorem u_ (l b : Addr) (items items2 : Array Value) (n n2 : Nat) (dd dd2 : Option Addr) (sl sl2 : Array (Option Value)) (ns ms : List Int) (hi : IntsAre items.toList ns) (hj : IntsAre items2.toList ms) :
    Meets (Builtin.«tuple.__le__» ⟨[.ref l,.ref b],[]⟩)
      (fun _ R s => s.heap.get? l = some { cls := .type "tuple",dict := dd,data := .seq items n,slots := sl } /\ s.heap.get? b = some { cls := .type "tuple",dict := dd2,data := .seq items2 n2,slots := sl2 } /\
        R (.ok (.ret (.bool (lexLe ns ms)))) s) :=
  .of_wp fun prog w A R s h => by
    obtain ⟨hp,g,d,tk,os⟩ := s; obtain ⟨hl,hb,h⟩ := h
    have f2 := AutoSeq1.sub_tuple_tuple
    have z1 : items.size = ns.length := by rw [← hi.length]; simp
    have z2 : items2.size = ms.length := by rw [← hj.length]; simp
    wp_walk using wpAny_loadPart' hl,wpAny_loadPart' hb,wpAny_forIn_list _ (fun rest b s' => b.1 = none /\ s' = ⟨hp,g,d,tk,os⟩ /\ ∃ (vs ws : List Value) (ns' ms' : List Int),rest = vs.zip ws /\
      IntsAre vs ns' /\ IntsAre ws ms' /\ ns'.length + items2.size = ms'.length + items.size /\ R (.ok (.ret (.bool (lexLe ns' ms')))) ⟨hp,g,d,tk,os⟩) _
    case turn =>
      rintro ⟨y,x⟩ rest b s' ⟨hb',rfl,vs,ws,ns',ms',hz,hvi,hwi,hlen,hR⟩
      cases hvi with
      | nil => rw [List.zip_nil_left] at hz; cases hz
      | cons a t hvi' =>
        cases hwi with
        | nil => rw [List.zip_nil_right] at hz; cases hz
        | cons c u hwi' =>
          rw [List.zip_cons_cons] at hz
          injection hz with hyx hrest
          injection hyx with hy hx
          subst hy hx
          rw [Vt] at hR
          simp only [List.length_cons] at hlen
          obtain ⟨e,he,hiff⟩ := HT.eqAt_int A.in1 ⟨hp,g,d,tk,os⟩ a t c u
          refine wpAny_bind (he prog w _ _ ?_)
          cases e with
          | true =>
            rw [if_pos (hiff.mp rfl)] at hR
            wp_walk
            exact ⟨rfl,rfl,_,_,_,_,hrest,hvi',hwi',by omega,hR⟩
          | false =>
            rw [if_neg (fun q => absurd (hiff.mpr q) Bool.false_ne_true)] at hR
            have hri := X8 A.in1 ⟨hp,g,d,tk,os⟩ a t c u prog w
            wp_walk using hri
            exact ⟨_,rfl,by simpa using hR⟩
    case fin =>
      rintro ⟨b1,b2⟩ s' ⟨hb',rfl,vs,ws,ns',ms',hz,hvi,hwi,hlen,hR⟩
      simp only at hb'
      subst hb'
      have hv : lexLe ns' ms' = decide (items.size <= items2.size) := by
        cases hvi with
        | nil =>
          cases hwi with
          | nil =>
            simp only [List.length_nil] at hlen
            rw [Z2]
            exact (decide_eq_true (by omega)).symm
          | cons c u hw =>
            simp only [List.length_nil,List.length_cons] at hlen
            rw [y4]
            exact (decide_eq_true (by omega)).symm
        | cons a t hv =>
          cases hwi with
          | nil =>
            simp only [List.length_nil,List.length_cons] at hlen
            rw [yo]
            exact (decide_eq_false (by omega)).symm
          | cons c u hw =>
            rw [List.zip_cons_cons] at hz
            cases hz
      rw [hv] at hR
      wp_walk
      exact ⟨_,rfl,by simpa [Builtin.Tuple.tupleCompareSizes] using hR⟩
    case h =>
      exact ⟨rfl,rfl,items.toList,items2.toList,ns,ms,rfl,hi,hj,by omega,h⟩
end
theorem VO{prog:Program}{w:World}{A:Around}{E:Value->Shared->Prop}{s:Shared}{l b:Addr}{items items2:Array Value}{ns ms:List Int}{Q:Value->Shared->Prop}(hl:IsTup s.heap l items)(hb:IsTup s.heap b items2)(hi:IntsAre items.toList ns)(hj:IntsAre items2.toList ms)
  (hu:A.units<cLine) (h:Q (.bool (lexLe ns ms)) s):wpAny (model prog w) A (compareOp .LtE (.ref l) (.ref b)) Q E s:=by
 obtain⟨⟨cls,dd,data,sl⟩,ho,hc,n,hd⟩:=id hl
 obtain⟨⟨cls2,dd2,data2,sl2⟩,ho2,hc2,n2,hd2⟩:=id hb
 simp only at hc hd hc2 hd2
 subst hc hd hc2 hd2
 exact richCompare_meets_room (op:=.LtE) ⟨_,ho,rfl⟩ ⟨_,ho2,rfl⟩ PySem.F.slot_tuple_le PySem.F.entry_tuple_le (PySem.F.args_tuple_le_2 _ _) (u_ l b items items2 n n2 dd dd2 sl sl2 ns ms hi hj)
  ⟨ho,ho2,show Value.bool (lexLe ns ms)≠Value.notImplemented/\Q (.bool (lexLe ns ms)) s from ⟨(λx=>nomatch x),h⟩⟩ hu
noncomputable abbrev leT(x y:T)(μ:Mem):RE T:=match x,y with
 |.tup xs,.tup ys=>λK _=>∃ns ms,intsOf xs=some ns/\intsOf ys=some ms/\K (.bl (lexLe ns ms)) μ
 |_,_=>.st
noncomputable abbrev Qs(x y:T)(μ:Mem):RE T:=match y with
 |.mut i=>(match x with
  |.str z=>λK _=>∃kvs,μ[i]?=some (MO.dic kvs)/\K (.bl (!(zd (.inr z) kvs).isSome)) μ
  |_=>.st)
 |_=>.st
noncomputable abbrev U8(x y:T)(μ:Mem):RE T:=match x,y with
 |.mut i,.str z=>λK _=>∃kvs v,μ[i]?=some (MO.dic kvs)/\zd (.inr z) kvs=some v/\K v μ
 |_,_=>.st
noncomputable def siT:T->Option (Str×Int)
 |.tup [.str a,.int n]=>some (a,n)
 |_=>none
noncomputable abbrev Jt(x y:T)(μ:Mem):RE T:=match y with
 |.tup ys=>λK _=>∃a,siT x=some a/\(∀t∈ys,(siT t).isSome=true)/\K (.bl (ys.any λt=>decide (siT t=some a))) μ
 |_=>.st
noncomputable abbrev eC2(op:T->T->Mem->RE T)(f g:De):De:=λτ μ=>(f τ μ).bind λx μ1=>(g τ μ1).bind λy μ2=>op x y μ2
noncomputable def uf(h:Heap):Value->Option (Str×Int)
 |.ref a=>(h.get? a).bind λo=>(match o.data with|.seq its _=>(match its.toList with | [.str z _,.int n _]=>some (z,n)|_=>none)|_=>none)
 |_=>none
section
variable {X:Cx}{D:DP}{W:XW}{Γ:Cn}{k:Nat}{pins:List (Addr×Obj)}{s:Shared}{σ:St}{H:Hp}{φ α:List Addr}{τ:Sl}{μ:Mem}{f g:De}{a b:Expr}{pos:Pos}
noncomputable def OpC (X:Cx)(D:DP)(W:XW)(op:CmpOp)(r:T->T->Mem->RE T):Prop:=
 ∀(pins:List (Addr×Obj)) (s:Shared) (σ:St) (H:Hp) (φ α:List Addr) (μ:Mem) (x y:T) (v w:V) (u1 u2:Value) (Q:VK),Inv X pins σ H s->MRel D φ α H μ->Den D φ α H x v->Den D φ α H y w->RelV v u1->RelV w u2->Post D W φ α H σ (RV D φ Q) (r x y μ)->
  wpAny (model X.prog X.w) X.A (compareOp op u1 u2) (EP X pins σ Q) X.xe s
theorem z58{op:CmpOp}{r:T->T->Mem->RE T}(h:OpC X D W op r)(ho:wM op b=true)(ha:PE X a (rdE D W f))(hb:PE X b (rdE D W g)):PE X (.Compare a [op] [b] pos) (rdE D W (eC2 r f g)):=by
 rintro pins s σ H Q I ⟨φ,α,τ,μ,sr,mr,p⟩
 refine wpAny_Compare1 (thn (sub ha I sr mr p) ?_) (vV ho)
 rintro u s1 ⟨v,H1,t,μ1,α1,I1,r1,st1,sr1,mr1,d1,p1⟩
 refine thn (sub hb I1 sr1 mr1 p1) ?_
 rintro u' s2 ⟨v',H2,t',μ2,α2,I2,r2,st2,sr2,mr2,d2,p2⟩
 exact h pins s2 σ H2 φ α2 μ2 t t' v v' u u' Q I2 mr2 (d1.step st2) d2 r1 r2 p2
theorem Yg{op:CmpOp}{r:T->T->Mem->RE T}(h:OpC X D W op r)(ho:wM op b=true)(ha:PE X a (rdE D W f))(hb:PE X b (rdE D W g)):PT X (.Compare a [op] [b] pos) (rdT D W (tE (eC2 r f g))):=by
 rintro pins s σ H Q I ⟨φ,α,τ,μ,sr,mr,p⟩
 have p:Post D W φ α H σ (λb _ _ H'=>Q b H') ((f τ μ).bind λx μ1=>(g τ μ1).bind λy μ2=>(r x y μ2).bind jU):=p
 refine wpAny_isTrue_Compare1 (thn (sub ha I sr mr p) ?_) (vV ho)
 rintro u s1 ⟨v,H1,t,μ1,α1,I1,r1,st1,sr1,mr1,d1,p1⟩
 refine thn (sub hb I1 sr1 mr1 p1) ?_
 rintro u' s2 ⟨v',H2,t',μ2,α2,I2,r2,st2,sr2,mr2,d2,p2⟩
 refine thn (h pins s2 σ H2 φ α2 μ2 t t' v v' u u' (λz H1=>∃t μ1 α1,Stp α2 H2 α1 H1/\MRel D φ α1 H1 μ1/\Den D φ α1 H1 t z/\Post D W φ α1 H1 σ (λb _ _ H'=>Q b H') (jU t μ1)) I2 mr2 (d1.step st2) d2 r1 r2 (p2.bind.mono λt μ' α' H' st m q v d=>⟨t,μ',α',st,m,d,q⟩)) ?_
 rintro d s3 ⟨z,H3,I3,r3,t3,μ3,α3,st3,mr3,d3,p3⟩
 unfold jU at p3
 split at p3
 ·cases d3
  cases r3
  exact wpAny_truthy_bool ⟨H3,I3,p3.ok (Stp.refl _ _) mr3⟩
 ·exact p3.elim
theorem z62(hu:X.A.units+64<cLine):OpC X D W .LtE leT:=by
 intro pins s σ H φ α μ x y v w u1 u2 Q I mr d1 d2 r1 r2 p
 unfold leT at p
 split at p
 ·obtain⟨K0,Z0,⟨ns,ms,h1,h2,p⟩,k1,k2⟩:=p
  obtain⟨a1,ws1,rfl,_,_,rd1,l1⟩:=d1
  obtain⟨a2,ws2,rfl,_,_,rd2,l2⟩:=d2
  cases r1;cases r2
  have e1:=qz h1 l1
  have e2:=qz h2 l2
  subst e1 e2
  obtain⟨i1,v1,p1,_⟩:=I.tuple (.inl rd1)
  obtain⟨i2,v2,p2,_⟩:=I.tuple (.inl rd2)
  exact VO p1 p2 (by simpa using intsAre_of v1) (by simpa using intsAre_of v2) (by omega) ⟨.bl _,H,I,rfl,k1 _ _ p α H (Stp.refl _ _) mr _ rfl⟩
 ·exact p.elim
theorem UH(hu:X.A.units+64<cLine):OpC X D W .NotIn Qs:=by
 intro pins s σ H φ α μ x y v w u1 u2 Q I mr d1 d2 r1 r2 p
 unfold Qs at p
 split at p
 ·split at p
  ·rename_i i _ z
   obtain⟨K0,Z0,⟨kvs,hi,p⟩,k1,k2⟩:=p
   have d1:v=.str z:=d1
   obtain⟨ad,ha,rfl⟩:=d2
   cases r2
   obtain⟨gs,hH,l⟩:=mr.ob i ad _ ha hi
   subst d1
   refine z06 (by omega) I (DGet.k (k:=.inr z) hH) r1 λs' I'=>⟨.bl (!(v_ gs (.inr z)).isSome),H,I',rfl,?_⟩
   rw[yA l]
   exact k1 _ _ p α H (Stp.refl _ _) mr _ rfl
  ·exact p.elim
 ·exact p.elim
theorem Vd{t:T}{a:Str×Int}(h:siT t=some a):t=.tup [.str a.1,.int a.2]:=by
 unfold siT at h
 split at h
 ·cases h;rfl
 ·cases h
theorem Yo{t:T}{v:V}{u:Value}{a:Str×Int}(I:Inv X pins σ H s)(h:siT t=some a)(d:Den D φ α H t v)(r:RelV v u):uf s.heap u=some a:=by
 have e:=Vd h
 subst e
 obtain⟨c,xs,rfl,_,_,rd,l⟩:=d
 cases r
 obtain⟨its,rv,⟨o,ho,_,n,hd⟩,_⟩:=I.tuple (.inl rd)
 obtain⟨v1,q1,rfl,d1,v2,q2,rfl,d2,l3⟩:=l
 have l3:q2=[]:=l3
 have d1:v1=.str a.1:=d1
 have d2:v2=.int a.2:=d2
 subst l3 d1 d2
 cases rv with
 |cons r1 rv=>
  cases rv with
  |cons r2 rv=>
   cases rv
   obtain⟨t1,rfl⟩:=r1
   obtain⟨t2,rfl⟩:=r2
   unfold uf
   simp only[ho,Option.bind_some,hd]
theorem z3O{a b:Str×Int}:eqL [.str a.1,.int a.2] [.str b.1,.int b.2]=some (decide (a=b)):=by
 have h1:(a.1 == b.1)=decide (a.1=b.1):=by by_cases z:a.1=b.1<;>simp[z]
 have h2:(a.2 == b.2)=decide (a.2=b.2):=by by_cases z:a.2=b.2<;>simp[z]
 have h3:decide (a=b)=(decide (a.1=b.1)&&decide (a.2=b.2)):=by
  rw[←Bool.decide_and];exact decide_eq_decide.mpr Prod.ext_iff
 simp[eqL,eqT,h1,h2,h3]
theorem z1N(hu:X.A.units+64<cLine):OpC X D W .In Jt:=by
 intro pins s σ H φ α μ x y v w u1 u2 Q I mr d1 d2 r1 r2 p
 unfold Jt at p
 split at p
 ·rename_i ys
  obtain⟨K0,Z0,⟨a0,ha,hy,p⟩,k1,k2⟩:=p
  obtain⟨ad,vs,rfl,_,_,rd,l⟩:=d2
  cases r2
  obtain⟨its,rv,pl,_⟩:=I.tuple (.inl rd)
  have e1:=Vd ha
  have each:∀(ys:List T) (vs:List V) (its:List Value),DenL D φ α H ys vs->Vals vs its->(∀t∈ys,(siT t).isSome=true)->(∀w∈its,SeqAt.EqAt X.A.in1 s w u1 (decide (uf s.heap w=some a0)))/\its.any (λw=>decide (uf s.heap w=some a0))=ys.any λt=>decide (siT t=some a0):=by
   intro ys
   induction ys with
   |nil=>intro vs its l rv _;cases l;cases rv;exact⟨by simp,rfl⟩
   |cons t r ih=>
    intro vs its l rv hy
    obtain⟨v',q',rfl,d,l⟩:=l
    cases rv with
    | @cons _ u0 _ us0 r0 rv=>
    obtain⟨h1,h2⟩:=ih _ _ l rv λt ht=>hy t (List.mem_cons_of_mem _ ht)
    obtain⟨ns,hns⟩:=Option.isSome_iff_exists.mp (hy t List.mem_cons_self)
    have e3:=Yo I hns d r0
    have e4:=Vd hns
    refine⟨λw hw=>?_,?_⟩
    ·rcases List.mem_cons.mp hw with rfl|hw
     ·rw[e3]
      refine X2 I d d1 r0 r1 ?_ ?_
      ·rw[e4,e1]
       show eqL [.str ns.1,.int ns.2] [.str a0.1,.int a0.2]=_
       rw[z3O]
       simp
      ·rw[e4,in1_units]
       show X.A.units+1+(qH [.str ns.1,.int ns.2]+1)+1<cLine
       have:qH [T.str ns.1,.int ns.2]=0:=rfl
       omega
     ·exact h1 w hw
    ·rw[List.any_cons,List.any_cons,h2,e3,hns]
  obtain⟨h1,h2⟩:=each ys vs its l rv hy
  refine SeqAt.in_tupleAt (items:=its.toArray) (λw=>decide (uf s.heap w=some a0)) pl (λw hw=>h1 w (by simpa using hw)) ⟨.bl _,H,I,rfl,?_⟩
  rw[show its.toArray.any (λw=>decide (uf s.heap w=some a0))=its.any (λw=>decide (uf s.heap w=some a0)) by simp,h2]
  exact k1 _ _ p α H (Stp.refl _ _) mr _ rfl
 ·exact p.elim
theorem WN{z:Key}{t:T}:∀{kvs:List (Key×T)} {gs:List (Key×V)},DenK D φ α H kvs gs->zd z kvs=some t->∃v,v_ gs z=some v/\Den D φ α H t v
 |[],_,h,e=>by cases e
 |p::r,_,h,e=>by
  obtain⟨v,q,rfl,d,l⟩:=h
  unfold zd at e
  by_cases e1:p.1=z
  ·rw[if_pos e1] at e
   cases e
   exact⟨v,by rw[wV (p:=(p.1,v)) e1],d⟩
  ·rw[if_neg e1] at e
   obtain⟨v2,h1,h2⟩:=WN l e
   exact⟨v2,by rw[wA (p:=(p.1,v)) e1];exact h1,h2⟩
theorem z31(C:Ck D W Γ X k)(hs:z0g b)(ha:PE X a (rdE D W f))(hb:PE X b (rdE D W g)):PE X (.Subscript a b pos) (rdE D W (eC2 U8 f g)):=by
 refine PE.mono (UY (by have:=C.unt;omega) ha hb hs) ?_
 rintro σ H Q ⟨φ,α,τ,μ,sr,mr,p⟩
 refine⟨φ,α,τ,μ,sr,mr,p.bind.mono λx μ1 α1 H1 st1 m1 q v d=>?_⟩
 refine⟨φ,α1,τ,μ1,sr.step st1,m1,q.bind.mono λy μ2 α2 H2 st2 m2 q2 w dw=>?_⟩
 unfold U8 at q2
 split at q2
 ·rename_i i z
  obtain⟨K0,Z0,⟨kvs,t,hi,hl,q3⟩,k1,k2⟩:=q2
  obtain⟨ad,ha,rfl⟩:=d.step st2
  obtain⟨gs,hH,l⟩:=m2.ob i ad _ ha hi
  obtain⟨tv,h1,h2⟩:=WN l hl
  have dw:w=.str z:=dw
  subst dw
  refine⟨ad,tv,rfl,?_,k1 _ _ q3 α2 H2 (Stp.refl _ _) m2 _ h2⟩
  have:=DGet.k (k:=.inr z) hH
  rw[h1] at this
  exact this
 ·exact q2.elim
end
noncomputable def isKey(b:Expr):Bool:=match b with
 |.Name x _=>x == ("holder":Str) || x == ("_law_holder":Str)
 |_=>false
theorem Kb{b:Expr}(h:isKey b=true):z0g b:=by
 unfold isKey at h
 split at h
 ·exact λov iv=>rfl
 ·cases h
noncomputable def z1R:ER:=λr Γ e=>match e with
 |.Subscript a b _=>gd (isKey b) ((r.e Γ a).bind λf=>(r.e Γ b).bind λg=>some (eC2 U8 f g))
 |_=>none
theorem z0P{D:DP}:EOk D z1R:=by
 intro r H X W Γ k e d C h
 unfold z1R at h
 split at h
 ·obtain⟨hb,h1⟩:=zo h
  obtain⟨f,e1,h1⟩:=bnd h1
  obtain⟨g,e2,h1⟩:=bnd h1
  cases h1
  exact z31 C (Kb hb) (H.e C e1) (H.e C e2)
 ·cases h
noncomputable def VP(a:Expr):Bool:=match a with
 |.Tuple _ _ _=>true
 |_=>false
noncomputable def UO (Γ:Cn)(a:Expr)(op:CmpOp)(b:Expr):Option (T->T->Mem->RE T):=match op with
 |.LtE=>gd (VP a) (some leT)
 |.NotIn=>gd (YT Γ b) (some Qs)
 |.In=>gd (VP a&&VP b) (some Jt)
 |_=>none
theorem z1C{X:Cx}{D:DP}{W:XW}{Γ:Cn}{k:Nat}(C:Ck D W Γ X k){a b:Expr}{op:CmpOp}{r:T->T->Mem->RE T}(h:UO Γ a op b=some r):OpC X D W op r:=by
 unfold UO at h
 split at h
 ·obtain⟨_,h⟩:=zo h;cases h;exact z62 C.unt
 ·obtain⟨_,h⟩:=zo h;cases h;exact UH C.unt
 ·obtain⟨_,h⟩:=zo h;cases h;exact z1N C.unt
 ·cases h
noncomputable def rC2:ER:=λr Γ e=>match e with
 |.Compare a [op] [b] _=>(UO Γ a op b).bind λc=>gd (wM op b) ((r.e Γ a).bind λf=>(r.e Γ b).bind λg=>some (eC2 c f g))
 |_=>none
theorem z2G{D:DP}:EOk D rC2:=by
 intro r H X W Γ k e d C h
 unfold rC2 at h
 split at h
 ·obtain⟨c,hc,h⟩:=bnd h
  obtain⟨hb,h1⟩:=zo h
  obtain⟨f,e1,h1⟩:=bnd h1
  obtain⟨g,e2,h1⟩:=bnd h1
  cases h1
  exact z58 (z1C C hc) hb (H.e C e1) (H.e C e2)
 ·cases h
noncomputable def z27:TR:=λr Γ e=>match e with
 |.Compare a [op] [b] _=>(UO Γ a op b).bind λc=>gd (wM op b) ((r.e Γ a).bind λf=>(r.e Γ b).bind λg=>some (tE (eC2 c f g)))
 |_=>none
theorem z07{D:DP}:TOk D z27:=by
 intro r H X W Γ k e d C h
 unfold z27 at h
 split at h
 ·obtain⟨c,hc,h⟩:=bnd h
  obtain⟨hb,h1⟩:=zo h
  obtain⟨f,e1,h1⟩:=bnd h1
  obtain⟨g,e2,h1⟩:=bnd h1
  cases h1
  exact Yg (z1C C hc) hb (H.e C e1) (H.e C e2)
 ·cases h
end NH
end
section
namespace NH.P
open PySem L2 NH
@[reducible] noncomputable def W8:List Ds:=[(zj (eC .non))]
noncomputable def forget:Fn:=fnW 1 0 W8
@[reducible] noncomputable def jS:List Ds:=[(sIf (tOr (zQ (tE (vW [4] (eV 0)))) (tOr (tE (zu .Eq (eB1 vF (eV 0)) (eC (.int 0)))) (zQ (tE (vW [3] (eIx (eV 0) (eC (.int 0)))))))) [(zj (eC (.bl false)))] []),(zj (eC2 Jt (qP [(eIx (eV 0) (eC (.int 0))),(eB1 vF (eV 0))]) (qP [(qP [(eC (.str "lease")),(eC (.int 5))]),(qP [(eC (.str "ask")),(eC (.int 4))])])))]
noncomputable def vc:Fn:=fnW 1 0 jS
@[reducible] noncomputable def vG:List Ds:=[(zj (QJ (vW [5] (eV 0)) (eB1 K4 (qL 1 [] (.one 0) (iE (eV 0)) [] (z8 vc [(eV 0)])))))]
noncomputable def qO:Fn:=fnW 1 0 vG
@[reducible] noncomputable def yF:List Ds:=[(sIf (zQ (tE (z8 qy [(eV 2)]))) [(zy 17 [(eC (.str "a holder is a text of one to eight small letters"))])] []),(sIf (tE (eC2 Qs (eV 2) (eV 0))) [(yc (eV 0) (eV 2) (z4s 45 qx [(eV 1),(eC (.int 0)),(eC (.int 0)),(eC (.clo 1 []))]))] []),(zj (eC2 U8 (eV 0) (eV 2)))]
noncomputable def vA:Fn:=fnW 3 0 yF
@[reducible] noncomputable def WG:List Ds:=[(sIf (zQ (tE (z8 qO [(eV 1)]))) [(zy 25 [(eC (.str "no list of rows of a run"))])] []),(zq 2 (z0a 43 wa [(eV 0)])),(zq 3 Zb),(zq 4 (KD [])),(kR (.one 5) (iE (eV 1)) [(zq 6 (eIx (eV 5) (eC (.int 1)))),(zq 7 (z8 vA [(eV 3),(eV 0),(eV 6)])),(sIf (tE (zu .Eq (eIx (eV 5) (eC (.int 0))) (eC (.str "lease")))) [(zI (zW 45 zH (eV 7) [(zW 43 qS (eV 2) [(eV 6),(eIx (eV 5) (eC (.int 2))),(eIx (eV 5) (eC (.int 3))),(eIx (eV 5) (eC (.int 4)))])]))] [(zI (z00 (eV 4) (qL 1 [6] (.one 0) (iE (zW 45 qw (eV 7) [(eIx (eV 5) (eC (.int 2))),(eIx (eV 5) (eC (.int 3)))])) [] (qP [(eV 1),(eV 0)]))))])]),(zj (eV 4))]
noncomputable def yq:Fn:=fnW 2 6 WG
end NH.P
end
section
namespace NH.P
open PySem L2 NH
@[reducible] noncomputable def uH:List Ds:=[(zq 1 (KD [])),(zq 2 Zb),(kR (.one 3) (iE (eV 0)) [(zq 4 (eIx (eV 3) (eC (.int 0)))),(zq 5 (eIx (eIx (eV 3) (eC (.int 1))) (eC (.int 0)))),(zq 6 (eIx (eIx (eV 3) (eC (.int 1))) (eC (.int 1)))),(zq 7 (za .Add (eIx (eIx (eV 3) (eC (.int 1))) (eC (.int 2))) (eC (.int 1)))),(zq 8 (XU (eV 2) (eV 4))),(sIf (vj (tE (zu .IsNot (eV 8) (eC .non))) (tE (zu .Eq (eSl (eV 8) pN (pS (eC (.int 2)))) (qP [(eV 5),(eV 6)])))) [(zq 7 (za .Sub (eV 7) (za .Add (eIx (eV 8) (eC (.int 2))) (eC (.int 1)))))] [(zI (We (eV 1) (qP [(eC (.str "lease")),(eV 4),(eV 6),(eV 5),(eC (.int 1))])))]),(zI (We (eV 1) (qP [(eC (.str "ask")),(eV 4),(eV 5),(eV 7)]))),(yc (eV 2) (eV 4) (eIx (eV 3) (eC (.int 1))))]),(zj (eV 1))]
noncomputable def kG:Fn:=fnW 1 8 uH
@[reducible] noncomputable def ZK:List Ds:=[(sIf (tE (zu .Gt (z9 (eV 0) 2) (eC (.int 20)))) [(zy 12 [(eC (.str "a book is judged of a shape of at most twenty counts"))])] []),(zI (z8 v5 [(eV 0),(eV 1)])),(zq 2 (qL 1 [0] (.one 0) (iE (eV 1)) [] (qP [(eIx (eV 0) (eC (.int 0))),(z8 vD [(eV 1),(eIx (eV 0) (eC (.int 1)))])]))),(kR (.one 3) (Kt (eB1 vF (eV 2))) [(kR (.one 4) (Kt (eV 3)) [(sIf (zQ (tE (z8 qr [(eIx (eV 2) (eV 4)),(eIx (eV 2) (eV 3))]))) [(zj (qP [(eC (.str "wrong")),(eV 4),(eV 3)]))] [])])]),(zj (qP [(eC (.str "right")),(z8 kG [(eV 2)])]))]
noncomputable def qN:Fn:=fnW 2 3 ZK
@[reducible] noncomputable def yx:List Ds:=[(zq 2 (eC (.int 0))),(kR (.one 3) (iE (eV 1)) [(sIf (vj (tE (zu .Lt (eV 2) (eB1 vF (eV 0)))) (tE (zu .Eq (eV 3) (eIx (eV 0) (eV 2))))) [(zq 2 (za .Add (eV 2) (eC (.int 1))))] [])]),(zj (zu .Eq (eV 2) (eB1 vF (eV 0))))]
noncomputable def qq:Fn:=fnW 2 2 yx
@[reducible] noncomputable def ku:List Ds:=[(sIf (tOr (zQ (tE (vW [4] (eV 2)))) (tOr (tE (zu .NotEq (eB1 vF (eV 2)) (eC (.int 2)))) (tOr (tE (zu .NotEq (eIx (eV 2) (eC (.int 0))) (eC (.str "right")))) (zQ (tE (vW [5] (eIx (eV 2) (eC (.int 1))))))))) [(zj (eC (.bl false)))] []),(zj (z8 qq [(eV 1),(z8 yq [(eV 0),(eIx (eV 2) (eC (.int 1)))])]))]
noncomputable def zE:Fn:=fnW 3 0 ku
end NH.P
end
section
namespace NH.P
open PySem L2 NH
@[reducible] noncomputable def um:List Ds:=[(zq 5 (KD [])),(zq 6 Zb),(kR (.one 7) (iE (eV 4)) [(zq 8 (eIx (Z8 [(eC (.str "anna")),(eC (.str "b")),(eC (.str "bo")),(eC (.str "zzzzzzzz")),(eC (.str "c"))]) (za .Mod (z8 zR [(eV 7),(eC (.int 0))]) (eV 3)))),(zq 9 (za .Add (eV 1) (za .Mod (z8 zR [(eV 7),(eC (.int 1))]) (eV 2)))),(zq 10 (z8 jK [(eV 0),(eV 9),(za .Mod (z8 zR [(eV 7),(eC (.int 2))]) (z9 (eV 0) 1)),(za .Mod (z8 zR [(eV 7),(eC (.int 3))]) (z9 (eV 0) 2))])),(zq 11 (za .Mult (za .Mult (z9 (eV 0) 0) (z9 (eV 0) 1)) (z9 (eV 0) 2))),(sIf (vj (tE (K3 (eV 8) (eV 6))) (tE (zu .Gt (za .Mod (z8 zR [(eV 7),(eC (.int 4))]) (eC (.int 8))) (eC (.int 0))))) [(zq 10 (eB2 ZO (za .Sub (eV 11) (eC (.int 1))) (za .Add (za .Add (eC2 U8 (eV 6) (eV 8)) (eC (.int 1))) (za .Mod (z8 zR [(eV 7),(eC (.int 5))]) (eIx (Z8 [(eC (.int 1)),(eC (.int 3)),(eC (.int 40))]) (za .Mod (z8 zR [(eV 7),(eC (.int 6))]) (eC (.int 3))))))))] []),(yc (eV 6) (eV 8) (eV 10)),(zI (We (eV 5) (qP [(eV 8),(eV 10)])))]),(zj (eV 5))]
noncomputable def wN:Fn:=fnW 5 7 um
@[reducible] noncomputable def vz:List Ds:=[(sIf (tOr (tE (zu .NotEq (eB1 vF (eV 2)) (eC (.int 3)))) (tOr (tE (zu .NotEq (eIx (eV 2) (eC (.int 0))) (eC (.str "wrong")))) (zQ (tE (eCh (eC (.int 0)) [(.LtE,(eIx (eV 2) (eC (.int 1)))),(.Lt,(eIx (eV 2) (eC (.int 2)))),(.Lt,(eB1 vF (eV 1)))]))))) [(zj (eC (.bl false)))] []),(z2Z [3,4] (eSl (eV 2) (pS (eC (.int 1))) pN)),(sIf (tE (zu .NotEq (z8 qN [(eV 0),(Z8 [(eIx (eV 1) (eV 3)),(eIx (eV 1) (eV 4))])]) (qP [(eC (.str "wrong")),(eC (.int 0)),(eC (.int 1))]))) [(zj (eC (.bl false)))] []),(kR (.one 5) (Kt (eV 3)) [(sIf (tE (zu .NotEq (eIx (z8 qN [(eV 0),(Z8 [(eIx (eV 1) (eV 5)),(eIx (eV 1) (eV 4))])]) (eC (.int 0))) (eC (.str "right")))) [(zj (eC (.bl false)))] [])]),(zq 6 (z8 qN [(eV 0),(eSl (eV 1) pN (pS (eV 4)))])),(sIf (zQ (tE (z8 zE [(eV 0),(eSl (eV 1) pN (pS (eV 4))),(eV 6)]))) [(zj (eC (.bl false)))] []),(zj (z0m (z8 qq [(Z8 [(eIx (eV 1) (eV 3)),(eIx (eV 1) (eV 4))]),(z8 yq [(eV 0),(eIx (eV 6) (eC (.int 1)))])])))]
noncomputable def qM:Fn:=fnW 3 4 vz
@[reducible] noncomputable def Zg:List Ds:=[(zq 1 (z8 vQ [(eV 0),(eC (.int 0))])),(zq 2 (eIx (Z8 [(eC (.int 0)),(z8 WA [(eV 1),(eC (.int 40)),(eC (.int 1000))]),(z8 WA [(eV 1),(eC (.int 50)),(za .Pow (eC (.int 10)) (eC (.int 36)))])]) (za .Mod (z8 zR [(eV 1),(eC (.int 39))]) (eC (.int 3))))),(zq 3 (za .Add (eC (.int 1)) (za .Mod (z8 zR [(eV 1),(eC (.int 1))]) (eC (.int 9))))),(zq 4 (eMk 40 vk [(za .Add (eV 2) (eV 3)),(za .Add (eC (.int 1)) (za .Mod (z8 zR [(eV 1),(eC (.int 2))]) (eC (.int 4)))),(za .Add (eC (.int 1)) (za .Mod (z8 zR [(eV 1),(eC (.int 3))]) (eC (.int 20))))])),(zq 5 (z8 wN [(eV 4),(eV 2),(eV 3),(za .Add (eC (.int 1)) (za .Mod (z8 zR [(eV 1),(eC (.int 4))]) (eC (.int 5)))),(eSl (eV 0) (pS (eC (.int 1))) (pS (eC (.int 61))))])),(zq 6 (z8 qN [(eV 4),(eB1 Jq (eV 5))])),(sIf (vj (tE (vW [4] (eV 6))) (tE (zu .Eq (eB1 vF (eV 6)) (eC (.int 2))))) [(zj (z8 zE [(eV 4),(eV 5),(eV 6)]))] []),(zj (QJ (vW [4] (eV 6)) (z8 qM [(eV 4),(eV 5),(eV 6)])))]
noncomputable def jR:Fn:=fnW 1 6 Zg
end NH.P
end
section
namespace NH.K77
open PySem PySem.Spec PyProof.Rows L2 NH NH.P
noncomputable def st(i:Nat):Stmt:=PySem.Challenge.pw_namehouses_k77_whole_no_other_pair_ahead.main.body.getD i (.Pass ⟨0,0,0,0⟩)
noncomputable def cls:List (Str×Nat):=[("bool",1),("int",2),("list",5),("str",3),("tuple",4)]
noncomputable def fld:List (Str×Nat):=[("moments",0),("houses",1),("counts",2),("holder",5),("lease",6),("until",7),("is_cut",8),("shape",9),("grants",10),("house",11),("begin",12),("end",13),("ahead",14),("stride",15),("keeper",16),("mark",17),("newest",18),("batches",19),("has_fallen",20),("by",29)]
noncomputable def RU:Rules:=⟨[z38,XM,z4O,z1O,z4S,rUn,z1F,rC2,z1K,z5z,z5D,z4I,z1R,z2P,z5u,z2N,z5K,z1o,z5r,z2m,z4K,YJ,z1r,z1u,z3b,z5M,z2u,z4b,z1v,WU],[z27,Ud,z1D],[Xd],[XQ,riE],[z1l,VU,roE],[z1I,z1s,z4D,VL,z1i,z1A,z1m,XJ,Va]⟩
theorem yZ{D:DP}:RulesOk D RU:=⟨⟨z0b,YW,U_,z0S,Uw,z3p,U9,z2G,z0G,z12,UQ,Uy,z0P,z0A,z1b,Uz,z0D,Y7,z0w,UU,z0Y,Xr,YH,XG,z0V,z19,z18,UD,YU,Kg,trivial⟩,⟨z07,Yx,Yn,trivial⟩,⟨JX,trivial⟩,⟨Xe,z2f,trivial⟩,⟨Uj,JR,z22,trivial⟩,⟨Xc,Yi,UL,JT,YE,YM,U0,YF,KC,trivial⟩⟩
noncomputable def gs0:List (Str×GM):=Jd ["ValueError","all","bool","int","isinstance","len","list","max","min","range","sorted","str","sum","tuple"] [("HouseError",10),("NoShape",12),("NoName",13),("NoTime",16),("NoHolder",17),("NoLease",18),("Ended",19),("TooMany",20),("NoNote",23),("Fallen",24),("NoRow",25)] [("Wait",21,29)]
noncomputable def vL:=st 56
noncomputable def Ue:Cn:=cn cls fld gs0 ["note"] [] [] []
theorem XO:zf ((comp RU 60).s Ue) (z3 vL)=some W8:=by kernel_rfl
noncomputable def gs1:List (Str×GM):=("forget",GM.fn forget)::gs0
noncomputable def gs2:List (Str×GM):=(WZ,GM.kpr)::gs1
noncomputable def gs3:List (Str×GM):=("forget",GM.cst (.clo 1 []))::gs2
noncomputable def we:=inClass (st 10) 0
noncomputable def gs4:List (Str×GM):=(hash "Wait",GM.xin 21 29 "Wait" "by")::gs3
noncomputable def gs5:List (Str×GM):=(hash "by",GM.xin 21 29 "Wait" "by")::gs4
noncomputable def ye:=st 15
noncomputable def VH:Cn:=cn cls fld gs5 ["thing"] ["isinstance","int","bool"] [] []
theorem Vs:zf ((comp RU 60).s VH) (z3 ye)=some yt:=by kernel_rfl
noncomputable def gs6:List (Str×GM):=("is_whole",GM.fn qg)::gs5
noncomputable def Zd:=st 16
noncomputable def Kn:Cn:=cn cls fld gs6 ["thing"] ["is_whole"] [] []
theorem J_:zf ((comp RU 60).s Kn) (z3 Zd)=some Zr:=by kernel_rfl
noncomputable def gs7:List (Str×GM):=("is_size",GM.fn w6)::gs6
noncomputable def wF:=st 17
noncomputable def kL:Cn:=cn cls fld gs7 ["thing"] ["is_whole"] [] []
theorem xq:zf ((comp RU 60).s kL) (z3 wF)=some wO:=by kernel_rfl
noncomputable def gs8:List (Str×GM):=("is_from_nought",GM.fn zV)::gs7
noncomputable def yC:=st 18
noncomputable def Vr:Cn:=cn cls fld gs8 ["thing","bound"] ["is_whole"] [] []
theorem Vx:zf ((comp RU 60).s Vr) (z3 yC)=some uD:=by kernel_rfl
noncomputable def gs9:List (Str×GM):=("is_below",GM.fn qf)::gs8
noncomputable def jQ:=inClass (st 19) 0
noncomputable def Q9:Cn:=cn cls fld gs9 ["self","moments","houses","counts"] ["is_size","NoShape"] [] []
theorem QH:zf ((comp RU 60).s Q9) (z3 jQ)=some jP:=by kernel_rfl
noncomputable def z3X:List (Str×GM):=("Shape",GM.mk 40 true vk)::gs9
noncomputable def uF:=st 20
noncomputable def V2:Cn:=cn cls fld z3X ["shape"] [] [] []
theorem VX:zf ((comp RU 60).s V2) (z3 uF)=some yR:=by kernel_rfl
noncomputable def z2y:List (Str×GM):=("names_in",GM.fn j_)::z3X
noncomputable def Zp:=st 21
noncomputable def Ki:Cn:=cn cls fld z2y ["shape","thing"] ["is_below","names_in"] [] []
theorem Kf:zf ((comp RU 60).s Ki) (z3 Zp)=some Ze:=by kernel_rfl
noncomputable def z2I:List (Str×GM):=("is_name",GM.fn vU)::z2y
noncomputable def k7:=st 22
noncomputable def ZX:Cn:=cn cls fld z2I ["shape","thing"] ["is_name","NoName"] [] []
theorem Qu:zf ((comp RU 60).s ZX) (z3 k7)=some kH:=by kernel_rfl
noncomputable def z4r:List (Str×GM):=("check_name",GM.fn ve)::z2I
noncomputable def kh:=st 23
noncomputable def Q2:Cn:=cn cls fld z4r ["thing","bound"] ["is_below","NoName"] [] []
theorem QK:zf ((comp RU 60).s Q2) (z3 kh)=some jZ:=by kernel_rfl
noncomputable def z2L:List (Str×GM):=("check_part",GM.fn qA)::z4r
noncomputable def Zc:=st 24
noncomputable def Kk:Cn:=cn cls fld z2L ["shape","moment","house","count"] ["check_part"] [] []
theorem Ke:zf ((comp RU 60).s Kk) (z3 Zc)=some ZL:=by kernel_rfl
noncomputable def z39:List (Str×GM):=("name_of",GM.fn jK)::z2L
noncomputable def yl:=st 25
noncomputable def Vk:Cn:=cn cls fld z39 ["shape","name","count","above"] ["check_name"] [] []
theorem V3:zf ((comp RU 60).s Vk) (z3 yl)=some yu:=by kernel_rfl
noncomputable def z5m:List (Str×GM):=("parts_of",GM.fn vD)::z39
noncomputable def z5v:List (Str×GM):=("HOUSE",GM.cst (.int 0))::z5m
noncomputable def z4J:List (Str×GM):=("FIRST",GM.cst (.int 1))::z5v
noncomputable def z37:List (Str×GM):=("UNTIL",GM.cst (.int 2))::z4J
noncomputable def y3:=st 30
noncomputable def Vp:Cn:=cn cls fld z37 ["shape","thing"] ["isinstance","tuple","len","is_below","HOUSE","is_whole","FIRST","UNTIL"] [] []
theorem V1:zf ((comp RU 60).s Vp) (z3 y3)=some u6:=by kernel_rfl
noncomputable def z2Y:List (Str×GM):=("is_lease",GM.fn vC)::z37
noncomputable def j6:=st 31
noncomputable def Z4:Cn:=cn cls fld z2Y ["shape","thing"] ["is_lease","NoLease"] [] []
theorem uL:zf ((comp RU 60).s Z4) (z3 j6)=some je:=by kernel_rfl
noncomputable def z5o:List (Str×GM):=("check_lease",GM.fn qD)::z2Y
noncomputable def z4G:List (Str×GM):=("LETTERS",GM.cst (.str "abcdefghijklmnopqrstuvwxyz"))::z5o
noncomputable def z4h:List (Str×GM):=("LONGEST_HOLDER",GM.cst (.int 8))::z4G
noncomputable def xw:=st 35
noncomputable def Wr:Cn:=cn cls fld z4h ["thing"] ["isinstance","str","len","LONGEST_HOLDER","all"] [] []
theorem Q_:zf ((comp RU 60).s Wr) (z3 xw)=some xJ:=by kernel_rfl
noncomputable def z3c:List (Str×GM):=("is_holder",GM.fn qy)::z4h
noncomputable def ke:=inClass (st 36) 0
noncomputable def Qg:Cn:=cn cls fld z3c ["self","holder","lease"] ["UNTIL"] [] []
theorem Qo:zf ((comp RU 60).s Qg) (z3 ke)=some kI:=by kernel_rfl
noncomputable def z23:List (Str×GM):=("Grant",GM.mk 42 false ji)::z3c
noncomputable def Jo:=st 37
noncomputable def UK:Cn:=cn cls fld z23 ["grant","first","until"] ["max","FIRST","min"] [] []
theorem z10:zf ((comp RU 60).s UK) (z3 Jo)=some JN:=by kernel_rfl
noncomputable def z3r:List (Str×GM):=("meets",GM.fn meets)::z23
noncomputable def qe:=st 38
noncomputable def uX:Cn:=cn cls fld z3r ["grants","moment","span","begin","grant"] ["sorted","meets"] [] [] (some (0,[⟨100,36,100,64⟩]))
theorem uY:zf ((comp RU 60).s uX) (z3 qe)=some ja:=by kernel_rfl
noncomputable def z3u:List (Str×GM):=("least_begin",GM.fn qG)::z3r
noncomputable def jc:=st 39
noncomputable def Z5:Cn:=cn cls fld z3u ["grants","moment","span","met","grant","house"] ["meets","HOUSE"] [] ["met"]
theorem uV:zf ((comp RU 60).s Z5) (z3 jc)=some j9:=by kernel_rfl
noncomputable def z2h:List (Str×GM):=("least_house",GM.fn wj)::z3u
noncomputable def j7:=inClass (st 40) 0
noncomputable def Z1:Cn:=cn cls fld z2h ["self","shape"] [] [] ["grants"]
theorem uT:zf ((comp RU 60).s Z1) (z3 j7)=some j8:=by kernel_rfl
noncomputable def z33:List (Str×GM):=("Common",GM.mk 43 false wa)::z2h
noncomputable def qV:=inClass (st 40) 2
noncomputable def jA:Cn:=cn cls fld z33 ["self","holder","house","moment","span"] ["is_holder","NoHolder","is_below","NoName","is_size","NoTime","is_whole"] [] []
theorem jk:zf ((comp RU 60).s jA) (z3 qV)=some qh:=by kernel_rfl
noncomputable def z2A:List (Str×GM):=(dot "check_let",GM.met 43 "check_let" q9)::z33
noncomputable def qY:=inClass (st 40) 4
noncomputable def jt:Cn:=cn cls fld z2A ["self","house"] [] ["house"] []
theorem jg:zf ((comp RU 60).s jt) (z3 qY)=some qR:=by kernel_rfl
noncomputable def z4c:List (Str×GM):=(dot "grants_of",GM.met 43 "grants_of" zZ)::z2A
noncomputable def qK:=inClass (st 40) 3
noncomputable def vX:Cn:=cn cls fld z4c ["self","house","moment","span","begin"] ["least_house","least_begin"] [] []
theorem vY:zf ((comp RU 60).s vX) (z3 qK)=some qI:=by kernel_rfl
noncomputable def z21:List (Str×GM):=(dot "free_lease",GM.met 43 "free_lease" zP)::z4c
noncomputable def jO:=inClass (st 40) 1
noncomputable def Q4:Cn:=cn cls fld z21 ["self","holder","house","moment","span","lease"] ["max","HOUSE","UNTIL","Ended","Grant"] [] []
theorem Qp:zf ((comp RU 60).s Q4) (z3 jO)=some kg:=by kernel_rfl
noncomputable def z1_:List (Str×GM):=(dot "let",GM.met 43 "let" qS)::z21
noncomputable def vJ:=inClass (st 40) 6
noncomputable def yi:Cn:=cn cls fld z1_ ["self","lease","grant"] ["check_lease","NoLease"] [] []
theorem ue:zf ((comp RU 60).s yi) (z3 vJ)=some vI:=by kernel_rfl
noncomputable def z20:List (Str×GM):=(dot "uncut",GM.met 43 "uncut" jC)::z1_
noncomputable def ko:=inClass (st 40) 5
noncomputable def QI:Cn:=cn cls fld z20 ["self","lease","used","grant","until"] ["FIRST","is_whole","UNTIL","NoTime"] [] []
theorem Qa:zf ((comp RU 60).s QI) (z3 ko)=some kc:=by kernel_rfl
noncomputable def z34:List (Str×GM):=(dot "cut",GM.met 43 "cut" Vh)::z20
noncomputable def yN:=st 42
noncomputable def Vz:Cn:=cn cls fld z34 ["shape","thing"] ["isinstance","tuple","len","is_holder","is_name"] [] []
theorem VS:zf ((comp RU 60).s Vz) (z3 yN)=some ui:=by kernel_rfl
noncomputable def z30:List (Str×GM):=("is_entry",GM.fn kF)::z34
noncomputable def jJ:=st 43
noncomputable def Qr:Cn:=cn cls fld z30 ["shape","thing"] ["isinstance","list","all","NoName"] ["shape"] []
theorem Z_:zf ((comp RU 60).s Qr) (z3 jJ)=some jD:=by kernel_rfl
noncomputable def z4q:List (Str×GM):=("check_book",GM.fn v5)::z30
noncomputable def Zl:=st 45
noncomputable def Kv:Cn:=cn cls fld z4q ["shape","thing"] ["isinstance","tuple","len","is_lease","is_below"] [] []
theorem KZ:zf ((comp RU 60).s Kv) (z3 Zl)=some ZI:=by kernel_rfl
noncomputable def z3_:List (Str×GM):=("is_note",GM.fn JH)::z4q
noncomputable def jY:=inClass (st 46) 0
noncomputable def Q6:Cn:=cn cls fld z3_ ["self","house","begin","end"] [] [] []
theorem ZV:zf ((comp RU 60).s Q6) (z3 jY)=some jI:=by kernel_rfl
noncomputable def z42:List (Str×GM):=("Batch",GM.mk 44 true jm)::z3_
noncomputable def ZQ:=st 47
noncomputable def Ka:Cn:=cn cls fld z42 ["shape","house","place"] ["name_of"] [] []
theorem JV:zf ((comp RU 60).s Ka) (z3 ZQ)=some ZD:=by kernel_rfl
noncomputable def z3U:List (Str×GM):=("name_at",GM.fn jH)::z42
noncomputable def wH:=st 48
noncomputable def kQ:Cn:=cn cls fld z3U ["shape","batch"] ["range"] ["shape","batch"] []
theorem xf:zf ((comp RU 60).s kQ) (z3 wH)=some wW:=by kernel_rfl
noncomputable def z49:List (Str×GM):=("names_of_batch",GM.fn qt)::z3U
noncomputable def xC:=st 49
noncomputable def Wl:Cn:=cn cls fld z49 ["batches"] ["sum"] [] []
theorem W5:zf ((comp RU 60).s Wl) (z3 xC)=some xD:=by kernel_rfl
noncomputable def z2l:List (Str×GM):=("size_of",GM.fn Zn)::z49
noncomputable def jd:=st 50
noncomputable def uQ:Cn:=cn cls fld z2l ["shape","house","name","parts"] ["parts_of"] [] []
theorem uO:zf ((comp RU 60).s uQ) (z3 jd)=some jb:=by kernel_rfl
noncomputable def z3f:List (Str×GM):=("place_above",GM.fn w8)::z2l
noncomputable def zv:=inClass (st 51) 0
noncomputable def Q5:Cn:=cn cls fld z3f ["self","shape","ahead","stride","keeper","note"] ["is_from_nought","NoTime","is_note","NoNote"] [] []
theorem Qn:zf ((comp RU 60).s Q5) (z3 zv)=some jV:=by kernel_rfl
noncomputable def z5A:List (Str×GM):=("House",GM.mk 45 false qx)::z3f
noncomputable def z1Y:List (Str×GM):=(til "House",GM.mkd 45 "House" 4 qx)::z5A
noncomputable def wy:=inClass (st 51) 8
noncomputable def kU:Cn:=cn cls fld z1Y ["self"] ["Fallen"] [] []
theorem kT:zf ((comp RU 60).s kU) (z3 wy)=some wx:=by kernel_rfl
noncomputable def z1L:List (Str×GM):=(dot "check_up",GM.met 45 "check_up" zS)::z1Y
noncomputable def jB:=inClass (st 51) 7
noncomputable def QF:Cn:=cn cls fld z1L ["self"] [] [] []
theorem Q3:zf ((comp RU 60).s QF) (z3 jB)=some kB:=by kernel_rfl
noncomputable def z2_:List (Str×GM):=(dot "note",GM.met 45 "note" vb)::z1L
noncomputable def kJ:=inClass (st 51) 15
noncomputable def Qx:Cn:=cn cls fld z2_ ["self","lease","mark"] [] [] []
theorem Qt:zf ((comp RU 60).s Qx) (z3 kJ)=some k6:=by kernel_rfl
noncomputable def z2i:List (Str×GM):=(dot "keep",GM.met 45 "keep" qT)::z2_
noncomputable def q_:=inClass (st 51) 1
noncomputable def jx:Cn:=cn cls fld z2i ["self","lease"] ["check_lease"] [] []
theorem jw:zf ((comp RU 60).s jx) (z3 q_)=some qU:=by kernel_rfl
noncomputable def z28:List (Str×GM):=(dot "take_lease",GM.met 45 "take_lease" zH)::z2i
noncomputable def ql:=inClass (st 51) 9
noncomputable def wD:Cn:=cn cls fld z28 ["self"] ["NoLease"] [] []
theorem wz:zf ((comp RU 60).s wD) (z3 ql)=some qk:=by kernel_rfl
noncomputable def z1P:List (Str×GM):=(dot "check_has_lease",GM.met 45 "check_has_lease" zN)::z28
noncomputable def qX:=inClass (st 51) 13
noncomputable def ju:Cn:=cn cls fld z1P ["self"] ["place_above","HOUSE"] [] []
theorem jy:zf ((comp RU 60).s ju) (z3 qX)=some qQ:=by kernel_rfl
noncomputable def z4u:List (Str×GM):=(dot "free_place",GM.met 45 "free_place" z_)::z1P
noncomputable def qZ:=inClass (st 51) 12
noncomputable def jh:Cn:=cn cls fld z4u ["self","reading","many","least","begin","end","by"] ["is_size","TooMany","is_whole","NoTime","max","FIRST","UNTIL","NoLease","Wait","Batch","HOUSE"] [] []
theorem jo:zf ((comp RU 60).s jh) (z3 qZ)=some qj:=by kernel_rfl
noncomputable def z3t:List (Str×GM):=(dot "next_batch",GM.met 45 "next_batch" qa)::z4u
noncomputable def qJ:=inClass (st 51) 14
noncomputable def j5:Cn:=cn cls fld z3t ["self","moment"] ["min"] [] []
theorem vZ:zf ((comp RU 60).s j5) (z3 qJ)=some qc:=by kernel_rfl
noncomputable def z4l:List (Str×GM):=(dot "mark_behind",GM.met 45 "mark_behind" zO)::z3t
noncomputable def wC:=inClass (st 51) 11
noncomputable def xv:Cn:=cn cls fld z4l ["self","reading","many","batch"] ["name_at"] [] []
theorem kY:zf ((comp RU 60).s xv) (z3 wC)=some wX:=by kernel_rfl
noncomputable def z4k:List (Str×GM):=(dot "hand_out",GM.met 45 "hand_out" zU)::z4l
noncomputable def zz:=inClass (st 51) 2
noncomputable def Wa:Cn:=cn cls fld z4k ["self","reading","many","batch"] ["names_of_batch"] [] []
theorem Wq:zf ((comp RU 60).s Wa) (z3 zz)=some xI:=by kernel_rfl
noncomputable def z4z:List (Str×GM):=(dot "ask",GM.met 45 "ask" qw)::z4k
noncomputable def z3o:List (Str×GM):=(til (dot "ask"),GM.metd 45 "ask" 1 (.int 1) qw)::z4z
noncomputable def zk:=inClass (st 51) 3
noncomputable def xU:Cn:=cn cls fld z3o ["self","reading","many","batch"] ["size_of"] [] []
theorem xS:zf ((comp RU 60).s xU) (z3 zk)=some vw:=by kernel_rfl
noncomputable def z4L:List (Str×GM):=(dot "store",GM.met 45 "store" wo)::z3o
noncomputable def z2z:List (Str×GM):=(til (dot "store"),GM.metd 45 "store" 1 (.int 1) wo)::z4L
noncomputable def kq:=inClass (st 51) 6
noncomputable def QL:Cn:=cn cls fld z2z ["self"] [] [] []
theorem QB:zf ((comp RU 60).s QL) (z3 kq)=some jE:=by kernel_rfl
noncomputable def z5F:List (Str×GM):=(dot "last",GM.met 45 "last" VY)::z2z
noncomputable def z3K:List (Str×GM):=("MOST_COUNTS",GM.cst (.int 20))::z5F
noncomputable def ki:=st 54
noncomputable def QD:Cn:=cn cls fld z3K ["thing"] ["isinstance","tuple","len","str"] [] []
theorem Qw:zf ((comp RU 60).s QD) (z3 ki)=some jS:=by kernel_rfl
noncomputable def z40:List (Str×GM):=("is_run_row",GM.fn vc)::z3K
noncomputable def vH:=st 55
noncomputable def yj:Cn:=cn cls fld z40 ["thing"] ["isinstance","list","all"] [] []
theorem uA:zf ((comp RU 60).s yj) (z3 vH)=some vG:=by kernel_rfl
noncomputable def z4j:List (Str×GM):=("are_run_rows",GM.fn qO)::z40
noncomputable def u5:=st 57
noncomputable def VI:Cn:=cn cls fld z4j ["houses","shape","holder"] ["is_holder","NoHolder","House","forget"] [] []
theorem V5:zf ((comp RU 60).s VI) (z3 u5)=some yF:=by kernel_rfl
noncomputable def z2C:List (Str×GM):=("house_of",GM.fn vA)::z4j
noncomputable def QW:=st 58
noncomputable def X9:Cn:=cn cls fld z2C ["shape","rows","common","houses","told","row","holder","house"] ["are_run_rows","NoRow","Common","house_of"] ["holder"] ["houses","told"]
theorem U4:zf ((comp RU 60).s X9) (z3 QW)=some WG:=by kernel_rfl
noncomputable def z3z:List (Str×GM):=("played",GM.fn yq)::z2C
noncomputable def yz:=st 61
noncomputable def Vf:Cn:=cn cls fld z3z ["given","rows","lasts","row","holder","moment","house","many","last"] [] [] ["rows","lasts"]
theorem V6:zf ((comp RU 60).s Vf) (z3 yz)=some uH:=by kernel_rfl
noncomputable def z2a:List (Str×GM):=("run_of",GM.fn kG)::z3z
noncomputable def wQ:=st 60
noncomputable def xn:Cn:=cn cls fld z2a ["one","other"] [] [] []
theorem xc:zf ((comp RU 60).s xn) (z3 wQ)=some wK:=by kernel_rfl
noncomputable def z41:List (Str×GM):=("stand_together",GM.fn qr)::z2a
noncomputable def Zf:=st 59
noncomputable def KN:Cn:=cn cls fld z41 ["shape","book","given","other","one"] ["MOST_COUNTS","NoShape","check_book","range","len","stand_together","run_of"] ["shape"] []
theorem K7:zf ((comp RU 60).s KN) (z3 Zf)=some ZK:=by kernel_rfl
noncomputable def z1X:List (Str×GM):=("judge",GM.fn qN)::z41
noncomputable def xG:=st 63
noncomputable def WM:Cn:=cn cls fld z1X ["_law_script","_law_k"] ["len"] [] []
theorem Wn:zf ((comp RU 60).s WM) (z3 xG)=some xy:=by kernel_rfl
noncomputable def z2S:List (Str×GM):=("_law_cell_at",GM.fn vQ)::z1X
noncomputable def Wz:=st 64
noncomputable def Yk:Cn:=cn cls fld z2S ["_law_cell","_law_k","_law_number"] [] [] []
theorem YD:zf ((comp RU 60).s Yk) (z3 Wz)=some yn:=by kernel_rfl
noncomputable def z4i:List (Str×GM):=("_law_draw",GM.fn zR)::z2S
noncomputable def Jn:=st 65
noncomputable def UT:Cn:=cn cls fld z4i ["_law_cell","_law_k","_law_most","_law_found","_law_j"] ["range","_law_draw"] [] []
theorem z17:zf ((comp RU 60).s UT) (z3 Jn)=some Jx:=by kernel_rfl
noncomputable def z4w:List (Str×GM):=("_law_far",GM.fn WA)::z4i
noncomputable def uv:=st 66
noncomputable def VD:Cn:=cn cls fld z4w ["_law_book_here","_law_given","_law_at","_law_row"] ["len"] [] []
theorem Vn:zf ((comp RU 60).s VD) (z3 uv)=some yx:=by kernel_rfl
noncomputable def z1S:List (Str×GM):=("_law_within",GM.fn qq)::z4w
noncomputable def kf:=st 67
noncomputable def Qz:Cn:=cn cls fld z1S ["_law_shape","_law_book_here","_law_found"] ["isinstance","tuple","len","list","_law_within","played"] [] []
theorem ZW:zf ((comp RU 60).s Qz) (z3 kf)=some ku:=by kernel_rfl
noncomputable def z3P:List (Str×GM):=("_law_is_right",GM.fn zE)::z1S
noncomputable def u7:=st 68
noncomputable def Vc:Cn:=cn cls fld z3P ["_law_shape","_law_far_here","_law_many","_law_holders","_law_cells","_law_book_here","_law_last","_law_cell","_law_holder","_law_moment","_law_name","_law_most"] ["_law_draw","name_of","min"] [] ["_law_book_here","_law_last","return"]
theorem Vv:zf ((comp RU 60).s Vc) (z3 u7)=some um:=by kernel_rfl
noncomputable def z47:List (Str×GM):=("_law_book",GM.fn wN)::z3P
noncomputable def vK:=st 69
noncomputable def uo:Cn:=cn cls fld z47 ["_law_shape","_law_book_here","_law_found","_law_one","_law_other","_law_k","_law_ahead"] ["len","judge","range","_law_is_right","_law_within","played"] [] []
theorem yw:zf ((comp RU 60).s uo) (z3 vK)=some vz:=by kernel_rfl
noncomputable def z5e:List (Str×GM):=("_law_wrong_pair",GM.fn qM)::z47
noncomputable def qm:=st 70
noncomputable def Kr:Cn:=cn cls fld z5e ["_law_script","_law_first","_law_far_here","_law_many","_law_shape","_law_book_here","_law_found"] ["_law_cell_at","_law_far","_law_draw","Shape","_law_book","judge","list","isinstance","tuple","len","_law_is_right","_law_wrong_pair"] [] []
theorem X1:zf ((comp RU 60).s Kr) (z3 qm)=some Zg:=by kernel_rfl
end NH.K77
end
section
namespace NH
open PySem PySem.Spec PyProof.Rows L2 PySem.W
noncomputable def zM (K:Frag)(x:Str)(st:Stmt):Prop:=∃f fd,nsIn K mainGlobals x=some (some (.ref f))/\Fun K x x st f fd
noncomputable def vx (K:Frag)(C:Addr)(x q:Str)(st:Stmt):Prop:=∃f fd,findIn K (.ref C) x=some (some (.ref f))/\isFn K (.ref f)=true/\Fun K x q st f fd
noncomputable def KH (K:Frag)(C:Addr)(x q:Str)(st:Stmt):Prop:=∃f fd,nsIn K mainGlobals x=some (some (.ref C))/\findIn K (.ref C) "__init__"=some (some (.ref f))/\isFn K (.ref f)=true/\Fun K "__init__" q st f fd/\makesIn K C=true/\keepIn K (.ref C)=true
theorem dfp{K:Frag}{x:Str}{st:Stmt}{f:Addr}{oc:Value}{od an:Option Addr}{osl:Array (Option Value)}{kV doc pm cdv ct:Value}(a:nsIn K mainGlobals x=some (some (.ref f)))(l:K.lookup f=some ⟨oc,od,.func (fnOf x x (zt st) (z3 st) (ze st) .none kV doc pm an cdv ct),osl⟩)(c:codeIn K cdv x=true)(k:keepIn K (.ref f)=true):zM K x st:=⟨f,_,a,jj l c k⟩
theorem mtp{K:Frag}{x q:Str}{st:Stmt}{f C:Addr}{oc:Value}{od an:Option Addr}{osl:Array (Option Value)}{kV doc pm cdv ct:Value}(a:findIn K (.ref C) x=some (some (.ref f)))(j:isFn K (.ref f)=true)(l:K.lookup f=some ⟨oc,od,.func (fnOf x q (zt st) (z3 st) (ze st) .none kV doc pm an cdv ct),osl⟩)(c:codeIn K cdv q=true)(k:keepIn K (.ref f)=true):vx K C x q st:=⟨f,_,a,j,jj l c k⟩
theorem clp {K:Frag} {x q:Str} {st:Stmt} {f C:Addr} {oc:Value} {od an:Option Addr} {osl:Array (Option Value)} {kV doc pm cdv ct:Value} (a:nsIn K mainGlobals x=some (some (.ref C))) (i:findIn K (.ref C) "__init__"=some (some (.ref f))) (j:isFn K (.ref f)=true) (l:K.lookup f=some ⟨oc,od,.func (fnOf "__init__" q (zt st) (z3 st) (ze st) .none kV doc pm an cdv ct),osl⟩) (c:codeIn K cdv q=true) (k:keepIn K (.ref f)=true) (m:makesIn K C=true) (kk:keepIn K (.ref C)=true):KH K C x q st:=⟨f,_,a,i,j,jj l c k,m,kk⟩
noncomputable def PL:Nat->(List Value->Prop)->Prop
 |0,P=>P []
 |n+1,P=>∀a,PL n λl=>P (a::l)
theorem PL.all:∀{n:Nat} {P:List Value->Prop},PL n P->∀us:List Value,us.length=n->P us
 |0,_,h,[],_=>h
 |_+1,_,h,a::l,e=>PL.all (h a) l (Nat.succ.inj e)
abbrev BdP(x q:Str)(st:Stmt)(ps:List Str):Prop:=∀(kV doc pm:Value) (an:Option Addr) (cdv ct:Value),PL ps.length λus=>bindArgs (fnOf x q (zt st) (z3 st) (ze st) .none kV doc pm an cdv ct) ⟨us,[]⟩=pure (ps.zip us)
structure Pk(R:Rules)(K:Frag)(mg:Str->Option Value)(base:Heap)(A:Ads)(cls fld:List (Str×Nat)):Prop where
 r:∀{D},RulesOk D R
 i:K.In base
 n:base.Ns mainGlobals mg
 c:chk K A cls fld=true
section
variable {R:Rules}{P:Program}{w:World}{K:Frag}{mg:Str->Option Value}{base:Heap}{A:Ads}{cls fld:List (Str×Nat)}{clo:Nat->Addr->Option HO->List V->Prop}{gs:List (Str×GM)}{tabs:Nat->Option (Addr×List Pos×Str)}{k:Nat}{x qu:Str}{st:Stmt}{f C:Addr}{fd:FuncData}{ps N G cel own:List Str}{m n:Nat}{ds:List Ds}
theorem Pk.ok(Z:Pk R K mg base A cls fld)(F:Fun K x qu st f fd)(q:GsOk P w K mg base A clo k gs tabs)(hds:zf ((comp R n).s (cn cls fld gs N G cel own none)) (z3 st)=some ds)(hs:xR (cn cls fld gs N G cel own none) ps (ze st)=true)(hm:N.length=ps.length+m) :
  FnOk P w K mg base (CX1 P w) (k+1) f fd ps (spN (mkD K A clo tabs) ps.length (fnW ps.length m ds)):=by
 obtain⟨oc,od,kV,doc,pm,an,cdv,ct,osl,rfl,lk,hcd⟩:=F.ex
 exact vg Z.r (yG Z.i Z.n Z.c q) lk hcd hs hm hds
theorem Pk.fn (Z:Pk R K mg base A cls fld) (p:zM K x st) (q:GsOk P w K mg base A clo k gs tabs) (hds:zf ((comp R n).s (cn cls fld gs N G cel own none)) (z3 st)=some ds) (hs:xR (cn cls fld gs N G cel own none) ps (ze st)=true) (hm:N.length=ps.length+m) (hb:BdP x x st ps) (hx:(x == ("__debug__":Str))=false) :
  GsOk P w K mg base A clo (k+1) ((x,GM.fn (fnW ps.length m ds))::gs) tabs:=by
 obtain⟨f,fd,a,F⟩:=p
 exact GsOk.add (q.mono (Nat.le_succ k)) ⟨f,mg_of Z.i Z.n a,fd,ps,k+1,F.kp,F.binds λkV dc pm an cd ct=>(hb kV dc pm an cd ct).all,Nat.le_refl _,Z.ok F q hds hs hm,qv⟩ hx
theorem Pk.met {c:Nat} (Z:Pk R K mg base A cls fld) (p:vx K C x qu st) (q:GsOk P w K mg base A clo k gs tabs) (hds:zf ((comp R n).s (cn cls fld gs N G cel own none)) (z3 st)=some ds) (hc:A.cs.lookup c=some C) (hn:(FLD.contains x)=false) (hs:xR (cn cls fld gs N G cel own none) ps (ze st)=true) (hm:N.length=ps.length+m) (hb:BdP x qu st ps) (hx:(dot x == ("__debug__":Str))=false) :
  GsOk P w K mg base A clo (k+1) ((dot x,GM.met c x (fnW ps.length m ds))::gs) tabs:=by
 obtain⟨f,fd,i,j,F⟩:=p
 refine GsOk.add (q.mono (Nat.le_succ k)) ⟨C,f,fd,ps,k+1,hc,yM Z.c hc,⟨i,j,F.kp⟩,λi h=>?_,F.binds λkV dc pm an cd ct=>(hb kV dc pm an cd ct).all,Nat.le_refl _,Z.ok F q hds hs hm,qv⟩ hx
 have:=List.contains_iff_mem.mpr (List.mem_of_getElem? (show FLD[i]?=some x from h))
 rw[hn] at this;cases this
theorem Pk.cl {c:Nat} {b:Bool} (Z:Pk R K mg base A cls fld) (p:KH K C x qu st) (q:GsOk P w K mg base A clo k gs tabs) (hds:zf ((comp R n).s (cn cls fld gs N G cel own none)) (z3 st)=some ds) (hc:A.cs.lookup c=some C) (hs:xR (cn cls fld gs N G cel own none) ps (ze st)=true) (hm:N.length=ps.length+m) (hb:BdP "__init__" qu st ps) (hx:(x == ("__debug__":Str))=false) :
  GsOk P w K mg base A clo (k+2) ((x,GM.mk c b (fnW ps.length m ds))::gs) tabs:=by
 obtain⟨f,fd,a,i,j,F,mk,kk⟩:=p
 exact GsOk.add (q.mono (Nat.le_add_right k 2)) ⟨C,f,fd,ps,k+1,hc,mg_of Z.i Z.n a,⟨mk,i,j,kk⟩,F.binds λkV dc pm an cd ct=>(hb kV dc pm an cd ct).all,Nat.le_refl _,Z.ok F q hds hs hm,qv⟩ hx
end
end NH
end
section
namespace NH
open PySem PySem.Spec PyProof.Rows L2
theorem zK{p:Prop}{i:Decidable p}{A B:Prop}(h1:p->A)(h2:¬p->B):brW (decide p) A B:=by
 cases i with
 |isTrue h=>exact h1 h
 |isFalse h=>exact h2 h
theorem QC{p:Prop}{i:Decidable p}{A B:Prop}(h:p)(a:A):brW (decide p) A B:=zK (λ_=>a) λn=>absurd h n
theorem VW{p:Prop}{i:Decidable p}{A B:Prop}(h:¬p)(b:B):brW (decide p) A B:=zK (λy=>absurd y h) λ_=>b
theorem Jm{p:Prop}{i:Decidable p}{A B:Prop}(h1:p->B)(h2:¬p->A):brW (!decide p) A B:=by
 cases i with
 |isTrue h=>exact h1 h
 |isFalse h=>exact h2 h
theorem JC{p:Prop}{i:Decidable p}{A B:Prop}(h:p)(b:B):brW (!decide p) A B:=Jm (λ_=>b) λn=>absurd h n
theorem qF{b:Bool}{A B:Prop}(h1:b=true->A)(h2:b=false->B):brW b A B:=by
 cases b with
 |true=>exact h1 rfl
 |false=>exact h2 rfl
theorem z68{b:Bool}{A B:Prop}(h:b=true)(a:A):brW b A B:=by rw[h];exact a
theorem z3T{b:Bool}{A B:Prop}(h:b=false)(a:B):brW b A B:=by rw[h];exact a
theorem VZ{tg:Tg}{g:Sl->Mem->RE (Option T)}{lv:Mem->Prop}{τ:Sl}{μ:Mem}{Z:Xp}(f:T->Option T){xs:List T}{K:List T->Mem->Prop}
  (h:∀x∈xs,∀k:Option T->Mem->Prop,k (f x) μ->∃τ',asg tg x τ=some τ'/\g τ' μ k Z) (k:K (xs.filterMap f) μ) (hl:lv μ:=by trivial):zA tg g lv τ xs μ K Z:=by
 induction xs generalizing K with
 |nil=>exact k
 |cons x r ih=>
  unfold zA
  obtain⟨τ',e,hg⟩:=h x List.mem_cons_self (λo μ1=>lv μ1/\(match o with
   |some y=>(zA tg g lv τ r μ1).bind λys μ2=>RE.ok (y::ys) μ2
   |none=>zA tg g lv τ r μ1) K Z) (by
    refine⟨hl,?_⟩
    cases q:f x with
    |none=>
     rw[List.filterMap_cons_none q] at k
     exact ih (λy hy=>h y (List.mem_cons_of_mem _ hy)) k
    |some y=>
     rw[List.filterMap_cons_some q] at k
     exact ih (K:=λys μ2=>K (y::ys) μ2) (λy hy=>h y (List.mem_cons_of_mem _ hy)) k)
  exact⟨τ',e,hg⟩
theorem Zi{tg:Tg}{g:Sl->Mem->RE (Option T)}{lv:Mem->Prop}{τ:Sl}{μ:Mem}{Z:Xp}(f:T->T){xs:List T}{K:List T->Mem->Prop}
  (h:∀x∈xs,∀k:Option T->Mem->Prop,k (some (f x)) μ->∃τ',asg tg x τ=some τ'/\g τ' μ k Z) (k:K (xs.map f) μ) (hl:lv μ:=by trivial):zA tg g lv τ xs μ K Z:=
 VZ (λx=>some (f x)) h (by rw[List.filterMap_eq_map'];exact k) hl
theorem zT{tg:Tg}{body:Ds}{lv:Mem->Prop}{xs:List T}{τ:Sl}{μ:Mem}{E:En}(I:Nat->Sl->Mem->Prop)(h0:I 0 τ μ)
  (h:∀i x τ μ,xs[i]?=some x->I i τ μ->∀N:Sl->Mem->Prop,(∀τ μ,I (i+1) τ μ->N τ μ)->∃τ',asg tg x τ=some τ'/\body τ' μ (E.turn N))
  (k:∀τ μ,I xs.length τ μ->E.nx τ μ) (hl:∀i τ μ,I i τ μ->lv μ:=by intros;trivial):forM tg body lv xs τ μ E:=by
 have go:∀(rest:List T) (i:Nat) (τ:Sl) (μ:Mem),xs.drop i=rest->i<=xs.length->I i τ μ->forM tg body lv rest τ μ E:=by
  intro rest
  induction rest with
  |nil=>
   intro i τ μ hd hi hI
   have:i=xs.length:=by
    have:=congrArg List.length hd
    simp at this;omega
   subst this
   exact k τ μ hI
  |cons x r ih=>
   intro i τ μ hd hi hI
   have hx:xs[i]?=some x:=by
    have:(xs.drop i)[0]?=some x:=by rw[hd];rfl
    simpa using this
   have hlt:i<xs.length:=(List.getElem?_eq_some_iff.mp hx).1
   have hd':xs.drop (i+1)=r:=by
    have:(xs.drop i).tail=r:=by rw[hd];rfl
    simpa using this
   exact h i x τ μ hx hI _ λτ2 μ2 z=>⟨hl _ _ _ z,ih (i+1) τ2 μ2 hd' hlt z⟩
 exact go xs 0 τ μ rfl (Nat.zero_le _) h0
theorem KY{c:Dt}{body:List Ds}{τ:Sl}{μ:Mem}{E:En}(I:Nat->Sl->Mem->Prop)(n:Nat)(h0:I n τ μ)
  (h:∀n τ μ,I n τ μ->∀N:Sl->Mem->Prop,(∀m τ μ,m<n->I m τ μ->N τ μ)->c τ μ (λb μ1=>brW b (w4 body τ μ1 (E.turn N)) (E.nx τ μ1)) (λk fs μ1=>E.ex k fs τ μ1)):Qk c body τ μ E:=
 ⟨I,⟨n,h0⟩,λn τ μ hI=>h n τ μ hI _ λm τ μ hm hi=>⟨m,hm,hi⟩⟩
end NH
end
section
namespace NH.P
open PySem L2 NH
variable {μ:Mem}{K:T->Mem->Prop}{Z:Xp}
theorem zB{i:Int}(k:K (.bl true) μ):qg [.int i] μ K Z:=⟨rfl,k⟩
noncomputable def z59(n:Int):Int:=n * (n / 1009+69621) % 2147483647
noncomputable def z3n(n:Int):Int:=n * (n / 2003+40692) % 2147483399
noncomputable def vN(c k:Int):Int:=
 if c % 2=0/\0<c / 2 ^ (1+31 * k).toNat then c / 2 ^ (1+31 * k).toNat % 2147483648
 else z3n (z59 ((c+7919 * k+1) % 2147483647 * 48271 % 2147483647))
theorem Y1{c k:Int}:0<=vN c k/\vN c k<2147483648:=by
 unfold vN
 split
 ·omega
 ·unfold z3n;omega
theorem xb{c k:Int}(hk:0<=k)(q:K (.int (vN c k)) μ):zR [.int c,.int k] μ K Z:=by
 unfold zR
 refine⟨rfl,?_⟩
 unfold vN at q
 refine⟨by decide,?_⟩
 have last:K (.int (z3n (z59 ((c+7919 * k+1) % 2147483647 * 48271 % 2147483647)))) μ->w4 (yn.drop 1) [some (.int c),some (.int k),none] μ (En.fn K Z):=λq=>by
  refine⟨.inl (by decide),by decide,.inr (by decide),by decide,by decide,.inl (by simp only[big];omega),by decide,?_⟩
  exact⟨by decide,.inl (by simp only[big];omega),by decide,q⟩
 refine zK (λh=>?_) (λh=>?_)
 ·refine⟨.inl (by decide),by omega,?_⟩
  refine zK (λh2=>?_) (λh2=>?_)
  ·rw[if_pos ⟨h,h2⟩] at q
   exact⟨.inl (by decide),by omega,by decide,q⟩
  ·rw[if_neg λz=>h2 z.2] at q
   exact last q
 ·rw[if_neg λz=>h z.1] at q
  exact last q
noncomputable def YS (c k:Int)(n:Nat):Int:=(List.range n).foldl (λ(v:Int) (j:Nat)=>v * 2147483648+vN c (k+j)) 0
theorem Kw{c k:Int}{n:Nat}:YS c k (n+1)=YS c k n * 2147483648+vN c (k+n):=by
 unfold YS
 rw[List.range_succ,List.foldl_append]
 rfl
noncomputable def z2M (c k m:Int):Int:=YS c k 5 % m
theorem vm{n:Int}{i:Nat}{x:T}(h:(rangeT n)[i]?=some x):x=.int i/\(i:Int)<n:=by
 unfold rangeT at h
 rw[List.getElem?_map] at h
 cases q:(List.range n.toNat)[i]? with
 |none=>rw[q] at h;cases h
 |some j=>
  rw[q] at h
  obtain⟨hl,e⟩:=List.getElem?_eq_some_iff.mp q
  have e:i=j:=by simpa using e
  subst e
  cases h
  simp at hl
  exact⟨rfl,by omega⟩
theorem u4{n:Int}:(rangeT n).length=n.toNat:=by simp[rangeT]
theorem WB{c k m:Int}(hk:0<=k)(hm:0<m)(q:K (.int (z2M c k m)) μ):WA [.int c,.int k,.int m] μ K Z:=by
 unfold WA
 refine⟨rfl,?_⟩
 refine⟨by decide,?_⟩
 refine zT (λi τ μ'=>μ'=μ/\∃o,τ=[some (.int c),some (.int k),some (.int m),some (.int (YS c k i)),o]) ⟨rfl,none,rfl⟩ ?_ ?_
 ·rintro i x τ _ hx ⟨rfl,o,rfl⟩ N hN
  obtain⟨rfl,hi⟩:=vm hx
  refine⟨_,rfl,.inr (by decide),?_⟩
  refine xb (by omega) ?_
  exact hN _ _ ⟨rfl,some (.int i),by rw[Kw];rfl⟩
 ·rintro τ _ ⟨rfl,o,rfl⟩
  exact⟨hm,q⟩
noncomputable def isL(z:Str):Bool:=!(Builtin.Str.occurrences "abcdefghijklmnopqrstuvwxyz" z 0 (Str.length "abcdefghijklmnopqrstuvwxyz") 1).isEmpty
noncomputable def sgn(z:Str):List Str:=z.cps.toList.map λc=>⟨#[c]⟩
theorem KA(z:Str):yg z=(sgn z).map T.str:=by simp[yg,sgn]
theorem z0U(z:Str):(sgn z).length=z.length:=by simp[sgn,Str.length]
noncomputable def wY(z:Str):Bool:=decide (1<=(z.length:Int))&&decide ((z.length:Int)<=8)&&(sgn z).all isL
theorem vO{α:Type}(f:α->Bool):∀xs:List α,bools (xs.map λx=>T.bl (f x))=some (xs.map f)
 |[]=>rfl
 |x::r=>by simp[bools,vO f r]
theorem uZ{z:Str}(hz:z.length<=room)(q:K (.bl (wY z)) μ):qy [.str z] μ K Z:=by
 unfold qy
 refine⟨rfl,?_⟩
 unfold wY at q
 refine⟨hz,?_⟩
 refine zK (λh1=>?_) (λh1=>?_)
 ·refine Jm (λh2=>?_) (λh2=>?_)
  ·show (yg z).length<=room/\_
   rw[KA]
   refine⟨by rw[List.length_map,z0U];exact hz,?_⟩
   refine Zi (λx=>match x with|.str y=>.bl (isL y)|t=>t) (λx hx k hk=>?_) ?_
   ·obtain⟨y,hy,rfl⟩:=List.mem_map.mp hx
    exact⟨_,rfl,hk⟩
   ·rw[List.map_map]
    refine⟨_,vO isL (sgn z),?_⟩
    rw[decide_eq_true h1,decide_eq_true h2] at q
    rw[List.all_map]
    exact q
  ·have q:K (.bl false) μ:=by simpa[h2] using q
   exact q
 ·have q:K (.bl false) μ:=by simpa[h1] using q
  exact q
theorem vM{z:Str}{b:Bool}(hz:z.length<=room)(h:wY z=b)(q:K (.bl b) μ):qy [.str z] μ K Z:=uZ hz (by rw[h];exact q)
theorem Xm{α:Type}{xs:List α}{k:Int}(h0:0<=k)(h1:k<xs.length):xa xs k=xs[k.toNat]?:=by
 unfold xa Y5
 rw[if_pos h0,if_pos h1]
 rfl
end NH.P
end
section
namespace NH.P
open PySem L2 NH
variable {μ μ1 μ2:Mem}{K:T->Mem->Prop}{Z:Xp}
theorem get_set{i:Nat}{x y:MO}(h:μ[i]?=some x):(μ.set i y)[i]?=some y:=by
 have:=(List.getElem?_eq_some_iff.mp h).1
 simp[this]
theorem zx{x:MO}:(μ++[x])[μ.length]?=some x:=by rw[List.getElem?_append_right (Nat.le_refl _)];simp
theorem zw{i:Nat}{x o:MO}(h:μ[i]?=some o):(μ++[x])[i]?=some o:=by
 rw[List.getElem?_append_left (List.getElem?_eq_some_iff.mp h).1];exact h
noncomputable abbrev shp(x y z:Int):T:=.obj 40 [(0,.int x),(1,.int y),(2,.int z)]
theorem qE{n:Int}(k:K (.bl (decide (1<=n))) μ):w6 [.int n] μ K Z:=by
 unfold w6
 refine⟨rfl,?_⟩
 refine zB ?_
 exact k
theorem Z3{x y z:Int}(hx:1<=x)(hy:1<=y)(hz:1<=z)(q:K .non [.obj 40 [(0,.int x),(1,.int y),(2,.int z)]]):vk [.mut 0,.int x,.int y,.int z] [.obj 40 []] K Z:=by
 unfold vk
 refine⟨rfl,?_⟩
 refine qE ?_
 refine QC hx ?_
 refine qE ?_
 refine QC hy ?_
 refine qE ?_
 refine JC hz ?_
 refine⟨_,_,rfl,by decide,?_⟩
 refine⟨_,_,rfl,(by (show (1:Nat)<900);decide),?_⟩
 refine⟨_,_,rfl,(by (show (2:Nat)<900);decide),?_⟩
 exact q
end NH.P
end
section
namespace NH.P
open PySem L2 NH
variable {μ μ1 μ2:Mem}{K:T->Mem->Prop}{Z:Xp}
theorem ZS{ns:List Int}{k:Int}(hk:0<=k)(q:∀c,K (.int c) μ):vQ [.lst (ns.map T.int),.int k] μ K Z:=by
 unfold vQ
 refine⟨rfl,?_⟩
 refine zK (λh=>?_) (λh=>?_)
 ·have hl:k.toNat<ns.length:=by
   rw[List.length_map] at h;omega
  refine⟨.int ns[k.toNat],?_,q _⟩
  rw[Xm hk h,List.getElem?_map,List.getElem?_eq_getElem hl]
  rfl
 ·exact q _
end NH.P
end
section
namespace NH.P
open PySem L2 NH
variable {μ μ1 μ2:Mem}{K:T->Mem->Prop}{Z:Xp}
theorem Vw{tg:Tg}{g:Sl->Mem->RE (Option T)}{lv:Mem->Prop}{τ:Sl}{x:T}{r:List T}{K:List T->Mem->Prop}(h:∃τ',asg tg x τ=some τ'/\g τ' μ (λo μ1=>lv μ1/\(match o with
  |some y=>zA tg g lv τ r μ1 (λys μ2=>K (y::ys) μ2) Z
  |none=>zA tg g lv τ r μ1 K Z)) Z):zA tg g lv τ (x::r) μ K Z:=by
 obtain⟨τ',e,h⟩:=h
 unfold zA
 refine⟨τ',e,?_⟩
 have:(λ(o:Option T) μ1=>lv μ1/\(match o with
  |some y=>zA tg g lv τ r μ1 (λys μ2=>K (y::ys) μ2) Z
  |none=>zA tg g lv τ r μ1 K Z))=λo μ1=>lv μ1/\(match o with
   |some y=>(zA tg g lv τ r μ1).bind λys μ2=>RE.ok (y::ys) μ2
   |none=>zA tg g lv τ r μ1) K Z:=by
  funext o μ1
  cases o<;>rfl
 rw[this] at h
 exact h
theorem K5{tg:Tg}{g:Sl->Mem->RE (Option T)}{lv:Mem->Prop}{τ:Sl}{K:List T->Mem->Prop}(h:K [] μ):zA tg g lv τ [] μ K Z:=by
 unfold zA
 exact h
structure Sy(y z:Int):Prop where
 y1:1<=y
 y2:y<=10000000000
 z1:1<=z
 z2:z<=10000000000
theorem QU{x y z:Int}(s:Sy y z)(q:K (.int (x * y * z)) μ):j_ [shp x y z] μ K Z:=by
 obtain⟨y1,y2,z1,z2⟩:=s
 unfold j_
 refine⟨rfl,?_⟩
 exact⟨.inr ⟨by unfold big;omega,by unfold big;omega⟩,.inr ⟨by unfold big;omega,by unfold big;omega⟩,q⟩
theorem xA{x y z n:Int}{b:Bool}(s:Sy y z)(hb:(decide (0<=n)&&decide (n<x * y * z))=b)(q:K (.bl b) μ):vU [shp x y z,.int n] μ K Z:=by
 subst hb
 unfold vU
 refine⟨rfl,?_⟩
 refine QU s ?_
 unfold qf
 refine⟨rfl,?_⟩
 refine zB ?_
 refine zK (λh=>?_) (λh=>?_)
 ·have q:K (.bl (decide (n<x * y * z))) μ:=by simpa[h] using q
  exact q
 ·have q:K (.bl false) μ:=by simpa[h] using q
  exact q
noncomputable def Ent (sh t:T)(b:Bool):Prop:=∀(μ:Mem) (K:T->Mem->Prop) (Z:Xp),K (.bl b) μ->kF [sh,t] μ K Z
theorem Yr{x y z:Int}{a:Str}{t:T}{ha b:Bool}(hl:a.length<=room)(h1:wY a=ha)(hn:∀(μ:Mem) (K:T->Mem->Prop) (Z:Xp),K (.bl b) μ->vU [shp x y z,t] μ K Z):Ent (shp x y z) (.tup [.str a,t]) (ha&&b):=by
 intro μ K Z q
 unfold kF
 refine⟨rfl,?_⟩
 refine⟨_,rfl,?_⟩
 refine vM hl h1 ?_
 cases ha with
 |false=>exact q
 |true=>exact⟨_,rfl,hn _ _ _ q⟩
theorem all_map{α:Type}(g:α->Bool)(xs:List α):bools (xs.map λx=>T.bl (g x))=some (xs.map g):=vO g xs
theorem ym{sh:T}{ts:List T}(g:T->Bool)(hg:∀t∈ts,Ent sh t (g t))(hl:ts.length<=100)(h0:ts.all g=true)(q:K .non μ):v5 [sh,.lst ts] μ K Z:=by
 unfold v5
 refine⟨rfl,?_⟩
 refine⟨Nat.le_trans hl (by decide),?_⟩
 refine Zi (λt=>.bl (g t)) (λt ht k hk=>⟨_,rfl,hg t ht _ _ _ hk⟩) ?_
 refine⟨_,all_map g ts,?_⟩
 refine z3T (by rw[List.all_map,Function.id_comp,h0];rfl) ?_
 exact q
theorem uR{x y z n:Int}(s:Sy y z)(h:(decide (0<=n)&&decide (n<x * y * z))=true)(q:K .non μ):ve [shp x y z,.int n] μ K Z:=by
 unfold ve
 refine⟨rfl,?_⟩
 refine xA s h ?_
 exact q
end NH.P
end
section
namespace NH.P
open PySem L2 NH
variable {μ μ1 μ2:Mem}{K:T->Mem->Prop}{Z:Xp}
structure Gr where
 ho:Str
 h:Int
 f:Int
 u0:Int
 u:Int
 ct:Bool
noncomputable def Gr.L(G:Gr):T:=.tup [.int G.h,.int G.f,.int G.u0]
noncomputable def Gr.O (G:Gr):MO:=.obj 42 [(5,.str G.ho),(6,G.L),(7,.int G.u),(8,.bl G.ct)]
noncomputable abbrev Gp:=Nat×Gr
noncomputable abbrev Gp.t(p:Gp):T:=.mut p.1
structure Bk(μ:Mem)(c g:Nat)(sh:T)(ps:List Gp):Prop where
 com:μ[c]?=some (.obj 43 [(9,sh),(10,.mut g)])
 lst:μ[g]?=some (.lst (ps.map Gp.t))
 at_:∀p∈ps,μ[p.1]?=some p.2.O
 nd:(ps.map (·.1)).Nodup
structure Ch(S:List Nat)(μ μ':Mem):Prop where
 len:μ.length<=μ'.length
 ot:∀i,i<μ.length->i∉S->μ'[i]?=μ[i]?
theorem Ch.refl{S:List Nat}:Ch S μ μ:=⟨Nat.le_refl _,λ_ _ _=>rfl⟩
theorem Ch.trans{S:List Nat}(a:Ch S μ μ1)(b:Ch S μ1 μ2):Ch S μ μ2:=⟨Nat.le_trans a.len b.len,λi h n=>(b.ot i (Nat.lt_of_lt_of_le h a.len) n).trans (a.ot i h n)⟩
theorem Ch.mono{S S':List Nat}(a:Ch S μ μ1)(h:∀x∈S,x∈S'):Ch S' μ μ1:=⟨a.len,λi hi n=>a.ot i hi λz=>n (h i z)⟩
theorem Ch.app{x:MO}:Ch [] μ (μ++[x]):=⟨by simp,λi h _=>List.getElem?_append_left h⟩
theorem Ch.set{i:Nat}{x:MO}:Ch [i] μ (μ.set i x):=⟨by simp,λj h n=>by rw[List.getElem?_set_ne];rintro rfl;exact n (by simp)⟩
theorem Ch.get{S:List Nat}{i:Nat}{x:MO}(a:Ch S μ μ1)(h:μ[i]?=some x)(n:i∉S):μ1[i]?=some x:=(a.ot i (List.getElem?_eq_some_iff.mp h).1 n).trans h
theorem Bk.ch{S:List Nat}{c g:Nat}{sh:T}{ps:List Gp}(B:Bk μ c g sh ps)(a:Ch S μ μ1)(h1:c∉S)(h2:g∉S)(h3:∀p∈ps,p.1∉S):Bk μ1 c g sh ps:=
 ⟨a.get B.com h1,a.get B.lst h2,λp hp=>a.get (B.at_ p hp) (h3 p hp),B.nd⟩
noncomputable def mt(G:Gr)(b e:Int):Bool:=decide ((if G.f<b then b else G.f)<(if e<G.u then e else G.u))
theorem ZZ{G:Gr}{b e:Int}:mt G b e=true↔G.f<G.u/\G.f<e/\b<G.u/\b<e:=by
 unfold mt
 rw[decide_eq_true_eq]
 split<;>split<;>omega
theorem z1y{G:Gr}{b e:Int}(h:¬(G.f<G.u/\G.f<e/\b<G.u/\b<e)):mt G b e=false:=by
 cases q:mt G b e with
 |false=>rfl
 |true=>exact absurd (ZZ.mp q) h
theorem Wh{a:Nat}{G:Gr}{b e:Int}(h:μ[a]?=some G.O)(q:K (.bl (mt G b e)) μ):meets [.mut a,.int b,.int e] μ K Z:=by
 unfold meets
 refine⟨rfl,?_⟩
 refine⟨_,_,_,h,rfl,?_⟩
 refine⟨_,rfl,?_⟩
 refine⟨_,_,_,h,rfl,?_⟩
 exact q
theorem wB{β:Type}{tg:Tg}{g:Sl->Mem->RE (Option T)}{lv:Mem->Prop}{τ:Sl}(t:β->T)(f:β->Option T){ps:List β}{K:List T->Mem->Prop}
  (h:∀p∈ps,∀k:Option T->Mem->Prop,k (f p) μ->∃τ',asg tg (t p) τ=some τ'/\g τ' μ k Z) (k:K (ps.filterMap f) μ) (hl:lv μ:=by trivial):zA tg g lv τ (ps.map t) μ K Z:=by
 induction ps generalizing K with
 |nil=>exact K5 k
 |cons x r ih=>
  refine Vw ?_
  refine h x List.mem_cons_self _ ⟨hl,?_⟩
  cases q:f x with
  |none=>
   rw[List.filterMap_cons_none q] at k
   exact ih (λy hy=>h y (List.mem_cons_of_mem _ hy)) k
  |some y=>
   rw[List.filterMap_cons_some q] at k
   exact ih (K:=λys μ2=>K (y::ys) μ2) (λy hy=>h y (List.mem_cons_of_mem _ hy)) k
theorem JE:∀{bs:List Gp},(∀p∈bs,μ[p.1]?=some p.2.O)->KeyR (eIx (z9 (eV 0) 6) (eC (.int 1))) μ (bs.map Gp.t) (bs.map (·.2.f))
 |[],_=>trivial
 |p::r,h=>⟨⟨_,_,_,h p List.mem_cons_self,rfl,_,rfl,rfl,rfl⟩,JE λq hq=>h q (List.mem_cons_of_mem _ hq)⟩
end NH.P
end
section
namespace NH.P
open PySem L2 NH
variable {μ μ1 μ2:Mem}{K:T->Mem->Prop}{Z:Xp}
theorem yY{z:Key}{t:T}:∀(kvs:List (Key×T)),(zd z (wI z t kvs)).isSome=true:=by
 intro kvs
 unfold wI
 split
 ·rename_i h
  induction kvs with
  |nil=>simp at h
  |cons p r ih=>
   rw[List.map_cons]
   unfold zd
   by_cases e:p.1=z
   ·rw[if_pos e,if_pos e];rfl
   ·rw[if_neg e,if_neg e]
    exact ih (by simpa[e] using h)
 ·rename_i h
  induction kvs with
  |nil=>simp[zd]
  |cons p r ih=>
   have e:p.1≠z:=λe=>h (by simp[e])
   rw[List.cons_append]
   unfold zd
   rw[if_neg e]
   exact ih λz=>h (by simp only[List.any_cons,Bool.or_eq_true];exact .inr z)
theorem kD{z y:Key}{t:T}(ne:y≠z):∀(kvs:List (Key×T)),(zd y (wI z t kvs)).isSome=(zd y kvs).isSome:=by
 intro kvs
 unfold wI
 split
 ·rename_i h
  clear h
  induction kvs with
  |nil=>rfl
  |cons p r ih=>
   rw[List.map_cons]
   unfold zd
   by_cases e:p.1=z
   ·rw[if_pos e]
    have e2:p.1≠y:=λz'=>ne (z'.symm.trans e)
    rw[if_neg (show ¬(p.1,t).1=y from e2),if_neg e2]
    exact ih
   ·rw[if_neg e]
    by_cases e2:p.1=y
    ·rw[if_pos e2,if_pos e2]
    ·rw[if_neg e2,if_neg e2];exact ih
 ·rename_i h
  clear h
  induction kvs with
  |nil=>
   show (zd y [(z,t)]).isSome=_
   unfold zd
   rw[if_neg (λw=>ne w.symm)]
   rfl
  |cons p r ih=>
   rw[List.cons_append]
   unfold zd
   by_cases e2:p.1=y
   ·rw[if_pos e2,if_pos e2]
   ·rw[if_neg e2,if_neg e2];exact ih
theorem jM{z:Key}{t:T}{kvs:List (Key×T)}:(wI z t kvs).length<=kvs.length+1:=by
 unfold wI
 split<;>simp
noncomputable def inD (kvs:List (Key×T))(h:Int):Bool:=(zd (.inl h) kvs).isSome
theorem xt:∀(kvs:List (Key×T)),∃B:Int,∀h,inD kvs h=true->h<B
 |[]=>⟨0,λh e=>by cases e⟩
 |(.inl a,t)::r=>by
  obtain⟨B,hB⟩:=xt r
  refine⟨if a<B then B else a+1,λh e=>?_⟩
  unfold inD zd at e
  by_cases z:(Sum.inl a:Key)=.inl h
  ·have:a=h:=by injection z
   split<;>omega
  ·rw[if_neg z] at e
   have:=hB h e
   split<;>omega
 |(.inr a,t)::r=>by
  obtain⟨B,hB⟩:=xt r
  refine⟨B,λh e=>?_⟩
  unfold inD zd at e
  rw[if_neg (by intro z;cases z)] at e
  exact hB h e
end NH.P
end
section
namespace NH.P
open PySem L2 NH
variable {μ μ1 μ2:Mem}{K:T->Mem->Prop}{Z:Xp}{c g i0:Nat}{x y z:Int}{ps:List Gp}
theorem ZT{n b:Int}(q:K (.bl (decide (0<=n)&&decide (n<b))) μ):qf [.int n,.int b] μ K Z:=by
 unfold qf
 refine⟨rfl,?_⟩
 refine zB ?_
 refine zK (λh=>?_) (λh=>?_)
 ·have q:K (.bl (decide (n<b))) μ:=by simpa[h] using q
  exact q
 ·have q:K (.bl false) μ:=by simpa[h] using q
  exact q
theorem vB{n b:Int}(h0:0<=n)(h1:n<b)(q:K (.bl true) μ):qf [.int n,.int b] μ K Z:=ZT (by simpa[h0,h1] using q)
noncomputable def z02 (y:Int)(t:T):Prop:=t=.non\/∃h:Int,t=.int h/\0<=h/\h<y
theorem Qc{ho:Str}{hs:T}{m n:Int}(B:Bk μ c g (shp x y z) ps)(hl:ho.length<=room)(h1:wY ho=true)(h2:z02 y hs)(h3:1<=n)(q:K .non μ):q9 [.mut c,.str ho,hs,.int m,.int n] μ K Z:=by
 unfold q9
 refine⟨rfl,?_⟩
 refine vM hl h1 ?_
 have rest:w4 (qh.drop 2) [some (.mut c),some (.str ho),some hs,some (.int m),some (.int n)] μ (En.fn K Z):=by
  refine qE ?_
  refine JC h3 ?_
  refine zB ?_
  exact q
 rcases h2 with rfl|⟨h,rfl,a,b⟩
 ·exact rest
 ·refine⟨_,_,_,B.com,rfl,?_⟩
  refine vB a b ?_
  exact rest
theorem Q1{h:Int}(B:Bk μ c g (shp x y z) ps)(hl:ps.length<=1000)(q:K (.lst ((ps.filter λp=>decide (p.2.h=h)).map Gp.t)) μ):zZ [.mut c,.int h] μ K Z:=by
 unfold zZ
 refine⟨rfl,?_⟩
 refine⟨_,_,_,B.com,rfl,?_⟩
 refine⟨_,B.lst,?_⟩
 refine⟨by rw[List.length_map];unfold room;omega,?_⟩
 refine wB Gp.t (λp=>if p.2.h=h then some (Gp.t p) else none) (λp hp k hk=>?_) ?_ B.lst
 ·refine⟨_,rfl,?_⟩
  refine⟨_,_,_,B.at_ p hp,rfl,?_⟩
  refine⟨_,rfl,?_⟩
  refine qF (λe=>?_) (λe=>?_)
  ·have e:p.2.h=h:=by simpa using e
   rw[if_pos e] at hk
   exact hk
  ·have e:¬p.2.h=h:=by simpa using e
   rw[if_neg e] at hk
   exact hk
 ·have e:ps.filterMap (λp=>if p.2.h=h then some (Gp.t p) else none)=(ps.filter λp=>decide (p.2.h=h)).map Gp.t:=by
   clear q B hl
   induction ps with
   |nil=>rfl
   |cons p r ih=>
    by_cases z:p.2.h=h
    ·rw[List.filterMap_cons_some (b:=Gp.t p) (by rw[if_pos z]),List.filter_cons_of_pos (by simpa using z),List.map_cons,ih]
    ·rw[List.filterMap_cons_none (by rw[if_neg z]),List.filter_cons_of_neg (by simpa using z),ih]
  rw[e]
  exact q
end NH.P
end
section
namespace NH.P
open PySem L2 NH
variable {μ μ1 μ2:Mem}{K:T->Mem->Prop}{Z:Xp}{c g i0:Nat}{x y z:Int}{ps:List Gp}
theorem z5R{a b c d e f:Int}:eqL [.int a,.int b,.int c] [.int d,.int e,.int f]=some (decide (a=d)&&(decide (b=e)&&decide (c=f))):=by
 have h:∀i j:Int,(i == j)=decide (i=j):=λi j=>by
  by_cases z:i=j<;>simp[z]
 simp[eqL,eqT,h]
theorem Wv{h f u:Int}(h0:0<=h)(h1:h<y)(f0:0<=f)(fu:f<u)(ux:u<=x)(q:K (.bl true) μ):vC [shp x y z,.tup [.int h,.int f,.int u]] μ K Z:=by
 unfold vC
 refine⟨rfl,?_⟩
 refine⟨_,rfl,?_⟩
 refine vB h0 h1 ?_
 refine⟨_,rfl,?_⟩
 refine zB ?_
 refine⟨_,rfl,?_⟩
 refine zB ?_
 refine⟨_,rfl,?_⟩
 refine QC f0 ?_
 refine⟨_,rfl,?_⟩
 refine QC fu ?_
 have q:K (.bl (decide (u<=x))) μ:=by rw[decide_eq_true ux];exact q
 exact q
end NH.P
end
section
namespace NH.P
open PySem L2 NH
variable {μ μ1 μ2:Mem}{K:T->Mem->Prop}{Z:Xp}{c g r i0:Nat}{x y z:Int}{ps:List Gp}
noncomputable def z5a(gs:List Gp)(h m n b:Int):Prop:=m<=b/\(∀p∈gs,p.2.h=h->mt p.2 b (b+n)=false)/\∀b',m<=b'->b'<b->∃p∈gs,p.2.h=h/\mt p.2 b' (b'+n)=true
noncomputable def z1z(gs:List Gp)(m n h:Int):Prop:=0<=h/\(∀p∈gs,p.2.h=h->mt p.2 m (m+n)=false)/\∀h',0<=h'->h'<h->∃p∈gs,p.2.h=h'/\mt p.2 m (m+n)=true
theorem y6{bs:List Gp}{m n:Int}{i0:Nat}(h:∀p∈bs,μ[p.1]?=some p.2.O)(hl:bs.length<64)(hn1:1<=n)(ht:μ[i0]?=some (.tab 0))(q:∀b,m<=b->(∀p∈bs,mt p.2 b (b+n)=false)->(∀b',m<=b'->b'<b->∃p∈bs,mt p.2 b' (b'+n)=true)->K (.int b) μ):qG [.lst (bs.map Gp.t),.int m,.int n] μ K Z:=by
 unfold qG
 refine⟨rfl,?_⟩
 refine⟨⟨i0,ht⟩,by rw[List.length_map];exact hl,bs.map (·.2.f),JE h,λps hp hs=>?_⟩
 have ez:(bs.map (·.2.f)).zip (bs.map Gp.t)=bs.map λp=>(p.2.f,Gp.t p):=by rw[List.zip_map',]
 rw[ez] at hp
 obtain⟨qs,hq,rfl⟩:=QZ hp rfl
 rw[List.map_map,List.pairwise_map] at *
 have hq':∀p∈qs,μ[p.1]?=some p.2.O:=λp hp=>h p (hq.mem_iff.mp hp)
 refine zT (λi τ μ'=>∃b o,τ=[some (.lst (bs.map Gp.t)),some (.int m),some (.int n),some (.int b),o]/\μ'=μ/\m<=b/\(∀p∈qs.take i,mt p.2 b (b+n)=false)/\∀b',m<=b'->b'<b->∃p∈bs,mt p.2 b' (b'+n)=true) ⟨m,none,rfl,rfl,Int.le_refl _,by simp,λb' h1 h2=>by omega⟩ ?_ ?_
 ·rintro i x τ μ' hx ⟨b,o,rfl,rfl,hb,hn,hmin⟩ N hN
  rw[List.getElem?_map] at hx
  cases hqi:qs[i]? with
  |none=>rw[hqi] at hx;cases hx
  |some p=>
   rw[hqi] at hx
   cases hx
   have hm:p∈qs:=List.mem_of_getElem? hqi
   have et:qs.take (i+1)=qs.take i++[p]:=by rw[List.take_add_one,hqi];rfl
   have le:∀p'∈qs.take i,p'.2.f<=p.2.f:=λp' hp'=>by
    obtain⟨j,hj⟩:=List.mem_iff_getElem?.mp hp'
    rw[List.getElem?_take] at hj
    split at hj
    ·rename_i hji
     obtain⟨h1,e1⟩:=List.getElem?_eq_some_iff.mp hj
     obtain⟨h2,e2⟩:=List.getElem?_eq_some_iff.mp hqi
     have:=(List.pairwise_iff_getElem.mp hs) j i h1 h2 hji
     rw[e1,e2] at this
     exact this
    ·cases hj
   refine⟨_,rfl,?_⟩
   refine Wh (hq' p hm) ?_
   refine qF (λe=>?_) (λe=>?_)
   ·refine⟨_,_,_,hq' p hm,rfl,?_⟩
    have e:=ZZ.mp e
    refine hN _ _ ⟨p.2.u,_,rfl,rfl,by omega,λp' hp'=>?_,λb' h1 h2=>?_⟩
    ·rw[et] at hp'
     rcases List.mem_append.mp hp' with hp'|hp'
     ·have h1:=hn p' hp'
      have h2:=le p' hp'
      refine z1y λz=>?_
      have:mt p'.2 b (b+n)=true:=ZZ.mpr (by omega)
      rw[h1] at this;cases this
     ·rw[List.mem_singleton.mp hp']
      exact z1y (by omega)
    ·by_cases w:b'<b
     ·exact hmin b' h1 w
     ·exact⟨p,hq.mem_iff.mp hm,ZZ.mpr (by omega)⟩
   ·refine hN _ _ ⟨b,_,rfl,rfl,hb,λp' hp'=>?_,hmin⟩
    rw[et] at hp'
    rcases List.mem_append.mp hp' with hp'|hp'
    ·exact hn p' hp'
    ·rw[List.mem_singleton.mp hp'];exact e
 ·rintro τ μ' ⟨b,o,rfl,rfl,hb,hn,hmin⟩
  refine q b hb (λp hp=>hn p ?_) hmin
  rw[List.length_map,List.take_of_length_le (Nat.le_refl _)]
  exact hq.mem_iff.mpr hp
theorem ua{g:Nat}{m n:Int}(hg:μ[g]?=some (.lst (ps.map Gp.t)))(h:∀p∈ps,μ[p.1]?=some p.2.O)(hl:ps.length<1000)
    (q:∀b μ',z1z ps m n b->Ch [] μ μ'->K (.int b) μ'):wj [.mut g,.int m,.int n] μ K Z:=by
  unfold wj
  refine⟨rfl,?_⟩
  refine⟨_,zw hg,?_⟩
  refine zT (λi τ μ'=>∃kvs o,τ=[some (.mut g),some (.int m),some (.int n),some (.mut μ.length),o,none]/\μ'=μ++[.dic kvs]/\kvs.length<=i/\(∀p∈ps.take i,mt p.2 m (m+n)=true->inD kvs p.2.h=true)/\∀b,inD kvs b=true->∃p∈ps,p.2.h=b/\mt p.2 m (m+n)=true) ⟨[],none,rfl,rfl,Nat.le_refl _,by simp,λb e=>by cases e⟩ ?_ ?_ ?_
  · rintro i x τ μ' hx ⟨kvs,o,rfl,rfl,hk,hn,hr⟩ N hN
    rw[List.getElem?_map] at hx
    cases hqi:ps[i]? with
    |none=>rw[hqi] at hx;cases hx
    |some p=>
      rw[hqi] at hx
      cases hx
      have hm:p∈ps:=List.mem_of_getElem? hqi
      have hlt:i<ps.length:=(List.getElem?_eq_some_iff.mp hqi).1
      have et:ps.take (i+1)=ps.take i++[p]:=by rw[List.take_add_one,hqi];rfl
      refine⟨_,rfl,?_⟩
      refine Wh (zw (h p hm)) ?_
      refine qF (λe=>?_) (λe=>?_)
      · refine ⟨_,_,_,zw (h p hm),rfl,?_⟩
        refine⟨_,rfl,?_⟩
        refine .inr ⟨_,zx,by unfold room;omega,?_⟩
        have es:(μ++[MO.dic kvs]).set μ.length (MO.dic (wI (.inl p.2.h) (.bl true) kvs))=μ++[MO.dic (wI (.inl p.2.h) (.bl true) kvs)]:=by
          rw[List.set_append_right _ _ (Nat.le_refl _)];simp
        rw[es]
        refine hN _ _ ⟨_,_,rfl,rfl,Nat.le_trans jM (by omega),λp' hp' e'=>?_,λb hb=>?_⟩
        · by_cases z : p'.2.h = p.2.h
          · rw[z];exact yY _
          · unfold inD
            rw[kD (λw=>z (by injection w))]
            rw[et] at hp'
            rcases List.mem_append.mp hp' with hp'|hp'
            · exact hn p' hp' e'
            · rw[List.mem_singleton.mp hp'] at z;exact absurd rfl z
        · by_cases z : b = p.2.h
          · exact⟨p,hm,z.symm,e⟩
          · unfold inD at hb
            rw[kD (λw=>z (by injection w))] at hb
            exact hr b hb
      · refine hN _ _ ⟨kvs,_,rfl,rfl,by omega,fun p' hp' e' => ?_,hr⟩
        rw[et] at hp'
        rcases List.mem_append.mp hp' with hp'|hp'
        · exact hn p' hp' e'
        · rw[List.mem_singleton.mp hp',e] at e';cases e'
  · rintro τ μ' ⟨kvs,o,rfl,rfl,hk,hn,hr⟩
    rw[List.length_map,List.take_of_length_le (Nat.le_refl _)] at hn
    obtain⟨B,hB⟩:=xt kvs
    refine KY (λk τ μ'=>∃b:Int,0<=b/\k=(B-b).toNat/\τ=[some (.mut g),some (.int m),some (.int n),some (.mut μ.length),o,some (.int b)]/\μ'=μ++[.dic kvs]/\∀b',0<=b'->b'<b->inD kvs b'=true) (B-0).toNat ⟨0,Int.le_refl _,rfl,rfl,rfl,λb' h1 h2=>by omega⟩ ?_
    rintro k τ μ' ⟨b,hb,rfl,rfl,rfl,hd⟩ N hN
    refine⟨_,zx,?_⟩
    refine qF (λe=>?_) (λe=>?_)
    · have := hB b e
      exact hN _ _ _ (show (B-(b+1)).toNat<(B-b).toNat by omega) ⟨b+1,by omega,rfl,rfl,rfl,λb' h1 h2=>by
        by_cases w:b'=b
        · rw[w];exact e
        · exact hd b' h1 (by omega)⟩
    · refine q b _ ⟨hb,fun p hp ph => ?_,fun b' h1 h2 => hr b' (hd b' h1 h2)⟩ Ch.app
      cases z:mt p.2 m (m+n) with
      |false=>rfl
      | true => have := hn p hp z
                rw[ph] at this
                unfold inD at this
                rw[e] at this;cases this
  · rintro i τ μ' ⟨kvs,o,rfl,rfl,_⟩
    exact zw hg
noncomputable def Lease(ps:List Gp)(hs:T)(m n h b:Int):Prop:=(hs=.non/\b=m/\z1z ps m n h)\/(hs=.int h/\z5a ps h m n b)
theorem Lease.one{hs:T}{m n h b h' b':Int}(a:Lease ps hs m n h b)(a':Lease ps hs m n h' b'):h=h'/\b=b':=by
 rcases a with⟨rfl,rfl,e0,e1,e2⟩|⟨rfl,e0,e1,e2⟩
 ·rcases a' with⟨_,rfl,f0,f1,f2⟩|⟨z,_⟩
  ·refine⟨?_,rfl⟩
   rcases Int.lt_trichotomy h h' with w|w|w
   ·obtain⟨p,hp,p1,p2⟩:=f2 h e0 w
    rw[e1 p hp p1] at p2;cases p2
   ·exact w
   ·obtain⟨p,hp,p1,p2⟩:=e2 h' f0 w
    rw[f1 p hp p1] at p2;cases p2
  ·cases z
 ·rcases a' with⟨z,_⟩|⟨z,f0,f1,f2⟩
  ·cases z
  ·cases z
   refine⟨rfl,?_⟩
   rcases Int.lt_trichotomy b b' with w|w|w
   ·obtain⟨p,hp,p1,p2⟩:=f2 b e0 w
    rw[e1 p hp p1] at p2;cases p2
   ·exact w
   ·obtain⟨p,hp,p1,p2⟩:=e2 b' f0 w
    rw[f1 p hp p1] at p2;cases p2
theorem uW{hs:T}{m n:Int}(B:Bk μ c g (shp x y z) ps)(ht:μ[i0]?=some (.tab 0))(hl:ps.length<64)(hn1:1<=n)(h2:z02 y hs)
  (q:∀h b μ',0<=h->Lease ps hs m n h b->Ch [] μ μ'->K (.tup [.int h,.int b,.int (b+n)]) μ'):zP [.mut c,hs,.int m,.int n] μ K Z:=by
 unfold zP
 refine⟨rfl,?_⟩
 rcases h2 with rfl|⟨h,rfl,a,b⟩
 ·refine⟨_,_,_,B.com,rfl,?_⟩
  refine ua B.lst B.at_ (by omega) λh μ' hf ch=>?_
  exact q h m μ' hf.1 (.inl ⟨rfl,rfl,hf⟩) ch
 ·refine⟨_,B.com,?_⟩
  refine Q1 B (by omega) ?_
  refine y6 (i0:=i0) (λp hp=>B.at_ p (List.mem_filter.mp hp).1) (Nat.lt_of_le_of_lt (List.length_filter_le ..) hl) hn1 ht λb hb hm hmin=>?_
  refine q h b μ a (.inr ⟨rfl,hb,λp hp ph=>hm p (List.mem_filter.mpr ⟨hp,by simpa using ph⟩),λb' h1 h2=>?_⟩) Ch.refl
  obtain⟨p,hp,e⟩:=hmin b' h1 h2
  obtain⟨h3,h4⟩:=List.mem_filter.mp hp
  exact⟨p,h3,by simpa using h4,e⟩
theorem z3i{ho:Str}{hs:T}{m n:Int}(B:Bk μ c g (shp x y z) ps)(ht:μ[i0]?=some (.tab 0))(hl:ps.length<64)(h0:ho.length<=room)(h1:wY ho=true)(h2:z02 y hs)(h3:1<=n)
  (q1:∀h b μ',Lease ps hs (if m<0 then 0 else m) n h b->(y<=h\/x<b+n)->Ch [] μ μ'->Z 19 [] μ')
  (q2:∀h b μ' a,0<=h->h<y->0<=b->b+n<=x->Lease ps hs (if m<0 then 0 else m) n h b->μ.length<=a->Ch [g] μ μ'->Bk μ' c g (shp x y z) (ps++[(a,⟨ho,h,b,b+n,b+n,false⟩)])->K (.tup [.int h,.int b,.int (b+n)]) μ'):qS [.mut c,.str ho,hs,.int m,.int n] μ K Z:=by
 unfold qS
 refine⟨rfl,?_⟩
 refine⟨_,B.com,?_⟩
 refine Qc B h0 h1 h2 h3 ?_
 refine⟨_,B.com,?_⟩
 refine uW B ht hl h3 h2 λh b μ1 hh hm ch=>?_
 have B1:=B.ch ch (by simp) (by simp) (by simp)
 have hb0:0<=b:=by
  have:(0:Int)<=(if m<0 then 0 else m):=by split<;>omega
  rcases hm with⟨_,e,_⟩|⟨_,e,_⟩<;>omega
 refine⟨_,rfl,?_⟩
 refine⟨_,_,_,B1.com,rfl,?_⟩
 refine zK (λe=>?_) (λe=>?_)
 ·exact⟨by show (1:Nat)<=room;decide,q1 h b _ hm (.inl e) ch⟩
 ·refine⟨_,rfl,?_⟩
  refine⟨_,_,_,B1.com,rfl,?_⟩
  refine zK (λe2=>?_) (λe2=>?_)
  ·exact⟨by show (1:Nat)<=room;decide,q1 h b _ hm (.inr e2) ch⟩
  ·refine⟨_,_,_,B1.com,rfl,?_⟩
   refine⟨⟨_,B1.lst⟩,?_⟩
   have gl:g<μ1.length:=(List.getElem?_eq_some_iff.mp B1.lst).1
   unfold ji
   refine⟨rfl,?_⟩
   refine⟨_,_,zx,by show (0:Nat)<900;decide,?_⟩
   refine⟨_,_,get_set zx,by show (1:Nat)<900;decide,?_⟩
   refine⟨_,rfl,?_⟩
   refine⟨_,_,get_set (get_set zx),by show (2:Nat)<900;decide,?_⟩
   refine⟨_,_,get_set (get_set (get_set zx)),by show (3:Nat)<900;decide,?_⟩
   refine⟨rfl,?_⟩
   have es:∀(μ:Mem) (a b:MO),(μ++[a]).set μ.length b=μ++[b]:=λμ a b=>by rw[List.set_append_right _ _ (Nat.le_refl _)];simp
   simp only[es]
   refine⟨_,zw B1.lst,by rw[List.length_map];unfold room;omega,?_⟩
   refine q2 h b _ μ1.length hh (by omega) hb0 (by omega) hm ch.len ?_ ?_
   ·refine (ch.mono (by simp)).trans ((Ch.app.mono (by simp)).trans Ch.set)
   ·have nw:∀p∈ps,p.1≠g/\p.1<μ1.length:=λp hp=>by
     refine⟨λe=>?_,(List.getElem?_eq_some_iff.mp (B1.at_ p hp)).1⟩
     have:=B1.at_ p hp
     rw[e,B1.lst] at this;cases this
    have cg:c≠g:=λe=>by
     have:=B1.com
     rw[e,B1.lst] at this;cases this
    refine⟨?_,?_,λp hp=>?_,?_⟩
    ·rw[List.getElem?_set_ne cg.symm];exact zw B1.com
    ·rw[List.map_append];exact get_set (zw B1.lst)
    ·rcases List.mem_append.mp hp with hp|hp
     ·rw[List.getElem?_set_ne (nw p hp).1.symm];exact zw (B1.at_ p hp)
     ·rw[List.mem_singleton.mp hp,List.getElem?_set_ne (by show g≠μ1.length;omega)];exact zx
    ·rw[List.map_append,List.nodup_append]
     refine⟨B1.nd,by simp,λa ha b hb e=>?_⟩
     obtain⟨p,hp,rfl⟩:=List.mem_map.mp ha
     have hb:b=μ1.length:=by simpa using hb
     have:=(nw p hp).2
     omega
end NH.P
end
section
namespace NH.P
open PySem L2 NH
variable {μ μ1 μ2:Mem}{K:T->Mem->Prop}{Z:Xp}{c g r i0:Nat}{x y z:Int}{ps:List Gp}
noncomputable def er (ps:List Gp):List Gp:=ps.map λp=>(0,p.2)
theorem Lease.er{hs:T}{m n h b:Int}(a:Lease ps hs m n h b):Lease (er ps) hs m n h b:=by
 have mem:∀{p:Gp},p∈NH.P.er ps->∃q∈ps,q.2=p.2:=λ{p} hp=>by
  obtain⟨q,hq,e⟩:=List.mem_map.mp hp
  exact⟨q,hq,by rw[←e]⟩
 have mem2:∀{q:Gp},q∈ps->((0,q.2):Gp)∈NH.P.er ps:=λ{q} hq=>List.mem_map.mpr ⟨q,hq,rfl⟩
 rcases a with⟨e,e',f0,f1,f2⟩|⟨e,f0,f1,f2⟩
 ·refine .inl ⟨e,e',f0,λp hp ph=>?_,λh' h1 h2=>?_⟩
  ·obtain⟨q,hq,w⟩:=mem hp
   rw[←w] at ph ⊢
   exact f1 q hq ph
  ·obtain⟨q,hq,a1,a2⟩:=f2 h' h1 h2
   exact⟨_,mem2 hq,a1,a2⟩
 ·refine .inr ⟨e,f0,λp hp ph=>?_,λb' h1 h2=>?_⟩
  ·obtain⟨q,hq,w⟩:=mem hp
   rw[←w] at ph ⊢
   exact f1 q hq ph
  ·obtain⟨q,hq,a1,a2⟩:=f2 b' h1 h2
   exact⟨_,mem2 hq,a1,a2⟩
end NH.P
end
section
namespace NH.P
open PySem L2 NH
variable {μ μ1 μ2:Mem}{K:T->Mem->Prop}{Z:Xp}{c g r i0:Nat}{x y z:Int}{ps:List Gp}
theorem yL{sh:T}(q:K .non (μ++[.obj 43 [(9,sh),(10,.mut (μ.length+1))],.lst []])):wa [.mut μ.length,sh] (μ++[.obj 43 []]) K Z:=by
 have es:∀(μ:Mem) (a b:MO),(μ++[a]).set μ.length b=μ++[b]:=λμ a b=>by rw[List.set_append_right _ _ (Nat.le_refl _)];simp
 unfold wa
 refine⟨rfl,?_⟩
 refine⟨_,_,zx,by show (0:Nat)<900;decide,?_⟩
 rw[es]
 refine⟨_,_,zw zx,by show (1:Nat)<900;decide,?_⟩
 have e2:∀(o a b:MO),((μ++[o])++[a]).set μ.length b=μ++[b,a]:=λo a b=>by
  rw[List.append_assoc,List.set_append_right _ _ (Nat.le_refl _)];simp
 rw[e2]
 have e3:(μ++[MO.obj 43 [(9,sh)]]).length=μ.length+1:=by simp
 show K .non (μ++[MO.obj 43 (Kh 10 (T.mut (μ++[MO.obj 43 [(9,sh)]]).length) [(9,sh)]),.lst []])
 rw[e3]
 exact q
theorem wm{n b:Int}(h0:0<=n)(h1:n<b)(q:K .non μ):qA [.int n,.int b] μ K Z:=by
 unfold qA
 refine⟨rfl,?_⟩
 refine vB h0 h1 ?_
 exact q
theorem V4{m h k:Int}(m0:0<=m)(m1:m<x)(h0:0<=h)(h1:h<y)(k0:0<=k)(k1:k<z):0<=(m * y+h) * z+k/\(m * y+h) * z+k<x * y * z/\((m * y+h) * z+k) / z=m * y+h/\(m * y+h) / y=m/\(m * y+h) % y=h:=by
 have a:((m * y+h) * z+k) / z=m * y+h/\((m * y+h) * z+k) % z=k:=(Int.ediv_emod_unique (by omega)).mpr ⟨by rw[Int.mul_comm z,Int.add_comm],k0,k1⟩
 have b:(m * y+h) / y=m/\(m * y+h) % y=h:=(Int.ediv_emod_unique (by omega)).mpr ⟨by rw[Int.mul_comm y,Int.add_comm],h0,h1⟩
 have n0:0<=m * y:=Int.mul_nonneg m0 (by omega)
 have n1:0<=(m * y+h) * z:=Int.mul_nonneg (by omega) (by omega)
 have n2:m * y+y<=x * y:=by
  have:=Int.mul_le_mul_of_nonneg_right (show m+1<=x by omega) (show 0<=y by omega)
  rw[Int.add_mul,Int.one_mul] at this
  exact this
 have n3:(m * y+h) * z+z<=x * y * z:=by
  have:=Int.mul_le_mul_of_nonneg_right (show m * y+h+1<=x * y by omega) (show 0<=z by omega)
  rw[Int.add_mul,Int.one_mul] at this
  exact this
 exact⟨by omega,by omega,a.1,b.1,b.2⟩
end NH.P
end
section
namespace NH.P
open PySem L2 NH
variable {μ μ1 μ2:Mem}{K:T->Mem->Prop}{Z:Xp}{x y z:Int}{i:Nat}{sh kp bt:T}{ah sd:Int}
noncomputable abbrev Ls:=Int×Int×Int
noncomputable def lsT:Option Ls->T
 |none=>.non
 |some l=>.tup [.int l.1,.int l.2.1,.int l.2.2]
noncomputable def opT:Option Int->T
 |none=>.non
 |some m=>.int m
noncomputable abbrev hsF(sh:T)(ah sd:Int)(kp:T)(l:Option Ls)(m n:Option Int)(bt:T)(fl:Bool):List (Nat×T):=[(9,sh),(14,.int ah),(15,.int sd),(16,kp),(6,lsT l),(17,opT m),(18,opT n),(19,bt),(20,.bl fl)]
noncomputable abbrev hsO(sh:T)(ah sd:Int)(kp:T)(l:Option Ls)(m n:Option Int)(bt:T)(fl:Bool):MO:=.obj 45 (hsF sh ah sd kp l m n bt fl)
theorem z4_:∀(l l':Option Ls),eqT (lsT l) (lsT l')=some (decide (l=l'))
 |none,none=>by simp[lsT,eqT]
 |none,some b=>by simp[lsT,eqT]
 |some a,none=>by simp[lsT,eqT]
 |some (a,b,c),some (d,e,f)=>by
  show eqT (.tup _) (.tup _)=_
  simp only[eqT]
  rw[z5R]
  simp[Bool.decide_and]
theorem z4R:∀(l l':Option Int),eqT (opT l) (opT l')=some (decide (l=l'))
 |none,none=>by simp[opT,eqT]
 |none,some b=>by simp[opT,eqT]
 |some a,none=>by simp[opT,eqT]
 |some a,some b=>by
  by_cases h:a=b
  ·simp[opT,eqT,h]
  ·simp[opT,eqT,h]
theorem z0h{l l':Option Ls}{m m':Option Int}:eqL [lsT l,opT m] [lsT l',opT m']=some (decide (l=l')&&decide (m=m')):=by
 simp[eqL,z4_,z4R]
theorem YQ{l:Option Ls}{m:Option Int}:qH [lsT l,opT m]<=40:=by
 cases l<;>cases m<;>simp[lsT,opT,qH,jn]
variable {l l':Option Ls}{m m' n:Option Int}
theorem xK(h:μ[i]?=some (hsO sh ah sd kp l m n bt false))(q:K .non μ):zS [.mut i] μ K Z:=by
 unfold zS
 refine⟨rfl,?_⟩
 refine⟨_,_,_,h,rfl,?_⟩
 exact q
theorem z1e(h:μ[i]?=some (hsO sh ah sd kp l m n bt false))(q:K (.tup [lsT l,opT m]) μ):vb [.mut i] μ K Z:=by
 unfold vb
 refine⟨rfl,?_⟩
 refine⟨_,_,_,h,rfl,?_⟩
 refine⟨_,_,_,h,rfl,?_⟩
 exact q
theorem JD(h:μ[i]?=some (hsO sh ah sd kp l m n bt false))(hk:Wd kp)(q:∀μ',Ch [i] μ μ'->μ'.length=μ.length->μ'[i]?=some (hsO sh ah sd kp l' m' n bt false)->K .non μ'):qT [.mut i,lsT l',opT m'] μ K Z:=by
 unfold qT
 refine⟨rfl,?_⟩
 refine⟨_,h,?_⟩
 refine z1e h ?_
 refine⟨YQ,_,z0h,?_⟩
 refine qF (λe=>?_) (λe=>?_)
 ·simp only[Bool.and_eq_true,decide_eq_true_eq] at e
  obtain⟨rfl,rfl⟩:=e
  exact q _ Ch.refl rfl h
 ·refine⟨_,_,h,by show (9:Nat)<900;decide,?_⟩
  refine⟨_,_,_,get_set h,rfl,hk,?_⟩
  refine⟨_,_,get_set h,by show (9:Nat)<900;decide,?_⟩
  refine⟨_,_,get_set (get_set h),by show (9:Nat)<900;decide,?_⟩
  refine⟨_,_,get_set (get_set (get_set h)),by show (9:Nat)<900;decide,?_⟩
  refine q _ (((Ch.set.trans Ch.set).trans Ch.set).trans Ch.set) (by simp) ?_
  exact get_set (get_set (get_set (get_set h)))
theorem ya{h f u:Int}(h0:0<=h)(h1:h<y)(f0:0<=f)(fu:f<u)(ux:u<=x)(q:K .non μ):qD [shp x y z,.tup [.int h,.int f,.int u]] μ K Z:=by
 unfold qD
 refine⟨rfl,?_⟩
 refine Wv h0 h1 f0 fu ux ?_
 exact q
structure LsOk(x y:Int)(l:Ls):Prop where
 h0:0<=l.1
 h1:l.1<y
 f0:0<=l.2.1
 fu:l.2.1<l.2.2
 ux:l.2.2<=x
theorem uP{a:Ls}(h:μ[i]?=some (hsO (shp x y z) ah sd kp l m n bt false))(hk:Wd kp)(ok:LsOk x y a)(q:∀μ',Ch [i] μ μ'->μ'.length=μ.length->μ'[i]?=some (hsO (shp x y z) ah sd kp (some a) m n bt false)->K .non μ') :
  zH [.mut i,lsT (some a)] μ K Z:=by
 unfold zH
 refine⟨rfl,?_⟩
 refine⟨_,h,?_⟩
 refine xK h ?_
 refine⟨_,_,_,h,rfl,?_⟩
 refine ya ok.h0 ok.h1 ok.f0 ok.fu ok.ux ?_
 refine⟨_,h,?_⟩
 refine⟨_,_,_,h,rfl,?_⟩
 exact JD h hk q
theorem uK{a:Int}(h:0<=a)(q:K (.bl true) μ):zV [.int a] μ K Z:=by
 unfold zV
 refine⟨rfl,?_⟩
 refine zB ?_
 have q:K (.bl (decide (0<=a))) μ:=by rw[decide_eq_true h];exact q
 exact q
theorem uM(h:μ[i]?=some (.obj 45 []))(ha:0<=ah)(hs:0<=sd)(q:∀μ',Ch [i] μ μ'->μ'.length=μ.length->μ'[i]?=some (hsO sh ah sd kp none none none (.lst []) false)->K .non μ') :
  qx [.mut i,sh,.int ah,.int sd,kp,.non] μ K Z:=by
 unfold qx
 refine⟨rfl,?_⟩
 refine uK ha ?_
 refine uK hs ?_
 refine⟨_,_,h,by show (0:Nat)<900;decide,?_⟩
 refine⟨_,_,get_set h,by show (1:Nat)<900;decide,?_⟩
 refine⟨_,_,get_set (get_set h),by show (2:Nat)<900;decide,?_⟩
 refine⟨_,_,get_set (get_set (get_set h)),by show (3:Nat)<900;decide,?_⟩
 refine⟨_,_,get_set (get_set (get_set (get_set h))),by show (4:Nat)<900;decide,?_⟩
 refine⟨_,_,get_set (get_set (get_set (get_set (get_set h)))),by show (5:Nat)<900;decide,?_⟩
 refine⟨_,_,get_set (get_set (get_set (get_set (get_set (get_set h))))),by show (6:Nat)<900;decide,?_⟩
 refine⟨_,_,get_set (get_set (get_set (get_set (get_set (get_set (get_set h)))))),by show (7:Nat)<900;decide,?_⟩
 refine⟨_,_,get_set (get_set (get_set (get_set (get_set (get_set (get_set (get_set h))))))),by show (8:Nat)<900;decide,?_⟩
 refine q _ ((((((((Ch.set.trans Ch.set).trans Ch.set).trans Ch.set).trans Ch.set).trans Ch.set).trans Ch.set).trans Ch.set).trans Ch.set) (by simp) ?_
 exact get_set (get_set (get_set (get_set (get_set (get_set (get_set (get_set (get_set h))))))))
structure Hz(x y z:Int):Prop where
 x1:1<=x
 y1:1<=y
 y2:y<=1000000
 z1:1<=z
 z2:z<=1000000
theorem Hz.sy(s:Hz x y z):Sy y z:=⟨s.y1,by have:=s.y2;omega,s.z1,by have:=s.z2;omega⟩
theorem xB{k:Int}(s:Hz x y z)(h0:0<=k)(h1:k<x * y * z)(q:K (.tup [.int (k / z / y),.int (k / z % y),.int (k % z)]) μ):vD [shp x y z,.int k] μ K Z:=by
 obtain⟨x1,y1,y2,z1,z2⟩:=id s
 unfold vD
 refine⟨rfl,?_⟩
 refine uR s.sy (by rw[decide_eq_true h0,decide_eq_true h1];rfl) ?_
 refine⟨by omega,⟨by omega,by omega⟩,⟨by omega,by omega⟩,by omega,?_⟩
 exact q
noncomputable def plA(y z h k:Int):Int:=if k / z % y<h then k / z / y * z else if h<k / z % y then (k / z / y+1) * z else k / z / y * z+k % z+1
theorem yI{h k:Int}(s:Hz x y z)(h0:0<=k)(h1:k<x * y * z)(q:K (.int (plA y z h k)) μ):w8 [shp x y z,.int h,.int k] μ K Z:=by
 obtain⟨x1,y1,y2,z1,z2⟩:=id s
 unfold w8
 refine⟨rfl,?_⟩
 refine xB s h0 h1 ?_
 refine⟨_,rfl,?_⟩
 unfold plA at q
 refine zK (λe=>?_) (λe=>?_)
 ·rw[if_pos e] at q
  refine⟨_,rfl,.inr ⟨by unfold big;omega,by unfold big;omega⟩,?_⟩
  exact q
 ·rw[if_neg e] at q
  refine⟨_,rfl,?_⟩
  refine zK (λe=>?_) (λe=>?_)
  ·rw[if_pos e] at q
   refine⟨_,rfl,.inr ⟨by unfold big;omega,by unfold big;omega⟩,?_⟩
   exact q
  ·rw[if_neg e] at q
   refine⟨_,rfl,.inr ⟨by unfold big;omega,by unfold big;omega⟩,?_⟩
   refine⟨_,rfl,?_⟩
   exact q
noncomputable abbrev z2d(h b e:Int):T:=.obj 44 [(11,.int h),(12,.int b),(13,.int e)]
end NH.P
end
section
namespace NH.P
open PySem L2 NH
variable {μ μ1 μ2:Mem}{K:T->Mem->Prop}{Z:Xp}{x y z:Int}{i:Nat}{sh kp bt:T}{ah sd:Int}{l l':Option Ls}{m m' n:Option Int}
noncomputable def nmA(y z h p:Int):Int:=(p / z * y+h) * z+p % z
noncomputable def nmL (y z h b k:Int):List Int:=(List.range k.toNat).map λ(j:Nat)=>nmA y z h (b+j)
theorem y7{mo h k:Int}(s:Hz x y z)(m0:0<=mo)(m1:mo<x)(h0:0<=h)(h1:h<y)(k0:0<=k)(k1:k<z)(q:K (.int ((mo * y+h) * z+k)) μ):jK [shp x y z,.int mo,.int h,.int k] μ K Z:=by
 obtain⟨x1,y1,y2,z1,z2⟩:=id s
 unfold jK
 refine⟨rfl,?_⟩
 refine wm m0 m1 ?_
 refine wm h0 h1 ?_
 refine wm k0 k1 ?_
 refine⟨.inr ⟨by unfold big;omega,by unfold big;omega⟩,?_⟩
 refine⟨.inr ⟨by unfold big;omega,by unfold big;omega⟩,?_⟩
 exact q
theorem place_lt{p:Int}(s:Hz x y z)(h1:p<x * z):p / z<x:=by
 have:=s.z1
 exact Int.ediv_lt_of_lt_mul (by omega) h1
theorem y_{h p:Int}(s:Hz x y z)(p0:0<=p)(p1:p<x * z)(h0:0<=h)(h1:h<y)(q:K (.int (nmA y z h p)) μ):jH [shp x y z,.int h,.int p] μ K Z:=by
 obtain⟨x1,y1,y2,z1,z2⟩:=id s
 unfold jH
 refine⟨rfl,?_⟩
 refine⟨⟨by omega,by omega⟩,?_⟩
 refine⟨by omega,?_⟩
 exact y7 s (Int.ediv_nonneg p0 (by omega)) (place_lt s p1) h0 h1 (Int.emod_nonneg _ (by omega)) (Int.emod_lt_of_pos _ (by omega)) q
theorem Vb{b k:Int}(hk:1<=k):kM b (b+k) 1=(List.range k.toNat).map λ(j:Nat)=>T.int (b+j):=by
 unfold kM
 rw[if_pos (by omega)]
 have:(b+k-b-1) / 1+1=k:=by rw[Int.ediv_one];omega
 rw[this]
 simp
theorem kj{h b k:Int}(s:Hz x y z)(hb:x * z<1000000000000000000000000000000000000000000000000000000000000)(b0:0<=b)(k1:1<=k)(k2:k<=1000000)(be:b+k<=x * z)(h0:0<=h)(h1:h<y)(q:K (.lst ((nmL y z h b k).map T.int)) μ):qt [shp x y z,z2d h b (b+k)] μ K Z:=by
 unfold qt
 refine⟨rfl,?_⟩
 refine⟨⟨⟨by omega,by omega⟩,⟨by omega,by omega⟩⟩,?_⟩
 rw[Vb k1]
 refine⟨by rw[List.length_map,List.length_range];unfold room;omega,?_⟩
 refine wB (λ(j:Nat)=>T.int (b+j)) (λ(j:Nat)=>some (T.int (nmA y z h (b+j)))) (λj hj kk hkk=>?_) ?_ trivial
 ·have hj:j<k.toNat:=List.mem_range.mp hj
  refine⟨_,rfl,?_⟩
  exact y_ s (by omega) (by omega) h0 h1 hkk
 ·rw[List.filterMap_eq_map']
  unfold nmL at q
  rw[List.map_map] at q
  exact q
theorem ug{mo:Int}(h:μ[i]?=some (hsO (shp x y z) ah sd kp l m n bt false))(q:∀mb:Int,K (.int mb) μ):zO [.mut i,.int mo] μ K Z:=by
 unfold zO
 refine⟨rfl,?_⟩
 refine⟨_,_,_,h,rfl,?_⟩
 have fin:∀τ:Sl,τ=[some (.mut i),some (.int mo)]->w4 (qc.drop 1) τ μ (En.fn K Z):=λτ e=>by
  subst e
  refine⟨_,_,_,h,rfl,?_⟩
  refine⟨_,_,_,h,rfl,?_⟩
  exact q _
 cases m with
 |none=>exact fin _ rfl
 |some mm=>
  refine⟨_,_,_,h,rfl,?_⟩
  refine zK (λe=>?_) (λe=>?_)
  ·refine⟨_,_,_,h,rfl,?_⟩
   exact q mm
  ·exact fin _ rfl
end NH.P
end
section
namespace NH.P
open PySem L2 NH
variable {μ μ1 μ2:Mem}{K:T->Mem->Prop}{Z:Xp}{x y z:Int}{i:Nat}{sh kp bt:T}{ah sd:Int}{l l':Option Ls}{m m' n:Option Int}
theorem Wj{z a b c d:Int}(c0:0<=c)(c1:c<z)(d0:0<=d)(d1:d<z):a * z+c<b * z+d↔a<b\/(a=b/\c<d):=by
 have up:∀{p q:Int},p<q->p * z+z<=q * z:=λ{p q} h=>by
  have:=Int.mul_le_mul_of_nonneg_right (show p+1<=q by omega) (show 0<=z by omega)
  rw[Int.add_mul,Int.one_mul] at this
  exact this
 constructor
 ·intro h
  by_cases e:a<b
  ·exact .inl e
  ·by_cases e2:a=b
   ·subst e2;exact .inr ⟨rfl,by omega⟩
   ·have:=up (show b<a by omega);omega
 ·rintro (h|⟨rfl,h⟩)
  ·have:=up h;omega
  ·omega
theorem Xw(k:Int)(y z:Int):k=(k / z / y * y+k / z % y) * z+k % z:=by
 have e1:=Int.mul_ediv_add_emod k z
 have e2:=Int.mul_ediv_add_emod (k / z) y
 rw[Int.mul_comm (k / z / y) y,e2,Int.mul_comm (k / z) z]
 exact e1.symm
theorem YC{h k p:Int}(s:Hz x y z)(h0:0<=h)(h1:h<y):k<nmA y z h p↔plA y z h k<=p:=by
 obtain⟨x1,y1,y2,z1,z2⟩:=id s
 have c0:=Int.emod_nonneg k (show z≠0 by omega)
 have c1:=Int.emod_lt_of_pos k (show 0<z by omega)
 have d0:=Int.emod_nonneg p (show z≠0 by omega)
 have d1:=Int.emod_lt_of_pos p (show 0<z by omega)
 have a0:=Int.emod_nonneg (k / z) (show y≠0 by omega)
 have a1:=Int.emod_lt_of_pos (k / z) (show 0<y by omega)
 have ep:=Int.mul_ediv_add_emod p z
 have ek:=Xw k y z
 unfold nmA plA
 conv=>lhs;lhs;rw[ek]
 rw[Wj c0 c1 d0 d1,Wj a0 a1 h0 h1]
 have le:∀A:Int,A * z<=p↔A<=p / z:=λA=>(Int.le_ediv_iff_mul_le (by omega)).symm
 have eqA:∀A B:Int,A * y+k / z % y=B * y+h↔A=B/\k / z % y=h:=λA B=>by
  have l1:=Wj (z:=y) (a:=A) (b:=B) (c:=k / z % y) (d:=h) a0 a1 h0 h1
  have l2:=Wj (z:=y) (a:=B) (b:=A) (c:=h) (d:=k / z % y) h0 h1 a0 a1
  constructor
  ·intro e
   have n1:¬(A<B\/(A=B/\k / z % y<h)):=λw=>by have:=l1.mpr w;omega
   have n2:¬(B<A\/(B=A/\h<k / z % y)):=λw=>by have:=l2.mpr w;omega
   omega
  ·rintro⟨rfl,e⟩;rw[e]
 rw[eqA]
 split
 ·rename_i e
  rw[le];omega
 ·split
  ·rename_i e1 e2
   rw[le];omega
  ·rename_i e1 e2
   have e3:k / z % y=h:=by omega
   have lx:=Wj (z:=z) (a:=k / z / y) (b:=p / z) (c:=k % z) (d:=p % z) c0 c1 d0 d1
   have:p=p / z * z+p % z:=by rw[Int.mul_comm];exact ep.symm
   constructor
   ·intro w
    have:=lx.mpr (by omega)
    omega
   ·intro w
    have:=lx.mp (by omega)
    omega
theorem Jy{h p q:Int}(s:Hz x y z)(h0:0<=h)(h1:h<y)(pq:p<q):nmA y z h p<nmA y z h q:=by
 obtain⟨x1,y1,y2,z1,z2⟩:=id s
 have c0:=Int.emod_nonneg p (show z≠0 by omega)
 have c1:=Int.emod_lt_of_pos p (show 0<z by omega)
 have d0:=Int.emod_nonneg q (show z≠0 by omega)
 have d1:=Int.emod_lt_of_pos q (show 0<z by omega)
 have e1:p=p / z * z+p % z:=by rw[Int.mul_comm];exact (Int.mul_ediv_add_emod p z).symm
 have e2:q=q / z * z+q % z:=by rw[Int.mul_comm];exact (Int.mul_ediv_add_emod q z).symm
 have lx:=(Wj (z:=z) (a:=p / z) (b:=q / z) (c:=p % z) (d:=q % z) c0 c1 d0 d1).mp (by omega)
 unfold nmA
 rw[Wj c0 c1 d0 d1]
 rcases lx with w|⟨w,v⟩
 ·have:=(Wj (z:=y) (a:=p / z) (b:=q / z) (c:=h) (d:=h) h0 h1 h0 h1).mpr (.inl w)
  exact .inl this
 ·rw[w];exact .inr ⟨rfl,v⟩
theorem Yq{h p:Int}(s:Hz x y z)(h0:0<=h)(h1:h<y):nmA y z h p / z / y=p / z/\nmA y z h p / z % y=h/\nmA y z h p % z=p % z:=by
 obtain⟨x1,y1,y2,z1,z2⟩:=id s
 have c0:=Int.emod_nonneg p (show z≠0 by omega)
 have c1:=Int.emod_lt_of_pos p (show 0<z by omega)
 have a:((p / z * y+h) * z+p % z) / z=p / z * y+h/\((p / z * y+h) * z+p % z) % z=p % z:=(Int.ediv_emod_unique (by omega)).mpr ⟨by rw[Int.mul_comm z,Int.add_comm],c0,c1⟩
 have b:(p / z * y+h) / y=p / z/\(p / z * y+h) % y=h:=(Int.ediv_emod_unique (by omega)).mpr ⟨by rw[Int.mul_comm y,Int.add_comm],h0,h1⟩
 unfold nmA
 rw[a.1,b.1,b.2,a.2]
 exact⟨rfl,rfl,rfl⟩
theorem z1E{h p:Int}(s:Hz x y z)(h0:0<=h)(h1:h<y)(p0:0<=p)(p1:p<x * z):0<=nmA y z h p/\nmA y z h p<x * y * z:=by
 obtain⟨x1,y1,y2,z1,z2⟩:=id s
 have:=V4 (x:=x) (y:=y) (z:=z) (Int.ediv_nonneg p0 (show 0<=z by omega)) (place_lt s p1) h0 h1 (Int.emod_nonneg p (show z≠0 by omega)) (Int.emod_lt_of_pos p (show 0<z by omega))
 exact⟨this.1,this.2.1⟩
variable {a:Ls}{r k:Int}{c:Nat}
end NH.P
end
section
namespace NH.P
open PySem L2 NH
variable {μ μ1 μ2:Mem}{K:T->Mem->Prop}{Z:Xp}{x y z:Int}{i:Nat}{sh kp bt:T}{ah sd:Int}{l l':Option Ls}{m m' n:Option Int}{a:Ls}{r k:Int}{c:Nat}
theorem YO{v w:Str}{b c:Int}:eqL [.str v,.int b] [.str w,.int c]=some (decide (v=w)&&decide (b=c)):=by
 have h:∀i j:Int,(i == j)=decide (i=j):=λi j=>by
  by_cases z:i=j<;>simp[z]
 have h2:(v == w)=decide (v=w):=by
  by_cases z:v=w<;>simp[z]
 simp[eqL,eqT,h,h2]
end NH.P
end
section
namespace NH.P
open PySem L2 NH
variable {μ μ1 μ2:Mem}{K:T->Mem->Prop}{Z:Xp}{x y z h:Int}{i:Nat}{sh kp bt:T}{ah sd:Int}{l l':Option Ls}{m m' n:Option Int}{a:Ls}{r k:Int}{c:Nat}
theorem Q8{b:Int}:(nmL y z h b k).length=k.toNat:=by unfold nmL;simp
theorem z0M{b k1 k2:Int}(h1:0<=k1)(h2:0<=k2):nmL y z h b (k1+k2)=nmL y z h b k1++nmL y z h (b+k1) k2:=by
 unfold nmL
 have e:(k1+k2).toNat=k1.toNat+k2.toNat:=by omega
 rw[e,List.range_add,List.map_append,List.map_map]
 congr 1
 refine List.map_congr_left λj _=>?_
 show nmA y z h (b+((k1.toNat+j:Nat):Int))=nmA y z h (b+k1+(j:Int))
 congr 1
 push_cast
 omega
end NH.P
end
section
namespace NH.P
open PySem L2 NH
variable {μ μ1 μ2:Mem}{K:T->Mem->Prop}{Z:Xp}{x y z:Int}{i bi:Nat}{sh kp bt:T}{ah sd:Int}{l l':Option Ls}{m m' n:Option Int}{a:Ls}{r k h c:Int}
noncomputable def Zs(y z h:Int)(n m:Option Int):Int:=match n with
 |some k=>plA y z h k
 |none=>(match m with|none=>0|some mm=>(mm+1) * z)
theorem Wx(s:Hz x y z)(ho:μ[i]?=some (hsO (shp x y z) ah sd kp (some a) m n bt false))(hn:∀k,n=some k->0<=k/\k<x * y * z)(q:K (.int (Zs y z a.1 n m)) μ):z_ [.mut i] μ K Z:=by
 obtain⟨x1,y1,y2,z1,z2⟩:=id s
 unfold z_
 refine⟨rfl,?_⟩
 refine⟨_,_,_,ho,rfl,?_⟩
 cases n with
 |some k=>
  refine⟨_,_,_,ho,rfl,?_⟩
  refine⟨_,_,_,ho,rfl,?_⟩
  refine⟨_,rfl,?_⟩
  refine⟨_,_,_,ho,rfl,?_⟩
  exact yI s (hn k rfl).1 (hn k rfl).2 q
 |none=>
  refine⟨_,_,_,ho,rfl,?_⟩
  cases m with
  |none=>exact q
  |some mm=>
   refine⟨_,_,_,ho,rfl,?_⟩
   refine⟨_,_,_,ho,rfl,?_⟩
   refine⟨.inr ⟨by unfold big;omega,by unfold big;omega⟩,?_⟩
   exact q
noncomputable def AtC (y z:Int)(a:Ls)(n m:Option Int)(r c:Int):Prop:=(Zs y z a.1 n m<=r * z/\c=0)\/(Zs y z a.1 n m=r * z+c/\0<c)
theorem Ym(s:Hz x y z)(ok:LsOk x y a)(ho:μ[i]?=some (hsO (shp x y z) ah sd kp (some a) m n bt false))(hn:∀k,n=some k->0<=k/\k<x * y * z)(ha:0<=ah)(hr:a.2.1<=r)(hu:r<a.2.2)(k1:1<=k)(hc:AtC y z a n m r c)(ck:c+k<=z)(q:K (z2d a.1 (r * z+c) (r * z+c+k)) μ) :
  qa [.mut i,.int r,.int k] μ K Z:=by
 obtain⟨x1,y1,y2,z1,z2⟩:=id s
 have f0:=ok.f0
 have c0:0<=c:=by rcases hc with w|w<;>omega
 have uz:r * z+z<=a.2.2 * z:=by
  have:=Int.mul_le_mul_of_nonneg_right (show r+1<=a.2.2 by omega) (show 0<=z by omega)
  rw[Int.add_mul,Int.one_mul] at this
  exact this
 have eM:(if a.2.1<r then r else a.2.1)=r:=by split<;>omega
 have eB:(if Zs y z a.1 n m<r * z then r * z else Zs y z a.1 n m)=r * z+c:=by
  rcases hc with⟨w,v⟩|⟨w,v⟩
  ·rw[v]
   by_cases e:Zs y z a.1 n m<r * z
   ·rw[if_pos e];omega
   ·rw[if_neg e];omega
  ·rw[if_neg (by omega),w]
 have eD:(r * z+c+k-1) / z=r:=by
  have:r * z+c+k-1=(c+k-1)+r * z:=by omega
  rw[this,Int.add_mul_ediv_right _ _ (by omega),Int.ediv_eq_zero_of_lt (by omega) (by omega)]
  omega
 have fin:∀B L:Int,B=r * z+c->w4 (qj.drop 5) [some (.mut i),some (.int r),some (.int k),some (.int L),some (.int B),none,none] μ (En.fn K Z):=by
  intro B L hB
  subst hB
  refine⟨_,_,_,ho,rfl,?_⟩
  refine⟨_,rfl,?_⟩
  refine⟨_,_,_,ho,rfl,?_⟩
  refine⟨.inr ⟨by unfold big;omega,by unfold big;omega⟩,?_⟩
  refine VW (by omega) ?_
  refine⟨_,_,_,ho,rfl,?_⟩
  refine⟨⟨by omega,by omega⟩,?_⟩
  refine⟨_,_,_,ho,rfl,?_⟩
  refine VW (by rw[eD];omega) ?_
  refine⟨_,_,_,ho,rfl,?_⟩
  refine⟨_,rfl,?_⟩
  refine⟨rfl,?_⟩
  unfold jm
  refine⟨rfl,?_⟩
  refine⟨_,_,rfl,by show (0:Nat)<900;decide,?_⟩
  refine⟨_,_,rfl,by show (1:Nat)<900;decide,?_⟩
  refine⟨_,_,rfl,by show (2:Nat)<900;decide,?_⟩
  refine⟨rfl,_,rfl,rfl,?_⟩
  exact q
 unfold qa
 refine⟨rfl,?_⟩
 refine qE ?_
 rw[decide_eq_true k1]
 refine⟨_,_,_,ho,rfl,?_⟩
 refine VW (by omega) ?_
 refine zB ?_
 refine⟨_,ho,?_⟩
 unfold zN
 refine⟨rfl,?_⟩
 refine⟨_,_,_,ho,rfl,?_⟩
 refine⟨_,_,_,ho,rfl,?_⟩
 refine⟨_,rfl,?_⟩
 refine⟨_,_,_,ho,rfl,?_⟩
 refine⟨.inr ⟨by unfold big;omega,by unfold big;omega⟩,?_⟩
 refine⟨_,ho,?_⟩
 refine Wx s ho hn ?_
 exact fin _ _ (by rw[eM];exact eB)
theorem Yc(s:Hz x y z)(ok:LsOk x y a)(hk:Wd kp)(ho:μ[i]?=some (hsO (shp x y z) ah sd kp (some a) m n bt false))(hn:∀k,n=some k->0<=k/\k<x * y * z)(ha:0<=ah)(hr:a.2.1<=r)(hu:r<a.2.2)(k1:1<=k)(hc:AtC y z a n m r c)(ck:c+k<=z)
  (q:∀μ' mb,Ch [i] μ μ'->μ'.length=μ.length->μ'[i]?=some (hsO (shp x y z) ah sd kp (some a) (some mb) (some (nmA y z a.1 (r * z+c+k-1))) bt false)->K (z2d a.1 (r * z+c) (r * z+c+k)) μ') :
  zU [.mut i,.int r,.int k] μ K Z:=by
 obtain⟨x1,y1,y2,z1,z2⟩:=id s
 have f0:=ok.f0
 have c0:0<=c:=by rcases hc with w|w<;>omega
 have rz0:0<=r * z:=Int.mul_nonneg (by omega) (by omega)
 have uz:r * z+z<=a.2.2 * z:=by
  have:=Int.mul_le_mul_of_nonneg_right (show r+1<=a.2.2 by omega) (show 0<=z by omega)
  rw[Int.add_mul,Int.one_mul] at this
  exact this
 have ux:a.2.2 * z<=x * z:=Int.mul_le_mul_of_nonneg_right ok.ux (by omega)
 unfold zU
 refine⟨rfl,?_⟩
 refine⟨_,ho,?_⟩
 refine xK ho ?_
 refine⟨_,ho,?_⟩
 refine Ym s ok ho hn ha hr hu k1 hc ck ?_
 refine⟨_,ho,?_⟩
 refine⟨_,_,_,ho,rfl,?_⟩
 refine⟨_,ho,?_⟩
 refine⟨_,_,_,ho,rfl,?_⟩
 refine⟨⟨by omega,by omega⟩,?_⟩
 refine ug ho λmb=>?_
 refine JD (l':=some a) (m':=some mb) ho hk λμ' ch hl h'=>?_
 refine⟨_,_,_,h',rfl,?_⟩
 refine y_ s (by omega) (by omega) ok.h0 ok.h1 ?_
 refine⟨_,_,h',by show (9:Nat)<900;decide,?_⟩
 refine q _ mb (ch.trans Ch.set) (by simp[hl]) ?_
 exact get_set h'
end NH.P
end
section
namespace NH.P
open PySem L2 NH
variable {μ μ1 μ2:Mem}{K:T->Mem->Prop}{Z:Xp}{x y z:Int}{i c g d w:Nat}
theorem Wk{k k':Key}{t:T}:∀kvs:List (Key×T),zd k' (kvs.map λkv=>if kv.1=k then (kv.1,t) else kv)=if k'=k then (zd k kvs).map λ_=>t else zd k' kvs
 |[]=>by simp[zd]
 |p::r=>by
  have ih:=Wk (k:=k) (k':=k') (t:=t) r
  by_cases e:p.1=k
  ·by_cases e2:k'=k
   ·simp[zd,e,e2]
   ·have e3:¬k=k':=λw=>e2 w.symm
    simp only[List.map_cons,e,if_true,zd,if_neg e3,if_neg e2] at ih ⊢
    exact ih
  ·by_cases e2:k'=k
   ·subst e2
    simp only[List.map_cons,if_neg e,zd,if_true] at ih ⊢
    exact ih
   ·simp only[List.map_cons,if_neg e,zd,if_neg e2] at ih ⊢
    by_cases e4:p.1=k'
    ·simp[e4]
    ·simp only[if_neg e4];exact ih
theorem QS{k:Key}:∀kvs:List (Key×T),(kvs.any λkv=>decide (kv.1=k))=(zd k kvs).isSome
 |[]=>rfl
 |p::r=>by
  rw[List.any_cons,QS r]
  by_cases e:p.1=k
  ·simp[zd,e]
  ·simp[zd,e]
theorem ZJ{k k':Key}{t:T}:∀kvs:List (Key×T),zd k kvs=none->zd k' (kvs++[(k,t)])=if k'=k then some t else zd k' kvs
 |[],_=>by
  by_cases e:k'=k
  ·simp[zd,e]
  ·have:¬k=k':=λw=>e w.symm
   simp[zd,e,this]
 |p::r,h=>by
  unfold zd at h
  by_cases e:p.1=k
  ·rw[if_pos e] at h;cases h
  ·rw[if_neg e] at h
   have ih:=ZJ (k':=k') (t:=t) r h
   show zd k' (p::(r++[(k,t)]))=_
   unfold zd
   by_cases e2:p.1=k'
   ·have:¬k'=k:=λw=>e (e2.trans w)
    simp[e2,this]
   ·rw[if_neg e2,if_neg e2,ih]
theorem wu{k k':Key}{t:T}(kvs:List (Key×T)):zd k' (wI k t kvs)=if k'=k then some t else zd k' kvs:=by
 unfold wI
 rw[QS]
 cases h:zd k kvs with
 |none=>rw[if_neg (by simp)];exact ZJ kvs h
 |some v=>rw[if_pos (by simp),Wk,h];rfl
structure Hs where
 a:Ls
 n:Option Int
inductive Row where
 |lease (ho:Str) (hs:Option Int) (m n:Int)
 |ask (ho:Str) (r k:Int)
noncomputable def Row.t:Row->T
 |.lease ho hs m n=>.tup [.str "lease",.str ho,opT hs,.int m,.int n]
 |.ask ho r k=>.tup [.str "ask",.str ho,.int r,.int k]
structure S7 where
 G:List Gp
 hm:Str->Option Hs
 td:List (Str×Int)
noncomputable def upH(hm:Str->Option Hs)(ho:Str)(h:Hs):Str->Option Hs:=λs=>if s=ho then some h else hm s
structure HoOk(ho:Str):Prop where
 l:ho.length<=room
 h:wY ho=true
noncomputable def Sp7 (x y z:Int)(r:Row)(s s':S7):Prop:=match r with
 |.lease ho hs m n=>HoOk ho/\(∀h,hs=some h->0<=h/\h<y)/\1<=n/\∃h b,0<=h/\h<y/\0<=b/\b+n<=x/\Lease s.G (opT hs) (if m<0 then 0 else m) n h b/\s'=⟨s.G++[(0,⟨ho,h,b,b+n,b+n,false⟩)],upH s.hm ho ⟨(h,b,b+n),(s.hm ho).bind Hs.n⟩,s.td⟩
 |.ask ho r k=>HoOk ho/\∃hh c,s.hm ho=some hh/\hh.a.2.1<=r/\r<hh.a.2.2/\1<=k/\k<=1000/\c+k<=z/\AtC y z hh.a hh.n none r c/\s'=⟨s.G,upH s.hm ho ⟨hh.a,some (nmA y z hh.a.1 (r * z+c+k-1))⟩,s.td++(nmL y z hh.a.1 (r * z+c) k).map λv=>(ho,v)⟩
noncomputable def Run7 (x y z:Int):List Row->S7->S7->Prop
 |[],s,t=>t=s
 |r::rs,s,t=>∃m,Sp7 x y z r s m/\Run7 x y z rs m t
theorem Run7.snoc{r:Row}{m t:S7}:∀{rs:List Row} {s:S7},Run7 x y z rs s m->Sp7 x y z r m t->Run7 x y z (rs++[r]) s t
 |[],s,h,q=>by cases h;exact⟨t,q,rfl⟩
 |a::rs,s,⟨u,h1,h2⟩,q=>⟨u,h1,Run7.snoc h2 q⟩
structure WF(x y z:Int)(s:S7):Prop where
 ls:∀ho hh,s.hm ho=some hh->LsOk x y hh.a
 nm:∀ho hh v,s.hm ho=some hh->hh.n=some v->0<=v/\v<x * y * z
theorem Sp7.wf{r:Row}{s t:S7}(sz:Hz x y z)(w:WF x y z s)(h:Sp7 x y z r s t):WF x y z t:=by
 cases r with
 |lease ho hs m n=>
  obtain⟨_,_,n1,h,b,h0,h1,b0,bx,_,rfl⟩:=h
  refine⟨λho' hh e=>?_,λho' hh v e ev=>?_⟩
  ·have e:(if ho'=ho then some _ else s.hm ho')=some hh:=e
   by_cases q:ho'=ho
   ·rw[if_pos q] at e;cases e
    exact⟨h0,h1,b0,by show b<b+n;omega,bx⟩
   ·rw[if_neg q] at e;exact w.ls _ _ e
  ·have e:(if ho'=ho then some _ else s.hm ho')=some hh:=e
   by_cases q:ho'=ho
   ·rw[if_pos q] at e;cases e
    have ev:(s.hm ho).bind Hs.n=some v:=ev
    obtain⟨h2,e2,e3⟩:=Option.bind_eq_some_iff.mp ev
    exact w.nm _ _ _ e2 e3
   ·rw[if_neg q] at e;exact w.nm _ _ _ e ev
 |ask ho r k=>
  obtain⟨_,hh0,c,e0,r0,r1,k1,k2,ck,at_,rfl⟩:=h
  have ok:=w.ls _ _ e0
  refine⟨λho' hh e=>?_,λho' hh v e ev=>?_⟩
  ·have e:(if ho'=ho then some _ else s.hm ho')=some hh:=e
   by_cases q:ho'=ho
   ·rw[if_pos q] at e;cases e;exact ok
   ·rw[if_neg q] at e;exact w.ls _ _ e
  ·have e:(if ho'=ho then some _ else s.hm ho')=some hh:=e
   by_cases q:ho'=ho
   ·rw[if_pos q] at e;cases e
    cases ev
    have z1:=sz.z1
    have f0:=ok.f0
    have c0:0<=c:=by rcases at_ with q|q<;>omega
    have rz:0<=r * z:=Int.mul_nonneg (by omega) (by omega)
    have uz:=Int.mul_le_mul_of_nonneg_right (show r+1<=x by have:=ok.ux;omega) (show 0<=z by omega)
    rw[Int.add_mul,Int.one_mul] at uz
    exact z1E sz ok.h0 ok.h1 (by omega) (by omega)
   ·rw[if_neg q] at e;exact w.nm _ _ _ e ev
theorem z2n{a:Ls}{n m:Option Int}{r k cc:Int}(s:Hz x y z)(hb:x * z<1000000000000000000000000000000000000000000000000000000000000)(ok:LsOk x y a){kp bt:T}{ah sd:Int}(hk:Wd kp)(ho:μ[i]?=some (hsO (shp x y z) ah sd kp (some a) m n bt false))(hn:∀k,n=some k->0<=k/\k<x * y * z)(ha:0<=ah)(hr:a.2.1<=r)(hu:r<a.2.2)(k1:1<=k)(k3:k<=1000)(hc:AtC y z a n m r cc)(ck:cc+k<=z)
  (q:∀μ' mb,Ch [i] μ μ'->μ'.length=μ.length->μ'[i]?=some (hsO (shp x y z) ah sd kp (some a) (some mb) (some (nmA y z a.1 (r * z+cc+k-1))) (.lst []) false)->K (.lst ((nmL y z a.1 (r * z+cc) k).map T.int)) μ') :
  qw [.mut i,.int r,.int k] μ K Z:=by
 obtain⟨x1,y1,y2,z1,z2⟩:=id s
 have c0:0<=cc:=by rcases hc with w|w<;>omega
 have f0:=ok.f0
 have rz0:0<=r * z:=Int.mul_nonneg (by omega) (by omega)
 have uz:r * z+z<=a.2.2 * z:=by
  have:=Int.mul_le_mul_of_nonneg_right (show r+1<=a.2.2 by omega) (show 0<=z by omega)
  rw[Int.add_mul,Int.one_mul] at this
  exact this
 have ux:a.2.2 * z<=x * z:=Int.mul_le_mul_of_nonneg_right ok.ux (by omega)
 unfold qw
 refine⟨rfl,?_⟩
 refine⟨_,ho,?_⟩
 refine Yc s ok hk ho hn ha hr hu k1 hc ck λμ' mb ch hl h'=>?_
 refine⟨_,_,h',by show (9:Nat)<900;decide,?_⟩
 refine⟨_,_,_,get_set h',rfl,?_⟩
 refine kj s hb (by omega) k1 (by omega) (by omega) ok.h0 ok.h1 ?_
 exact q _ mb (ch.trans Ch.set) (by simp[hl]) (get_set h')
noncomputable abbrev kp7:T:=.clo 1 []
theorem z5g:Wd kp7:=.inr (.inl rfl)
noncomputable abbrev hs7(x y z:Int)(l:Option Ls)(m n:Option Int):MO:=hsO (shp x y z) 0 0 kp7 l m n (.lst []) false
structure HD(μ:Mem)(x y z:Int)(kvs:List (Key×T))(hm:Str->Option Hs):Prop where
 no:∀ho,hm ho=none->zd (.inr ho) kvs=none
 so:∀ho hh,hm ho=some hh->∃i m,zd (.inr ho) kvs=some (.mut i)/\μ[i]?=some (hs7 x y z (some hh.a) m hh.n)/\(hh.n=none->m=none)
 inj:∀ho ho' i,zd (.inr ho) kvs=some (.mut i)->zd (.inr ho') kvs=some (.mut i)->ho=ho'
theorem xM{ho:Str}{kvs:List (Key×T)}{hm:Str->Option Hs}(H:HD μ x y z kvs hm)(hd:μ[d]?=some (.dic kvs))(hl:kvs.length<=1000)(o:HoOk ho)
  (q1:∀i,zd (.inr ho) kvs=some (.mut i)->K (.mut i) μ)
  (q2:hm ho=none->∀μ',Ch [d] μ μ'->μ'[d]?=some (.dic (wI (.inr ho) (.mut μ.length) kvs))->μ'[μ.length]?=some (hs7 x y z none none none)->K (.mut μ.length) μ') :
  vA [.mut d,shp x y z,.str ho] μ K Z:=by
 have dl:d<μ.length:=(List.getElem?_eq_some_iff.mp hd).1
 unfold vA
 refine⟨rfl,?_⟩
 refine vM o.l o.h ?_
 refine⟨_,hd,?_⟩
 cases h:hm ho with
 |some hh=>
  obtain⟨i,m,h1,h2,h3⟩:=H.so ho hh h
  refine z3T (by rw[h1];rfl) ?_
  exact⟨_,_,hd,h1,q1 i h1⟩
 |none=>
  have h1:=H.no ho h
  refine z68 (by rw[h1];rfl) ?_
  refine uM zx (Int.le_refl _) (Int.le_refl _) λμ1 ch hl1 h2=>?_
  refine⟨rfl,?_⟩
  have d1:=ch.get (zw hd) (by simp;omega)
  refine⟨_,d1,by unfold room;omega,?_⟩
  have d2:=get_set (y:=.dic (wI (.inr ho) (.mut μ.length) kvs)) d1
  refine⟨_,_,d2,by rw[wu,if_pos rfl],?_⟩
  refine q2 h _ ?_ d2 ?_
  ·have c1:Ch [] μ μ1:=⟨Nat.le_trans Ch.app.len ch.len,λj hj hs=>by
    rw[ch.ot j (Nat.lt_of_lt_of_le hj Ch.app.len) (by simp;omega)]
    exact List.getElem?_append_left hj⟩
   exact (c1.mono (by simp)).trans Ch.set
  ·rw[List.getElem?_set_ne (by omega)]
   exact h2
theorem V0{r:Row}(q:K (.bl true) μ):vc [r.t] μ K Z:=by
 unfold vc
 cases r with
 |lease ho hs m n=>
  refine⟨rfl,?_⟩
  refine⟨_,rfl,?_⟩
  refine⟨_,rfl,?_⟩
  refine⟨_,rfl,by intro t ht;simp at ht;rcases ht with rfl|rfl<;>rfl,?_⟩
  exact q
 |ask ho r k=>
  refine⟨rfl,?_⟩
  refine⟨_,rfl,?_⟩
  refine⟨_,rfl,?_⟩
  refine⟨_,rfl,by intro t ht;simp at ht;rcases ht with rfl|rfl<;>rfl,?_⟩
  exact q
end NH.P
end
section
namespace NH.P
open PySem L2 NH
variable {μ μ1 μ2:Mem}{K:T->Mem->Prop}{Z:Xp}{x y z:Int}{i c g d w L:Nat}{kvs:List (Key×T)}{s t:S7}{ps:List Gp}{o0 o1 o6 o7:Option T}
@[reducible] noncomputable def U5:List Ds:=[(zq 6 (eIx (eV 5) (eC (.int 1)))),(zq 7 (z8 vA [(eV 3),(eV 0),(eV 6)])),(sIf (tE (zu .Eq (eIx (eV 5) (eC (.int 0))) (eC (.str "lease")))) [(zI (zW 45 zH (eV 7) [(zW 43 qS (eV 2) [(eV 6),(eIx (eV 5) (eC (.int 2))),(eIx (eV 5) (eC (.int 3))),(eIx (eV 5) (eC (.int 4)))])]))] [(zI (z00 (eV 4) (qL 1 [6] (.one 0) (iE (zW 45 qw (eV 7) [(eIx (eV 5) (eC (.int 2))),(eIx (eV 5) (eC (.int 3)))])) [] (qP [(eV 1),(eV 0)]))))])]
noncomputable abbrev prT(p:Str×Int):T:=.tup [.str p.1,.int p.2]
theorem Ch.geS7{S S':List Nat}(a:Ch S μ μ1)(b:Ch S' μ1 μ2)(h:∀j∈S',μ.length<=j):Ch S μ μ2:=
 ⟨Nat.le_trans a.len b.len,λj hj hs=>(b.ot j (Nat.lt_of_lt_of_le hj a.len) λw=>absurd (h j w) (by omega)).trans (a.ot j hj hs)⟩
structure PM(μ:Mem)(L c g d w:Nat)(x y z:Int)(s:S7)(ps:List Gp)(kvs:List (Key×T)):Prop where
 B:Bk μ c g (shp x y z) ps
 eG:NH.P.er ps=s.G
 hd:μ[d]?=some (.dic kvs)
 H:HD μ x y z kvs s.hm
 lo:∀ho i,zd (.inr ho) kvs=some (.mut i)->L<=i
 tw:μ[w]?=some (.lst (s.td.map prT))
 gw:g≠w
 tab:μ[0]?=some (.tab 0)
theorem HD.up{μ':Mem}{kvs':List (Key×T)}{hm:Str->Option Hs}{S:List Nat}{ho:Str}{a:Ls}{m n:Option Int}(H:HD μ x y z kvs hm)(ch:Ch S μ μ')(hk:zd (.inr ho) kvs'=some (.mut i))(ot:∀ho',ho'≠ho->zd (.inr ho') kvs'=zd (.inr ho') kvs)(hi:μ'[i]?=some (hs7 x y z (some a) m n))(nm:n=none->m=none)
  (hS:∀j∈S,j=i\/∀l m n,μ[j]?≠some (hs7 x y z l m n)) (fr:∀ho' i',ho'≠ho->zd (.inr ho') kvs=some (.mut i')->i'≠i):HD μ' x y z kvs' (upH hm ho ⟨a,n⟩):=by
 refine⟨λho' e=>?_,λho' hh e=>?_,λh1 h2 j e1 e2=>?_⟩
 ·have e:(if ho'=ho then some _ else hm ho')=none:=e
  by_cases q:ho'=ho
  ·rw[if_pos q] at e;cases e
  ·rw[if_neg q] at e;rw[ot _ q];exact H.no _ e
 ·have e:(if ho'=ho then some _ else hm ho')=some hh:=e
  by_cases q:ho'=ho
  ·rw[if_pos q] at e;cases e
   rw[q];exact⟨i,m,hk,hi,nm⟩
  ·rw[if_neg q] at e
   obtain⟨j,m',j1,j2,j3⟩:=H.so _ _ e
   refine⟨j,m',(ot _ q).trans j1,ch.get j2 λw=>?_,j3⟩
   rcases hS j w with w|w
   ·exact fr _ _ q j1 w
   ·exact w _ _ _ j2
 ·by_cases q1:h1=ho
  ·by_cases q2:h2=ho
   ·rw[q1,q2]
   ·rw[q1,hk] at e1;cases e1
    rw[ot _ q2] at e2
    exact absurd rfl (fr _ _ q2 e2)
  ·by_cases q2:h2=ho
   ·rw[q2,hk] at e2;cases e2
    rw[ot _ q1] at e1
    exact absurd rfl (fr _ _ q1 e1)
   ·rw[ot _ q1] at e1
    rw[ot _ q2] at e2
    exact H.inj _ _ _ e1 e2
theorem W2{E:En}{ho:Str}{hs:Option Int}{m n h b:Int}{l:Option Ls}{mm nn:Option Int}(B:Bk μ c g (shp x y z) ps)(ht:μ[0]?=some (.tab 0))(hl:ps.length<64)(o:HoOk ho)(hh:∀h,hs=some h->0<=h/\h<y)(n1:1<=n)(h1:h<y)(bx:b+n<=x)(hL:Lease (er ps) (opT hs) (if m<0 then 0 else m) n h b)(hi:μ[i]?=some (hs7 x y z l mm nn))
  (q:∀μ' a,Ch [g,i] μ μ'->Bk μ' c g (shp x y z) (ps++[(a,⟨ho,h,b,b+n,b+n,false⟩)])->μ'[i]?=some (hs7 x y z (some (h,b,b+n)) mm nn)->
   E.nx [o0,o1,some (.mut c),some (.mut d),some (.mut w),some (Row.lease ho hs m n).t,some (.str ho),some (.mut i)] μ') :
  w4 (U5.drop 2) [o0,o1,some (.mut c),some (.mut d),some (.mut w),some (Row.lease ho hs m n).t,some (.str ho),some (.mut i)] μ E:=by
 refine⟨_,rfl,?_⟩
 refine⟨_,hi,?_⟩
 refine⟨_,B.com,?_⟩
 refine⟨_,rfl,_,rfl,_,rfl,?_⟩
 have h2:z02 y (opT hs):=by
  cases hs with
  |none=>exact .inl rfl
  |some v=>exact .inr ⟨v,rfl,(hh v rfl).1,(hh v rfl).2⟩
 refine z3i B ht hl o.l o.h h2 n1 (λh' b' μ1 hl' bad ch=>?_) λh' b' μ1 a h0' h1' b0' bx' hl' la ch B1=>?_
 ·obtain⟨e1,e2⟩:=Lease.one hL hl'.er
  omega
 ·obtain⟨e1,e2⟩:=Lease.one hL hl'.er
  subst e1 e2
  have ig:i∉[g]:=λw=>by
   rw[List.mem_singleton.mp w,B.lst] at hi;cases hi
  have hi1:=ch.get hi ig
  refine uP (a:=(h,b,b+n)) hi1 z5g ⟨h0',h1',b0',by show b<b+n;omega,bx'⟩ λμ2 ch2 hl2 h3=>?_
  have il:i<μ.length:=(List.getElem?_eq_some_iff.mp hi).1
  refine q μ2 a ((ch.mono (by simp)).trans (ch2.mono (by simp))) (B1.ch ch2 ?_ ?_ λp hp=>?_) h3
  ·intro w;rw[←List.mem_singleton.mp w,B1.com] at hi1;cases hi1
  ·intro w;rw[←List.mem_singleton.mp w,B1.lst] at hi1;cases hi1
  ·intro w;rw[←List.mem_singleton.mp w,B1.at_ p hp] at hi1;cases hi1
theorem z4d{E:En}{ho:Str}{a:Ls}{mm nn:Option Int}{r k cc:Int}(sz:Hz x y z)(hb:x * z<1000000000000000000000000000000000000000000000000000000000000)(ok:LsOk x y a)(hi:μ[i]?=some (hs7 x y z (some a) mm nn))(hn:∀k,nn=some k->0<=k/\k<x * y * z)(nm:nn=none->mm=none)(hr:a.2.1<=r)(hu:r<a.2.2)(k1:1<=k)(k3:k<=1000)(hc:AtC y z a nn none r cc)(ck:cc+k<=z){td:List (Str×Int)}(tw:μ[w]?=some (.lst (td.map prT)))(tl:td.length<=500000)
  (q:∀μ' mb,Ch [w,i] μ μ'->μ'[i]?=some (hs7 x y z (some a) (some mb) (some (nmA y z a.1 (r * z+cc+k-1))))->μ'[w]?=some (.lst ((td++(nmL y z a.1 (r * z+cc) k).map λv=>(ho,v)).map prT))->
   E.nx [o0,o1,some (.mut c),some (.mut d),some (.mut w),some (Row.ask ho r k).t,some (.str ho),some (.mut i)] μ') :
  w4 (U5.drop 2) [o0,o1,some (.mut c),some (.mut d),some (.mut w),some (Row.ask ho r k).t,some (.str ho),some (.mut i)] μ E:=by
 have hc':AtC y z a nn mm r cc:=by
  cases nn with
  |none=>rw[nm rfl];exact hc
  |some v=>exact hc
 refine⟨_,rfl,?_⟩
 refine⟨⟨_,tw⟩,?_⟩
 refine⟨_,hi,?_⟩
 refine⟨_,rfl,_,rfl,?_⟩
 refine z2n sz hb ok z5g hi hn (Int.le_refl _) hr hu k1 k3 hc' ck λμ1 mb ch hl h1=>?_
 refine⟨by rw[List.length_map,Q8];unfold room;omega,?_⟩
 refine wB (λv:Int=>T.int v) (λv=>some (prT (ho,v))) (λv _ kk hkk=>⟨_,rfl,hkk⟩) ?_ trivial
 rw[List.filterMap_eq_map']
 have wi:w∉[i]:=λe=>by rw[List.mem_singleton.mp e,hi] at tw;cases tw
 have tw1:=ch.get tw wi
 refine⟨_,_,tw1,.inl rfl,by simp only[List.length_map,Q8];unfold room;omega,?_⟩
 refine q _ mb ((ch.mono (by simp)).trans (Ch.set.mono (by simp))) ?_ ?_
 ·rw[List.getElem?_set_ne (by intro e;exact wi (by simp[e]))];exact h1
 ·rw[get_set tw1,List.map_append,List.map_map];rfl
theorem Jp{a:Nat}{G:Gr}:NH.P.er (ps++[(a,G)])=NH.P.er ps++[(0,G)]:=by
 show List.map _ (ps++[(a,G)])=_
 rw[List.map_append];rfl
theorem z2c{E:En}{r:Row}(sz:Hz x y z)(hb:x * z<1000000000000000000000000000000000000000000000000000000000000)(P:PM μ L c g d w x y z s ps kvs)(wf:WF x y z s)(h:Sp7 x y z r s t)(hl:ps.length<63)(hk:kvs.length<=1000)(tl:s.td.length<=500000)(lL:L<=μ.length)(gL:L<=g)(dL:L<=d)(wL:L<=w){μ0:Mem}(l0:μ0.length=L)(c0:Ch [] μ0 μ)
  (q:∀μ' ps' kvs' o6 o7,PM μ' L c g d w x y z t ps' kvs'->ps'.length<=ps.length+1->kvs'.length<=kvs.length+1->t.td.length<=s.td.length+1000->L<=μ'.length->Ch [] μ0 μ'->
   E.nx [some (shp x y z),o1,some (.mut c),some (.mut d),some (.mut w),some r.t,o6,o7] μ') :
  w4 U5 [some (shp x y z),o1,some (.mut c),some (.mut d),some (.mut w),some r.t,o6,o7] μ E:=by
 have dg:d≠g:=λe=>by have:=P.hd;rw[e,P.B.lst] at this;cases this
 have noD:∀l m n,μ[d]?≠some (hs7 x y z l m n):=λl m n e=>by rw[P.hd] at e;cases e
 have noG:∀l m n,μ[g]?≠some (hs7 x y z l m n):=λl m n e=>by rw[P.B.lst] at e;cases e
 have noW:∀l m n,μ[w]?≠some (hs7 x y z l m n):=λl m n e=>by rw[P.tw] at e;cases e
 have sub:∀{S:List Nat} {μ':Mem},Ch S μ μ'->(∀j∈S,L<=j)->L<=μ'.length/\Ch [] μ0 μ':=λ{S μ'} ch hS=>⟨Nat.le_trans lL ch.len,Ch.geS7 c0 ch λj hj=>by rw[l0];exact hS j hj⟩
 cases r with
 |lease ho hs m n=>
  obtain⟨o,hh,n1,h,b,h0,h1,b0,bx,hL,rfl⟩:=h
  rw[←P.eG] at hL
  refine⟨_,rfl,?_⟩
  refine xM P.H P.hd hk o (λi hi=>?_) λhno μ1 ch1 d1 h2=>?_
  ·cases e:s.hm ho with
   |none=>rw[P.H.no ho e] at hi;cases hi
   |some hh0=>
    obtain⟨i',mm,i1,i2,i3⟩:=P.H.so ho hh0 e
    rw[hi] at i1;cases i1
    refine W2 P.B P.tab (by omega) o hh n1 h1 bx hL i2 λμ2 a ch2 B2 h3=>?_
    have iL:=P.lo ho i hi
    have sb:=sub ch2 (λj hj=>by simp at hj;rcases hj with rfl|rfl<;>assumption)
    refine q μ2 _ kvs _ _ ⟨B2,by rw[Jp,P.eG],ch2.get P.hd ?_,?_,P.lo,ch2.get P.tw ?_,P.gw,?_⟩ (by simp) (by omega) (by show s.td.length<=_;omega) sb.1 sb.2
    ·intro e;simp at e;rcases e with e|e
     ·exact dg e
     ·exact noD _ _ _ (e▸i2)
    ·have:upH s.hm ho ⟨(h,b,b+n),(s.hm ho).bind Hs.n⟩=upH s.hm ho ⟨(h,b,b+n),hh0.n⟩:=by rw[e];rfl
     show HD μ2 x y z kvs (upH s.hm ho ⟨(h,b,b+n),(s.hm ho).bind Hs.n⟩)
     rw[this]
     refine HD.up P.H ch2 hi (λ_ _=>rfl) h3 i3 (λj hj=>?_) λho' i' ne e2 e3=>ne (P.H.inj _ _ _ e2 (e3▸hi))
     simp at hj;rcases hj with rfl|rfl
     ·exact .inr noG
     ·exact .inl rfl
    ·intro e;simp at e;rcases e with e|e
     ·exact P.gw e.symm
     ·exact noW _ _ _ (e▸i2)
    ·refine ch2.get P.tab ?_
     intro e;simp at e;rcases e with e|e
     ·have:=P.B.lst;rw[←e,P.tab] at this;cases this
     ·rw[←e,P.tab] at i2;cases i2
  ·have gd:g∉[d]:=by simpa using dg.symm
   have cd:c∉[d]:=λe=>by have:=P.B.com;rw[List.mem_singleton.mp e,P.hd] at this;cases this
   have B1:=P.B.ch ch1 cd gd λp hp e=>by have:=P.B.at_ p hp;rw[List.mem_singleton.mp e,P.hd] at this;cases this
   have t1:=ch1.get P.tab (λe=>by have:=P.hd;rw[←List.mem_singleton.mp e,P.tab] at this;cases this)
   have w1:=ch1.get P.tw (λe=>by have:=P.hd;rw[←List.mem_singleton.mp e,P.tw] at this;cases this)
   refine W2 B1 t1 (by omega) o hh n1 h1 bx hL h2 λμ2 a ch2 B2 h3=>?_
   have gl:g<μ.length:=(List.getElem?_eq_some_iff.mp P.B.lst).1
   have wl:w<μ.length:=(List.getElem?_eq_some_iff.mp P.tw).1
   have dl:d<μ.length:=(List.getElem?_eq_some_iff.mp P.hd).1
   have sb1:=sub ch1 (λj hj=>by rw[List.mem_singleton.mp hj];exact dL)
   have c2:Ch [] μ0 μ2:=Ch.geS7 sb1.2 ch2 λj hj=>by simp at hj;rcases hj with rfl|rfl<;>omega
   have ch12:Ch [d,g,μ.length] μ μ2:=(ch1.mono (by simp)).trans (ch2.mono (by simp))
   refine q μ2 _ _ _ _ ⟨B2,by rw[Jp,P.eG],ch2.get d1 (by simp;omega),?_,λho' i' e=>?_,ch2.get w1 (by simp;exact⟨P.gw.symm,by omega⟩),P.gw,ch2.get t1 ?_⟩ (by simp) (jM) (by show s.td.length<=_;omega) (Nat.le_trans sb1.1 ch2.len) c2
   ·have:upH s.hm ho ⟨(h,b,b+n),(s.hm ho).bind Hs.n⟩=upH s.hm ho ⟨(h,b,b+n),none⟩:=by rw[hno];rfl
    show HD μ2 x y z _ (upH s.hm ho ⟨(h,b,b+n),(s.hm ho).bind Hs.n⟩)
    rw[this]
    refine HD.up (m:=none) P.H ch12 (by rw[wu,if_pos rfl]) (λho' ne=>by rw[wu,if_neg (by intro e;exact ne (by injection e))]) h3 (λ_=>rfl) (λj hj=>?_) λho' i' ne e2 e3=>?_
    ·simp at hj;rcases hj with rfl|rfl|rfl
     ·exact .inr noD
     ·exact .inr noG
     ·exact .inl rfl
    ·cases e4:s.hm ho' with
     |none=>rw[P.H.no _ e4] at e2;cases e2
     |some hh4=>
      obtain⟨j,_,j1,j2,_⟩:=P.H.so _ _ e4
      rw[e2] at j1;cases j1
      have:=(List.getElem?_eq_some_iff.mp j2).1
      omega
   ·rw[wu] at e
    by_cases q:(Sum.inr ho':Key)=.inr ho
    ·rw[if_pos q] at e;cases e;exact lL
    ·rw[if_neg q] at e;exact P.lo _ _ e
   ·intro e;simp at e;rcases e with e|e
    ·have:=P.B.lst;rw[←e,P.tab] at this;cases this
    ·have:=(List.getElem?_eq_some_iff.mp P.tab).1;omega
 |ask ho r k=>
  obtain⟨o,hh,cc,e0,r0,r1,k1,k2,ck,at_,rfl⟩:=h
  obtain⟨i,mm,i1,i2,i3⟩:=P.H.so ho hh e0
  have iL:=P.lo ho i i1
  refine⟨_,rfl,?_⟩
  refine xM P.H P.hd hk o (λi' hi'=>?_) λhno _ _ _ _=>by rw[hno] at e0;cases e0
  rw[i1] at hi';cases hi'
  refine z4d sz hb (wf.ls _ _ e0) i2 (λv e=>wf.nm _ _ _ e0 e) i3 r0 r1 k1 k2 at_ ck P.tw tl λμ2 mb ch2 h3 w2=>?_
  have sb:=sub ch2 (λj hj=>by simp at hj;rcases hj with rfl|rfl<;>assumption)
  have nw:∀j,(∀l m n,μ[j]?≠some (hs7 x y z l m n))->j≠w->j∉[w,i]:=λj hj e1 e=>by
   simp at e;rcases e with e|e
   ·exact e1 e
   ·exact hj _ _ _ (e▸i2)
  have td:d≠w:=λe=>by have:=P.hd;rw[e,P.tw] at this;cases this
  have B2:Bk μ2 c g (shp x y z) ps:=by
   refine P.B.ch ch2 (nw c (λl m n e=>by rw[P.B.com] at e;cases e) λe=>?_) (nw g noG P.gw) λp hp=>nw _ (λl m n e=>by rw[P.B.at_ p hp] at e;cases e) λe=>?_
   ·have:=P.B.com;rw[e,P.tw] at this;cases this
   ·have:=P.B.at_ p hp;rw[e,P.tw] at this;cases this
  have T2:μ2[0]?=some (.tab 0):=by
   refine ch2.get P.tab (nw 0 (λl m n e=>by rw[P.tab] at e;cases e) λe=>?_)
   have:=P.tab;rw[e,P.tw] at this;cases this
  refine q μ2 ps kvs _ _ ⟨B2,P.eG,ch2.get P.hd (nw d noD td),?_,P.lo,w2,P.gw,T2⟩ (by omega) (by omega) ?_ sb.1 sb.2
  ·refine HD.up P.H ch2 i1 (λ_ _=>rfl) h3 (λe=>by cases e) (λj hj=>?_) λho' i' ne e2 e3=>ne (P.H.inj _ _ _ e2 (e3▸i1))
   simp at hj;rcases hj with rfl|rfl
   ·exact .inr noW
   ·exact .inl rfl
  ·show (s.td++_).length<=_
   rw[List.length_append,List.length_map,Q8]
   omega
end NH.P
end
section
namespace NH.P
open PySem L2 NH
variable {μ μ1 μ2:Mem}{K:T->Mem->Prop}{Z:Xp}{x y z:Int}{i c g d w L:Nat}{kvs:List (Key×T)}{s t:S7}{ps:List Gp}{rs:List Row}
noncomputable def s70:S7:=⟨[],λ_=>none,[]⟩
noncomputable abbrev uw:Int:=1000000000000000000000000000000000000000000000000000000000000
theorem qp{cell k:Int}(hk:0<=k)(q:∀v:Int,0<=v->K (.int v) μ):zR [.int cell,.int k] μ K Z:=xb hk (q _ Y1.1)
noncomputable abbrev ptT(y z v:Int):T:=.tup [.int (v / z / y),.int (v / z % y),.int (v % z)]
noncomputable def z4B(y z:Int):Option Int->T
 |none=>.non
 |some v=>ptT y z v
end NH.P
end
section
namespace NH.P
open PySem L2 NH
variable {μ μ1 μ2:Mem}{K:T->Mem->Prop}{Z:Xp}{x y z:Int}{i c g d w L:Nat}{kvs:List (Key×T)}{s t:S7}{ps:List Gp}{rs:List Row}
theorem Uq{a b c a' b' c':Int}:lexLe [a,b,c] [a',b',c']=true↔a<a'\/(a=a'/\(b<b'\/(b=b'/\c<=c'))):=by
 unfold lexLe
 split
 ·rename_i e
  unfold lexLe
  split
  ·rename_i e2
   unfold lexLe
   split
   ·rename_i e3
    simp[lexLe];omega
   ·simp;omega
  ·simp;omega
 ·simp;omega
theorem z5f{a b c d:Int}:eqL [T.int a,T.int b] [T.int c,T.int d]=some (decide (a=c)&&decide (b=d)):=by
 have h1:(a == c)=decide (a=c):=by by_cases z:a=c<;>simp[z]
 have h2:(b == d)=decide (b=d):=by by_cases z:b=d<;>simp[z]
 simp[eqL,eqT,h1,h2]
theorem uy{a:Ls}{v r:Int}(sz:Hz x y z)(h0:0<=a.1)(h1:a.1<y)(v0:0<=v) :
  (v / z / y=r/\v / z % y=a.1->AtC y z a (some v) none r (v % z+1))/\
  (¬(v / z / y=r/\v / z % y=a.1)->lexLe [r,a.1,0] [v / z / y,v / z % y,v % z]=false->AtC y z a (some v) none r 0):=by
 obtain⟨x1,y1,y2,z1,z2⟩:=id sz
 have c0:=Int.emod_nonneg v (show z≠0 by omega)
 have c1:=Int.emod_lt_of_pos v (show 0<z by omega)
 refine⟨λ⟨e1,e2⟩=>?_,λe1 e2=>?_⟩
 ·refine .inr ⟨?_,by omega⟩
  show plA y z a.1 v=_
  unfold plA
  rw[if_neg (by omega),if_neg (by omega),e1]
  omega
 ·refine .inl ⟨?_,rfl⟩
  have n:¬(r<v / z / y\/(r=v / z / y/\(a.1<v / z % y\/(a.1=v / z % y/\0<=v % z)))):=λw=>by
   have:=Uq.mpr w
   rw[e2] at this;cases this
  show plA y z a.1 v<=r * z
  unfold plA
  have up:∀{p q:Int},p<=q->p * z<=q * z:=λh=>Int.mul_le_mul_of_nonneg_right h (by omega)
  split
  ·exact up (by omega)
  ·split
   ·exact up (by omega)
   ·rename_i q1 q2
    have:=up (show v / z / y+1<=r by omega)
    rw[Int.add_mul,Int.one_mul] at this
    omega
theorem z1n{h r cc j:Int}(z1:1<=z)(c0:0<=cc)(j0:0<=j)(cz:cc+j<z):(r * y+h) * z+(cc+j)=nmA y z h (r * z+cc+j):=by
 have e:r * z+cc+j=(cc+j)+r * z:=by omega
 unfold nmA
 rw[e,Int.add_mul_ediv_right _ _ (by omega),Int.ediv_eq_zero_of_lt (by omega) cz,Int.add_mul_emod_self_right,Int.emod_eq_of_lt (by omega) cz]
 simp
end NH.P
end
section
namespace NH.P
open PySem L2 NH
variable {μ μ1 μ2:Mem}{K:T->Mem->Prop}{Z:Xp}{x y z:Int}{i c g d w L r0:Nat}{kvs:List (Key×T)}{s t:S7}{ps:List Gp}{rs:List Row}
theorem Sp7.glen{r:Row}(h:Sp7 x y z r s t):s.G.length<=t.G.length:=by
 cases r with
 |lease ho hs m n=>
  obtain⟨_,_,_,h,b,_,_,_,_,_,rfl⟩:=h
  simp
 |ask ho r k=>
  obtain⟨_,hh,c,_,_,_,_,_,_,_,rfl⟩:=h
  exact Nat.le_refl _
theorem Run7.glen{t:S7}:∀{rs:List Row} {s:S7},Run7 x y z rs s t->s.G.length<=t.G.length
 |[],s,h=>by cases h;exact Nat.le_refl _
 |r::rs,s,⟨u,h1,h2⟩=>Nat.le_trans h1.glen (Run7.glen h2)
theorem Ql{rs:List Row}(hr:μ[r0]?=some (.lst (rs.map Row.t)))(hl:rs.length<=1000)(q:K (.bl true) μ):qO [.mut r0] μ K Z:=by
 unfold qO
 refine⟨rfl,?_⟩
 refine⟨_,hr,?_⟩
 refine⟨_,hr,by rw[List.length_map];unfold room;omega,?_⟩
 refine wB Row.t (λ_=>some (.bl true)) (λr _ kk hkk=>⟨_,rfl,V0 hkk⟩) ?_ hr
 rw[List.filterMap_eq_map']
 refine⟨_,vO (λ_=>true) rs,?_⟩
 have q:K (.bl ((rs.map λ_=>true).all id)) μ:=by
  rw[show (rs.map λ_=>true).all id=true by simp];exact q
 exact q
theorem jq(sz:Hz x y z)(hb:x * z<uw)(tab:μ[0]?=some (.tab 0))(hr:μ[r0]?=some (.lst (rs.map Row.t)))(hl:rs.length<=200)(hG:t.G.length<=62)(run:Run7 x y z rs s70 t)(q:∀μ' j,Ch [] μ μ'->μ.length<=j->μ'[j]?=some (.lst (t.td.map prT))->t.td.length<=200000->K (.mut j) μ'):yq [shp x y z,.mut r0] μ K Z:=by
 unfold yq
 refine⟨rfl,?_⟩
 refine Ql hr (by omega) ?_
 refine yL ?_
 refine⟨rfl,?_⟩
 generalize hμ:μ++[MO.obj 43 [(9,shp x y z),(10,.mut (μ.length+1))],.lst []]=μ1
 have l1:μ1.length=μ.length+2:=by rw[←hμ];simp
 have ch1:Ch [] μ μ1:=by
  rw[←hμ]
  exact⟨by simp,λj hj _=>List.getElem?_append_left hj⟩
 have g1:μ1[μ.length]?=some (MO.obj 43 [(9,shp x y z),(10,.mut (μ.length+1))]):=by
  rw[←hμ,List.getElem?_append_right (Nat.le_refl _)];simp
 have g2:μ1[μ.length+1]?=some (MO.lst []):=by
  rw[←hμ,List.getElem?_append_right (by omega)];simp
 have P0:PM (μ1++[MO.dic []]++[.lst []]) μ.length μ.length (μ.length+1) μ1.length (μ1++[MO.dic []]).length x y z s70 [] []:=by
  refine⟨⟨zw (zw g1),zw (zw g2),by simp,by simp⟩,rfl,zw zx,⟨λ_ _=>rfl,λho hh e=>(by simp[s70] at e),λho ho' i e=>(by cases e)⟩,λho i e=>(by cases e),zx,(by simp;omega),zw (zw (ch1.get tab (by simp)))⟩
 refine⟨_,zw (zw (ch1.get hr (by simp))),?_⟩
 refine zT (λj τ μ'=>∃(s:S7) (ps:List Gp) (kvs:List (Key×T)) (o5 o6 o7:Option T),τ=[some (shp x y z),some (.mut r0),some (.mut μ.length),some (.mut μ1.length),some (.mut (μ1++[MO.dic []]).length),o5,o6,o7]/\Run7 x y z (rs.drop j) s t/\WF x y z s/\PM μ' μ.length μ.length (μ.length+1) μ1.length (μ1++[MO.dic []]).length x y z s ps kvs/\kvs.length<=j/\s.td.length<=1000 * j/\μ.length<=μ'.length/\Ch [] μ μ')
  ⟨s70,[],[],_,_,_,rfl,run,⟨λho hh e=>(by simp[s70] at e),λho hh v e=>(by simp[s70] at e)⟩,P0,by simp,(by simp[s70]),(by simp;omega),(ch1.trans Ch.app).trans Ch.app⟩ ?_ ?_ ?_
 ·rintro j u τ μ' hx ⟨s,ps,kvs,o5,o6,o7,rfl,rn,wf,P,h2,h3,h4,h5⟩ N hN
  rw[List.getElem?_map] at hx
  obtain⟨r,hr,rfl⟩:=Option.map_eq_some_iff.mp hx
  obtain⟨hj,er⟩:=List.getElem?_eq_some_iff.mp hr
  have gl:=rn.glen
  have pl:ps.length=s.G.length:=by rw[←P.eG];show _=(List.map _ ps).length;rw[List.length_map]
  rw[List.drop_eq_getElem_cons hj,er] at rn
  obtain⟨m,sp,rn⟩:=rn
  refine⟨_,rfl,?_⟩
  exact z2c sz hb P wf sp (by omega) (by omega) (by omega) h4 (by omega) (by omega) (by simp;omega) rfl h5 λμ2 ps' kvs' p6 p7 P2 e1 e2 e3 e4 e5=>hN _ _ ⟨m,ps',kvs',_,_,_,rfl,rn,sp.wf sz wf,P2,by omega,by omega,e4,e5⟩
 ·rintro τ μ' ⟨s,ps,kvs,o5,o6,o7,rfl,rn,wf,P,h2,h3,h4,h5⟩
  rw[List.length_map] at rn h3
  rw[List.drop_length] at rn
  have e:t=s:=rn
  rw[e] at q
  exact q μ' _ h5 (by simp;omega) P.tw (by omega)
 ·rintro j τ μ' ⟨s,ps,kvs,o5,o6,o7,rfl,rn,wf,P,h2,h3,h4,h5⟩
  exact h5.get hr (by simp)
end NH.P
end
section
namespace NH.P
open PySem L2 NH
variable {μ μ1 μ2:Mem}{K:T->Mem->Prop}{Z:Xp}{x y z:Int}{i c g dn dl wr wg:Nat}{kn kl:List (Key×T)}{s t:S7}{ps:List Gp}{rs:List Row}{o1 o2 o3 o9 o10 o11 o12 o13:Option T}
theorem z0Z{h b k:Int}(k1:1<=k):nmL y z h b k=nmL y z h b (k-1)++[nmA y z h (b+k-1)]:=by
 have:=z0M (y:=y) (z:=z) (h:=h) (b:=b) (k1:=k-1) (k2:=1) (by omega) (by omega)
 rw[show k-1+1=k by omega] at this
 rw[this]
 congr 1
 show [nmA y z h (b+(k-1)+(0:Nat))]=_
 rw[show b+(k-1)+((0:Nat):Int)=b+k-1 by omega]
end NH.P
end
section
namespace NH.P
open PySem L2 NH
variable {μ μ1 μ2:Mem}{K:T->Mem->Prop}{Z:Xp}{x y z:Int}{i c g dn dl wr wg:Nat}{kn kl:List (Key×T)}{s t:S7}{ps:List Gp}{rs:List Row}{o1 o2 o3 o9 o10 o11 o12 o13:Option T}
theorem Ky{α β:Type}(f:α->β)(xs:List α)(lo hi:Option Int):xm (xs.map f) lo hi=(xm xs lo hi).map f:=by
 unfold xm
 rw[List.map_take,List.map_drop,List.length_map]
theorem z0B{α:Type}{xs:List α}{v:Int}(h0:0<=v):xm xs none (some v)=xs.take v.toNat:=by
 unfold xm K6
 simp only[List.drop_zero,Nat.sub_zero]
 rw[if_neg (by omega)]
 by_cases h:v.toNat<=xs.length
 ·rw[Nat.min_eq_left h]
 ·rw[Nat.min_eq_right (by omega),List.take_of_length_le (Nat.le_refl _),List.take_of_length_le (by omega)]
end NH.P
end
section
namespace NH.P
open PySem L2 NH
variable {μ μ1 μ2:Mem}{K:T->Mem->Prop}{Z:Xp}{x y z:Int}{s t:S7}{rs:List Row}{dn:List (Str×Int)}{la:Str->Option Int}{ho:Str}{v:Int}
noncomputable def wR(y z:Int)(a b:Str×Int):Bool:=if a.1=b.1 then decide (a.2<b.2) else !(decide (a.2 / z / y=b.2 / z / y)&&decide (a.2 / z % y=b.2 / z % y))
structure Pa7(x y z v:Int):Prop where
 m0:0<=v / z / y
 m1:v / z / y<x
 h0:0<=v / z % y
 h1:v / z % y<y
 c0:0<=v % z
 c1:v % z<z
 e:nmA y z (v / z % y) (v / z / y * z+v % z)=v
theorem z1g(sz:Hz x y z)(v0:0<=v)(v1:v<x * y * z):Pa7 x y z v:=by
 obtain⟨x1,y1,y2,z1,z2⟩:=sz
 have a:v / z<x * y:=Int.ediv_lt_of_lt_mul (by omega) v1
 have b:v / z / y<x:=Int.ediv_lt_of_lt_mul (by omega) a
 have a0:0<=v / z:=Int.ediv_nonneg v0 (by omega)
 have c0:=Int.emod_nonneg v (show z≠0 by omega)
 have c1:=Int.emod_lt_of_pos v (show 0<z by omega)
 refine⟨Int.ediv_nonneg a0 (by omega),b,Int.emod_nonneg _ (by omega),Int.emod_lt_of_pos _ (by omega),c0,c1,?_⟩
 have:=z1n (y:=y) (h:=v / z % y) (r:=v / z / y) (cc:=0) (j:=v % z) z1 (Int.le_refl _) c0 (by omega)
 rw[Int.add_zero,Int.zero_add] at this
 rw[←this,Int.ediv_mul_add_emod,Int.ediv_mul_add_emod]
theorem wG{a b:Int}(z1:1<=z)(y1:1<=y)(h:a<b):a / z / y<b / z / y\/(a / z / y=b / z / y/\(a / z % y<b / z % y\/(a / z % y=b / z % y/\a % z<b % z))):=by
 have q:a / z<=b / z:=Int.ediv_le_ediv (by omega) (by omega)
 have q2:a / z / y<=b / z / y:=Int.ediv_le_ediv (by omega) q
 have e1:=Int.mul_ediv_add_emod a z
 have e2:=Int.mul_ediv_add_emod b z
 have e3:=Int.mul_ediv_add_emod (a / z) y
 have e4:=Int.mul_ediv_add_emod (b / z) y
 by_cases w:a / z / y=b / z / y
 ·right
  refine⟨w,?_⟩
  rw[w] at e3
  by_cases w2:a / z % y=b / z % y
  ·right
   have:a / z=b / z:=by omega
   rw[this] at e1
   exact⟨w2,by omega⟩
  ·left;omega
 ·left;omega
structure RO(x y z:Int)(dn:List (Str×Int))(la:Str->Option Int)(rs:List Row)(s:S7):Prop where
 run:Run7 x y z rs s70 s
 l2:∀e∈dn,∃v,la e.1=some v/\e.2<=v
 l3:∀ho v,la ho=some v->(ho,v)∈dn
 hm:∀ho,s.hm ho=(la ho).map λv=>⟨(v / z % y,v / z / y,v / z / y+1),some v⟩
 G:∀p∈s.G,∃e∈dn,p.2.h=e.2 / z % y/\p.2.f=e.2 / z / y/\p.2.u=e.2 / z / y+1
 td:dn.Sublist s.td
 gl:s.G.length<=dn.length
 rl:rs.length<=2 * dn.length
noncomputable def upA(la:Str->Option Int)(ho:Str)(v:Int):Str->Option Int:=λa=>if a=ho then some v else la a
theorem Ww{n:Option Int}{cc k:Int}(zl:z<=1000)(P:Pa7 x y z v)(o:HoOk ho)(e0:s.hm ho=some ⟨(v / z % y,v / z / y,v / z / y+1),n⟩)(k1:1<=k)(c0:0<=cc)(ck:cc+k=v % z+1)(at_:AtC y z (v / z % y,v / z / y,v / z / y+1) n none (v / z / y) cc) :
  ∃s',Sp7 x y z (.ask ho (v / z / y) k) s s'/\s'.G=s.G/\s'.hm=upH s.hm ho ⟨(v / z % y,v / z / y,v / z / y+1),some v⟩/\∃sg,s'.td=s.td++(sg++[(ho,v)]):=by
 have c1:=P.c1
 have ev:nmA y z (v / z % y) (v / z / y * z+cc+k-1)=v:=by
  rw[show v / z / y * z+cc+k-1=v / z / y * z+v % z by omega];exact P.e
 refine⟨_,⟨o,_,cc,e0,Int.le_refl _,by show v / z / y<v / z / y+1;omega,k1,by omega,by omega,at_,rfl⟩,rfl,?_,?_⟩
 ·show upH s.hm ho ⟨(v / z % y,v / z / y,v / z / y+1),some (nmA y z (v / z % y) (v / z / y * z+cc+k-1))⟩=_
  rw[ev]
 ·refine⟨(nmL y z (v / z % y) (v / z / y * z+cc) (k-1)).map λv=>(ho,v),?_⟩
  show s.td++(nmL y z (v / z % y) (v / z / y * z+cc) k).map (λv=>(ho,v))=_
  rw[z0Z k1,List.map_append,ev];rfl
theorem RO.upd{rs':List Row}{s':S7}{sg:List (Str×Int)}(R:RO x y z dn la rs s)(T:∀e∈dn,wR y z e (ho,v)=true)(run:Run7 x y z rs' s70 s')(rl:rs'.length<=rs.length+2)(hm:s'.hm=upH s.hm ho ⟨(v / z % y,v / z / y,v / z / y+1),some v⟩)(td:s'.td=s.td++(sg++[(ho,v)]))
  (gl:s'.G.length<=s.G.length+1) (G:∀p∈s'.G,p∈s.G\/(p.2.h=v / z % y/\p.2.f=v / z / y/\p.2.u=v / z / y+1)):RO x y z (dn++[(ho,v)]) (upA la ho v) rs' s':=by
 refine⟨run,λe he=>?_,λho' v' e=>?_,λho'=>?_,λp hp=>?_,?_,?_,?_⟩
 ·rcases List.mem_append.mp he with he|he
  ·by_cases q:e.1=ho
   ·refine⟨v,by unfold upA;rw[if_pos q],?_⟩
    have:=T e he
    unfold wR at this
    rw[if_pos q] at this
    have:=of_decide_eq_true this
    exact Int.le_of_lt this
   ·obtain⟨w,h1,h2⟩:=R.l2 e he
    exact⟨w,by unfold upA;rw[if_neg q];exact h1,h2⟩
  ·rw[List.mem_singleton.mp he]
   exact⟨v,by unfold upA;rw[if_pos rfl],Int.le_refl _⟩
 ·unfold upA at e
  by_cases q:ho'=ho
  ·rw[if_pos q] at e;cases e;rw[q];simp
  ·rw[if_neg q] at e;exact List.mem_append_left _ (R.l3 _ _ e)
 ·rw[hm]
  unfold upH upA
  by_cases q:ho'=ho
  ·rw[if_pos q,if_pos q];rfl
  ·rw[if_neg q,if_neg q];exact R.hm ho'
 ·rcases G p hp with w|w
  ·obtain⟨e,he,w⟩:=R.G p w
   exact⟨e,List.mem_append_left _ he,w⟩
  ·exact⟨(ho,v),by simp,w⟩
 ·rw[td]
  exact List.Sublist.append R.td (List.sublist_append_right _ _)
 ·have:=R.gl;simp;omega
 ·have:=R.rl;simp;omega
theorem z0q{v':Int}(sz:Hz x y z)(zl:z<=1000)(R:RO x y z dn la rs s)(o:HoOk ho)(v0:0<=v)(v1:v<x * y * z)(T:∀e∈dn,wR y z e (ho,v)=true)(nn:∀e∈dn,0<=e.2)(e:la ho=some v')(e1:v' / z / y=v / z / y)(e2:v' / z % y=v / z % y) :
  ∃s',RO x y z (dn++[(ho,v)]) (upA la ho v) (rs++[.ask ho (v / z / y) (v % z+1-(v' % z+1))]) s':=by
 have P:=z1g sz v0 v1
 have z1:=sz.z1
 have lt:v'<v:=by
  have:=T _ (R.l3 _ _ e)
  unfold wR at this
  rw[if_pos rfl] at this
  exact of_decide_eq_true this
 have lp:=wG (y:=y) (z:=z) z1 sz.y1 lt
 have v'0:0<=v':=nn _ (R.l3 _ _ e)
 have c':=Int.emod_nonneg v' (show z≠0 by omega)
 have e0:s.hm ho=some ⟨(v / z % y,v / z / y,v / z / y+1),some v'⟩:=by
  rw[R.hm,e,←e1,←e2];rfl
 have at_:=(uy (x:=x) (a:=(v / z % y,v / z / y,v / z / y+1)) (r:=v / z / y) sz P.h0 P.h1 v'0).1 ⟨e1,e2⟩
 obtain⟨s',sp,h1,h2,sg,h3⟩:=Ww (k:=v % z+1-(v' % z+1)) zl P o e0 (by omega) (by omega) (by omega) at_
 exact⟨s',R.upd T (R.run.snoc sp) (by simp) h2 h3 (by rw[h1];omega) λp hp=>.inl (by rw[←h1];exact hp)⟩
theorem z26(sz:Hz x y z)(zl:z<=1000)(R:RO x y z dn la rs s)(o:HoOk ho)(v0:0<=v)(v1:v<x * y * z)(T:∀e∈dn,wR y z e (ho,v)=true)(nn:∀e∈dn,0<=e.2)(no:∀v',la ho=some v'->¬(v' / z / y=v / z / y/\v' / z % y=v / z % y)) :
  ∃s',RO x y z (dn++[(ho,v)]) (upA la ho v) (rs++[.lease ho (some (v / z % y)) (v / z / y) 1]++[.ask ho (v / z / y) (v % z+1)]) s':=by
 have P:=z1g sz v0 v1
 have z1:=sz.z1
 have m0:=P.m0
 have lt:∀{w},(ho,w)∈dn->w<v:=λ{w} h=>by
  have:=T _ h
  unfold wR at this
  rw[if_pos rfl] at this
  exact of_decide_eq_true this
 have free:∀p∈s.G,p.2.h=v / z % y->mt p.2 (v / z / y) (v / z / y+1)=false:=by
  intro p hp hh
  obtain⟨e,he,g1,g2,g3⟩:=R.G p hp
  have ne:e.2 / z / y≠v / z / y:=λw=>by
   by_cases q:e.1=ho
   ·obtain⟨v',h1,h2⟩:=R.l2 e he
    rw[q] at h1
    have l1:=lt (R.l3 _ _ h1)
    have n:=no v' h1
    have a1:=wG (y:=y) (z:=z) z1 sz.y1 l1
    rcases Int.lt_or_eq_of_le h2 with h2|h2
    ·have a2:=wG (y:=y) (z:=z) z1 sz.y1 h2
     omega
    ·rw[h2] at w g1;exact n ⟨w,g1▸hh⟩
   ·have:=T _ he
    unfold wR at this
    rw[if_neg q,decide_eq_true w,decide_eq_true (g1▸hh:e.2 / z % y=v / z % y)] at this
    cases this
  unfold mt
  rw[g2,g3]
  apply decide_eq_false
  split<;>split<;>omega
 have sp1:Sp7 x y z (.lease ho (some (v / z % y)) (v / z / y) 1) s ⟨s.G++[(0,⟨ho,v / z % y,v / z / y,v / z / y+1,v / z / y+1,false⟩)],upH s.hm ho ⟨(v / z % y,v / z / y,v / z / y+1),(s.hm ho).bind Hs.n⟩,s.td⟩:=by
  refine⟨o,λh e=>(by cases e;exact⟨P.h0,P.h1⟩),Int.le_refl _,v / z % y,v / z / y,P.h0,P.h1,P.m0,P.m1,?_,rfl⟩
  rw[if_neg (by omega)]
  exact .inr ⟨rfl,Int.le_refl _,free,λb' h1 h2=>by omega⟩
 have at_:AtC y z (v / z % y,v / z / y,v / z / y+1) ((s.hm ho).bind Hs.n) none (v / z / y) 0:=by
  rw[R.hm]
  cases e:la ho with
  |none=>exact .inl ⟨Int.mul_nonneg m0 (by omega),rfl⟩
  |some v'=>
   have l1:=lt (R.l3 _ _ e)
   have a1:=wG (y:=y) (z:=z) z1 sz.y1 l1
   have n:=no v' e
   refine (uy (x:=x) (a:=(v / z % y,v / z / y,v / z / y+1)) (r:=v / z / y) sz P.h0 P.h1 (nn _ (R.l3 _ _ e))).2 n ?_
   cases q:lexLe [v / z / y,v / z % y,0] [v' / z / y,v' / z % y,v' % z] with
   |false=>rfl
   |true=>exfalso;have:=Uq.mp q;have:=Int.emod_nonneg v' (show z≠0 by omega);omega
 obtain⟨s',sp,h1,h2,sg,h3⟩:=Ww (s:=⟨s.G++[(0,⟨ho,v / z % y,v / z / y,v / z / y+1,v / z / y+1,false⟩)],upH s.hm ho ⟨(v / z % y,v / z / y,v / z / y+1),(s.hm ho).bind Hs.n⟩,s.td⟩) (k:=v % z+1) zl P o (by show (if ho=ho then _ else _)=_;rw[if_pos rfl]) (by have:=P.c0;omega) (Int.le_refl _) (by omega) at_
 refine⟨s',R.upd T ((R.run.snoc sp1).snoc sp) (by simp) ?_ h3 (by rw[h1];simp) λp hp=>?_⟩
 ·rw[h2]
  funext a
  unfold upH
  by_cases q:a=ho
  ·rw[if_pos q,if_pos q]
  ·rw[if_neg q,if_neg q];show (if a=ho then _ else s.hm a)=_;rw[if_neg q]
 ·rw[h1] at hp
  rcases List.mem_append.mp hp with w|w
  ·exact .inl w
  ·rw[List.mem_singleton.mp w];exact .inr ⟨rfl,rfl,rfl⟩
end NH.P
end
section
namespace NH.P
open PySem L2 NH
variable {μ μ1 μ2:Mem}{K:T->Mem->Prop}{Z:Xp}{x y z:Int}{s t:S7}{rs:List Row}{dn es:List (Str×Int)}{la:Str->Option Int}{ho:Str}{v:Int}{i j d:Nat}
noncomputable abbrev gvT(y z:Int)(e:Str×Int):T:=.tup [.str e.1,ptT y z e.2]
structure EOk(x y z:Int)(e:Str×Int):Prop where
 o:HoOk e.1
 v0:0<=e.2
 v1:e.2<x * y * z
noncomputable def AllT (y z:Int)(es:List (Str×Int)):Prop:=∀(i j:Nat) (a b:Str×Int),i<j->es[i]?=some a->es[j]?=some b->wR y z a b=true
structure RM(μ:Mem)(j d:Nat)(y z:Int)(rs:List Row)(la:Str->Option Int)(kl:List (Key×T)):Prop where
 r:μ[j]?=some (.lst (rs.map Row.t))
 k:μ[d]?=some (.dic kl)
 l:∀ho,(zd (.inr ho) kl).getD .non=z4B y z (la ho)
theorem Kp(sz:Hz x y z)(zl:z<=1000)(ok:∀e∈es,EOk x y z e)(hl:es.length<=100)(A:AllT y z es)
  (q:∀μ' j rs s la,Ch [] μ μ'->μ'[j]?=some (.lst (rs.map Row.t))->RO x y z es la rs s->K (.mut j) μ'):kG [.lst (es.map (gvT y z))] μ K Z:=by
 unfold kG
 refine⟨rfl,?_⟩
 refine zT (λn τ μ'=>∃(rs:List Row) (s:S7) (la:Str->Option Int) (kl:List (Key×T)) (o3 o4 o5 o6 o7 o8:Option T),τ=[some (.lst (es.map (gvT y z))),some (.mut μ.length),some (.mut (μ++[MO.lst []]).length),o3,o4,o5,o6,o7,o8]/\RO x y z (es.take n) la rs s/\RM μ' μ.length (μ++[MO.lst []]).length y z rs la kl/\kl.length<=n/\Ch [] μ μ') ?_ ?_ ?_
 ·refine⟨[],s70,λ_=>none,[],_,_,_,_,_,_,rfl,⟨rfl,by simp,λho v e=>(by cases e),λho=>rfl,(by simp[s70]),(by simp[s70]),(by simp[s70]),by simp⟩,⟨zw zx,zx,λ_=>rfl⟩,by simp,Ch.app.trans Ch.app⟩
 ·rintro n u τ μ' hx ⟨rs,s,la,kl,o3,o4,o5,o6,o7,o8,rfl,R,M,kn,ch⟩ N hN
  rw[List.getElem?_map] at hx
  obtain⟨⟨ho,v⟩,he,rfl⟩:=Option.map_eq_some_iff.mp hx
  obtain⟨hn,eg⟩:=List.getElem?_eq_some_iff.mp he
  have E:=ok _ (List.mem_of_getElem? he)
  have et:es.take (n+1)=es.take n++[(ho,v)]:=by rw[List.take_add_one,he];rfl
  have TT:∀e∈es.take n,wR y z e (ho,v)=true:=λe h=>by
   obtain⟨k,hk,ek⟩:=List.mem_iff_getElem.mp h
   have hk':k<n:=by rw[List.length_take] at hk;omega
   rw[List.getElem_take] at ek
   exact A k n e _ hk' (by rw[List.getElem?_eq_getElem (by omega),ek]) he
  have nn:∀e∈es.take n,0<=e.2:=λe h=>(ok e (List.mem_of_mem_take h)).v0
  have dj:(μ++[MO.lst []]).length≠μ.length:=by simp
  refine⟨_,rfl,?_⟩
  refine⟨_,rfl,?_⟩
  refine⟨_,rfl,_,rfl,?_⟩
  refine⟨_,rfl,_,rfl,?_⟩
  refine⟨_,rfl,_,rfl,?_⟩
  refine⟨⟨_,M.k⟩,?_⟩
  refine⟨_,M.k,?_⟩
  have fin:∀{rs':List Row} {s':S7} {μ2:Mem} {p7 p8:Option T},RO x y z (es.take n++[(ho,v)]) (upA la ho v) rs' s'->Ch [] μ μ2->μ2[μ.length]?=some (.lst (rs'.map Row.t))->μ2[(μ++[MO.lst []]).length]?=some (.dic kl)->∀p3 p4 p5 p6,N [some (.lst (es.map (gvT y z))),some (.mut μ.length),some (.mut (μ++[MO.lst []]).length),p3,p4,p5,p6,p7,p8] (μ2.set (μ++[MO.lst []]).length (.dic (wI (.inr ho) (ptT y z v) kl))):=by
   intro rs' s' μ2 p7 p8 R' c2 g1 g2 p3 p4 p5 p6
   refine hN _ _ ⟨rs',s',upA la ho v,_,_,_,_,_,_,_,rfl,by rw[et];exact R',⟨by rw[List.getElem?_set_ne dj];exact g1,get_set g2,λho'=>?_⟩,Nat.le_trans jM (by omega),Ch.geS7 c2 Ch.set (by simp)⟩
   rw[wu]
   unfold upA
   by_cases w:ho'=ho
   ·rw[if_pos (by rw[w]),if_pos w];rfl
   ·rw[if_neg (by intro e;exact w (by injection e)),if_neg w];exact M.l ho'
  have rl:=R.rl
  rw[List.length_take] at rl
  have big:∀{l:List Row},l.length<=200->(l.map Row.t).length<room:=λh=>by rw[List.length_map];unfold room;omega
  have ml:=M.l ho
  rw[ml]
  have c1:∀{o:MO} {μ2:Mem},Ch [] μ μ2->Ch [] μ (μ2.set μ.length o):=λc=>Ch.geS7 c Ch.set (by simp)
  have kp:∀{o:MO} {μ2:Mem},μ2[(μ++[MO.lst []]).length]?=some (.dic kl)->(μ2.set μ.length o)[(μ++[MO.lst []]).length]?=some (.dic kl):=λh=>by rw[List.getElem?_set_ne dj.symm];exact h
  have new:(∀v',la ho=some v'->¬(v' / z / y=v / z / y/\v' / z % y=v / z % y))->∃s',RO x y z (es.take n++[(ho,v)]) (upA la ho v) (rs++[.lease ho (some (v / z % y)) (v / z / y) 1]++[.ask ho (v / z / y) (v % z+1)]) s':=λno=>z26 sz zl R E.o E.v0 E.v1 TT nn no
  have app:∀(r:Row),(rs.map Row.t)++[r.t]=(rs++[r]).map Row.t:=λr=>by rw[List.map_append];rfl
  cases e:la ho with
  |none=>
   obtain⟨s',R'⟩:=new λv' e'=>by rw[e] at e';cases e'
   refine⟨⟨_,M.r⟩,?_⟩
   refine⟨_,M.r,big (by omega),?_⟩
   refine⟨⟨_,get_set M.r⟩,?_⟩
   refine⟨_,get_set M.r,by rw[List.length_append,List.length_map];show _+1<_;unfold room;omega,?_⟩
   refine⟨_,rfl,?_⟩
   refine⟨_,kp (kp M.k),by unfold room;omega,?_⟩
   refine fin R' (c1 (c1 ch)) ?_ (kp (kp M.k)) _ _ _ _
   rw[get_set (get_set M.r),List.map_append,List.map_append];rfl
  |some v'=>
   refine⟨by show (0:Nat)<=40;decide,_,z5f,?_⟩
   refine qF (λe1=>?_) (λe1=>?_)
   ·simp only[Bool.and_eq_true,decide_eq_true_eq] at e1
    obtain⟨s',R'⟩:=z0q sz zl R E.o E.v0 E.v1 TT nn e e1.1 e1.2
    refine⟨_,rfl,?_⟩
    refine⟨⟨_,M.r⟩,?_⟩
    refine⟨_,M.r,big (by omega),?_⟩
    refine⟨_,rfl,?_⟩
    refine⟨_,kp M.k,by unfold room;omega,?_⟩
    refine fin R' (c1 ch) ?_ (kp M.k) _ _ _ _
    rw[get_set M.r,List.map_append];rfl
   ·obtain⟨s',R'⟩:=new λw e' e2=>by
     rw[e] at e';cases e'
     rw[decide_eq_true e2.1,decide_eq_true e2.2] at e1;cases e1
    refine⟨⟨_,M.r⟩,?_⟩
    refine⟨_,M.r,big (by omega),?_⟩
    refine⟨⟨_,get_set M.r⟩,?_⟩
    refine⟨_,get_set M.r,by rw[List.length_append,List.length_map];show _+1<_;unfold room;omega,?_⟩
    refine⟨_,rfl,?_⟩
    refine⟨_,kp (kp M.k),by unfold room;omega,?_⟩
    refine fin R' (c1 (c1 ch)) ?_ (kp (kp M.k)) _ _ _ _
    rw[get_set (get_set M.r),List.map_append,List.map_append];rfl
 ·rintro τ μ' ⟨rs,s,la,kl,o3,o4,o5,o6,o7,o8,rfl,R,M,kn,ch⟩
  rw[List.length_map,List.take_length] at R
  exact q μ' _ rs s la ch M.r R
end NH.P
end
section
namespace NH.P
open PySem L2 NH
variable {μ μ1 μ2:Mem}{K:T->Mem->Prop}{Z:Xp}{x y z:Int}{s t:S7}{rs:List Row}{dn es:List (Str×Int)}{la:Str->Option Int}{ho:Str}{v:Int}{i j d:Nat}
theorem z1V{a b c a' b' c':Int}:HT.lexLt [a,b,c] [a',b',c']=decide (a<a'\/(a=a'/\(b<b'\/(b=b'/\c<c')))):=by
 simp only[HT.lexLt_cons,HT.lexLt_nil_nil]
 by_cases h1:a=a'
 ·by_cases h2:b=b'
  ·by_cases h3:c=c'
   ·simp[h1,h2,h3]
   ·simp[h1,h2,h3]
  ·simp[h1,h2]
 ·simp[h1]
theorem JS{a b:Int}(z1:1<=z)(y1:1<=y):HT.lexLt [a / z / y,a / z % y,a % z] [b / z / y,b / z % y,b % z]=decide (a<b):=by
 rw[z1V]
 by_cases h:a<b
 ·rw[decide_eq_true h,decide_eq_true (wG z1 y1 h)]
 ·rw[decide_eq_false h]
  apply decide_eq_false
  intro w
  by_cases e:a=b
  ·rw[e] at w;omega
  ·have:=wG (y:=y) (z:=z) (a:=b) (b:=a) z1 y1 (by omega)
   omega
theorem XY{a b:Str×Int}(z1:1<=z)(y1:1<=y)(q:K (.bl (wR y z a b)) μ):qr [gvT y z a,gvT y z b] μ K Z:=by
 unfold qr
 refine⟨rfl,?_⟩
 refine⟨_,rfl,_,rfl,?_⟩
 unfold wR at q
 refine zK (λe=>?_) (λe=>?_)
 ·rw[if_pos e] at q
  refine⟨_,rfl,_,rfl,?_⟩
  refine⟨_,rfl,_,rfl,?_⟩
  rw[←JS z1 y1] at q
  exact q
 ·rw[if_neg e] at q
  refine⟨_,rfl,_,rfl,?_⟩
  exact⟨by show (0:Nat)<=40;decide,_,z5f,q⟩
structure FB(y z:Int)(es:List (Str×Int))(i j:Nat):Prop where
 ij:i<j
 jl:j<es.length
 bad:∀a b,es[i]?=some a->es[j]?=some b->wR y z a b=false
 lo:∀k a b,k<i->es[k]?=some a->es[j]?=some b->wR y z a b=true
 pr:AllT y z (es.take j)
theorem jX{i:Nat}(h:i<es.length):∃a,es[i]?=some a:=⟨_,List.getElem?_eq_getElem h⟩
theorem FB.not{i j n:Nat}(h:FB y z es i j)(A:AllT y z (es.take n)):n<=j:=by
 by_cases w:j<n
 ·have ij:=h.ij
  obtain⟨a,ha⟩:=jX (es:=es) (i:=i) (by have:=h.jl;omega)
  obtain⟨b,hb⟩:=jX (es:=es) (i:=j) h.jl
  have:=A i j a b h.ij (by rw[List.getElem?_take,if_pos (by omega)];exact ha) (by rw[List.getElem?_take,if_pos w];exact hb)
  rw[h.bad a b ha hb] at this;cases this
 ·omega
theorem AllT.step{n:Nat}{b:Str×Int}(A:AllT y z (es.take n))(hb:es[n]?=some b)(h:∀k a,k<n->es[k]?=some a->wR y z a b=true):AllT y z (es.take (n+1)):=by
 intro i j a c ij ha hc
 rw[List.getElem?_take] at ha hc
 by_cases w:j<n+1
 ·rw[if_pos w] at hc
  rw[if_pos (by omega)] at ha
  by_cases w2:j=n
  ·subst w2;rw[hb] at hc;cases hc;exact h i a ij ha
  ·exact A i j a c ij (by rw[List.getElem?_take,if_pos (by omega)];exact ha) (by rw[List.getElem?_take,if_pos (by omega)];exact hc)
 ·rw[if_neg w] at hc;cases hc
theorem qd{f:Str×Int->T}{k:Nat}{a:Str×Int}(h:es[k]?=some a):xa (es.map f) (k:Int)=some (f a):=by
 obtain⟨hl,e⟩:=List.getElem?_eq_some_iff.mp h
 unfold xa Y5
 rw[if_pos (by omega),if_pos (by rw[List.length_map];omega)]
 simp[h]
end NH.P
end
section
namespace NH.P
open PySem L2 NH
variable {μ μ1 μ2:Mem}{K:T->Mem->Prop}{Z:Xp}{x y z:Int}{s t:S7}{rs:List Row}{dn es:List (Str×Int)}{la:Str->Option Int}{ho:Str}{v:Int}{i j d w w2:Nat}
theorem Ku{td:List (Str×Int)}(hw:μ[w]?=some (.lst (es.map prT)))(h2:μ[w2]?=some (.lst (td.map prT)))(S:es.Sublist td)(q:K (.bl true) μ):qq [.mut w,.mut w2] μ K Z:=by
 unfold qq
 refine⟨rfl,?_⟩
 refine⟨_,h2,?_⟩
 refine zT (λn τ μ'=>μ'=μ/\∃(o3:Option T) (k:Nat),τ=[some (.mut w),some (.mut w2),some (.int k),o3]/\k<=es.length/\(es.drop k).Sublist (td.drop n)) ⟨rfl,_,0,rfl,Nat.zero_le _,S⟩ ?_ ?_ ?_
 ·rintro n u τ _ hx ⟨rfl,o3,k,rfl,hk,S⟩ N hN
  rw[List.getElem?_map] at hx
  obtain⟨e,he,rfl⟩:=Option.map_eq_some_iff.mp hx
  obtain⟨hn,ee⟩:=List.getElem?_eq_some_iff.mp he
  rw[List.drop_eq_getElem_cons hn,ee] at S
  refine⟨_,rfl,?_⟩
  refine⟨_,hw,?_⟩
  rw[List.length_map]
  refine zK (λh=>?_) (λh=>?_)
  ·obtain⟨a,ha⟩:=jX (es:=es) (i:=k) (by omega)
   obtain⟨hk',ea⟩:=List.getElem?_eq_some_iff.mp ha
   rw[List.drop_eq_getElem_cons hk',ea] at S
   refine⟨_,_,hw,qd ha,?_⟩
   refine⟨by show (0:Nat)<=40;decide,_,YO,?_⟩
   refine qF (λe1=>?_) (λe1=>?_)
   ·have e1:(decide (e.1=a.1)&&decide (e.2=a.2))=true:=e1
    simp only[Bool.and_eq_true,decide_eq_true_eq] at e1
    have e2:e=a:=Prod.ext e1.1 e1.2
    subst e2
    exact hN _ _ ⟨rfl,_,k+1,rfl,by omega,List.cons_sublist_cons.mp S⟩
   ·have e1:(decide (e.1=a.1)&&decide (e.2=a.2))=false:=e1
    refine hN _ _ ⟨rfl,_,k,rfl,hk,?_⟩
    rw[List.drop_eq_getElem_cons hk',ea]
    cases S with
    |cons _ S=>exact S
    |cons_cons _ S=>rw[decide_eq_true rfl,decide_eq_true rfl] at e1;cases e1
  ·have:es.drop k=[]:=List.drop_of_length_le (by omega)
   refine hN _ _ ⟨rfl,_,k,rfl,hk,?_⟩
   rw[this];exact List.nil_sublist _
 ·rintro τ μ0 ⟨rfl,o3,k,rfl,hk,S⟩
  rw[List.length_map,List.drop_length] at S
  have:=List.drop_eq_nil_iff.mp (List.eq_nil_of_sublist_nil S)
  refine⟨_,hw,?_⟩
  have q:K (.bl (decide ((k:Int)=((es.map prT).length:Int)))) μ0:=by
   rw[List.length_map,decide_eq_true (by omega)];exact q
  exact q
 ·rintro n τ _ ⟨rfl,o3,k,rfl,hk,S⟩
  exact h2
theorem Ul(sz:Hz x y z)(hb:x * z<uw)(tab:μ[0]?=some (.tab 0))(hw:μ[w]?=some (.lst (es.map prT)))(hl:es.length<=62)(hj:μ[j]?=some (.lst (rs.map Row.t)))(R:RO x y z es la rs s)(q:∀μ',K (.bl true) μ'):zE [shp x y z,.mut w,.tup [.str "right",.mut j]] μ K Z:=by
 unfold zE
 refine⟨rfl,?_⟩
 refine⟨_,rfl,?_⟩
 refine⟨_,rfl,?_⟩
 refine⟨_,hj,?_⟩
 refine⟨_,rfl,?_⟩
 have rl:=R.rl
 have gl:=R.gl
 refine jq sz hb tab hj (by omega) (by omega) R.run λμ1 j1 ch l1 h1 _=>?_
 exact Ku (ch.get hw (by simp)) h1 R.td (q _)
theorem km(sz:Hz x y z)(zl:z<=20)(ok:∀e∈es,EOk x y z e)(hl:es.length<=100)
  (q1:∀i j:Nat,FB y z es i j->K (.tup [.str "wrong",.int i,.int j]) μ)
  (q2:AllT y z es->∀μ' j rs s la,Ch [] μ μ'->μ'[j]?=some (.lst (rs.map Row.t))->RO x y z es la rs s->K (.tup [.str "right",.mut j]) μ'):qN [shp x y z,.lst (es.map prT)] μ K Z:=by
 have en:∀{k:Nat} {a:Str×Int},es[k]?=some a->EOk x y z a:=λh=>ok _ (List.mem_of_getElem? h)
 have z1:=sz.z1
 have y1:=sz.y1
 unfold qN
 refine⟨rfl,?_⟩
 refine zK (λe=>?_) (λ_=>?_)
 ·exact absurd e (by show ¬(20:Int)<z;omega)
 refine ym (λ_=>true) (λt ht=>?_) (by rw[List.length_map];omega) (by simp) ?_
 ·obtain⟨e,he,rfl⟩:=List.mem_map.mp ht
  have E:=ok e he
  exact Yr E.o.l E.o.h λμ K Z q=>xA sz.sy (by rw[decide_eq_true E.v0,decide_eq_true E.v1];rfl) q
 refine⟨by rw[List.length_map];unfold room;omega,?_⟩
 refine wB prT (λe=>some (gvT y z e)) (λe he kk hkk=>?_) ?_ trivial
 ·refine⟨_,rfl,?_⟩
  refine⟨_,rfl,_,rfl,?_⟩
  exact xB sz (ok e he).v0 (ok e he).v1 hkk
 rw[List.filterMap_eq_map']
 refine⟨⟨by omega,by rw[List.length_map];omega⟩,?_⟩
 rw[List.length_map]
 refine zT (λn τ μ'=>μ'=μ/\∃o3 o4:Option T,τ=[some (shp x y z),some (.lst (es.map prT)),some (.lst (es.map (gvT y z))),o3,o4]/\AllT y z (es.take n)) ⟨rfl,_,_,rfl,λi j a b _ h=>by simp at h⟩ ?_ ?_
 ·rintro n u τ μ0 hx ⟨rfl,o3,o4,rfl,A⟩ N hN
  obtain⟨rfl,hn⟩:=vm hx
  obtain⟨b,hb⟩:=jX (es:=es) (i:=n) (by omega)
  refine⟨_,rfl,?_⟩
  refine⟨⟨by omega,by omega⟩,?_⟩
  refine zT (λk τ μ'=>μ'=μ0/\∃o4:Option T,τ=[some (shp x y z),some (.lst (es.map prT)),some (.lst (es.map (gvT y z))),some (.int n),o4]/\∀i a,i<k->es[i]?=some a->wR y z a b=true) ⟨rfl,_,rfl,λi a h=>absurd h (Nat.not_lt_zero _)⟩ ?_ ?_
  ·rintro k u τ _ hx ⟨rfl,o4,rfl,B⟩ N2 hN2
   obtain⟨rfl,hk⟩:=vm hx
   obtain⟨a,ha⟩:=jX (es:=es) (i:=k) (by omega)
   refine⟨_,rfl,?_⟩
   refine⟨_,qd ha,?_⟩
   refine⟨_,qd hb,?_⟩
   refine XY z1 y1 ?_
   cases e:wR y z a b with
   |false=>
    exact q1 k n ⟨by omega,by omega,λa' b' h1 h2=>(by rw[ha] at h1;rw[hb] at h2;cases h1;cases h2;exact e),λi a' b' h1 h2 h3=>(by rw[hb] at h3;cases h3;exact B i a' h1 h2),A⟩
   |true=>
    refine hN2 _ _ ⟨rfl,_,rfl,λi a' h1 h2=>?_⟩
    by_cases w:i=k
    ·rw[w,ha] at h2;cases h2;exact e
    ·exact B i a' (by omega) h2
  ·rintro τ _ ⟨rfl,o4,rfl,B⟩
   rw[u4] at B
   exact hN _ _ ⟨rfl,_,_,rfl,A.step hb λk a h=>B k a (by omega)⟩
 ·rintro τ _ ⟨rfl,o3,o4,rfl,A⟩
  rw[u4,show ((es.length:Int)).toNat=es.length by omega,List.take_length] at A
  refine Kp sz (by omega) ok hl A λμ1 j rs s la ch h1 R=>?_
  exact q2 A μ1 j rs s la ch h1 R
end NH.P
end
section
namespace NH.P
open PySem L2 NH
variable {μ μ1 μ2:Mem}{K:T->Mem->Prop}{Z:Xp}{x y z:Int}{s t:S7}{rs:List Row}{dn es td:List (Str×Int)}{la:Str->Option Int}{ho:Str}{v:Int}{i j d w w2:Nat}
abbrev PwT(y z:Int)(es:List (Str×Int)):Prop:=es.Pairwise λa b=>wR y z a b=true
structure In7(y z:Int)(s:S7):Prop where
 one:∀p∈s.G,∀q∈s.G,∀m,p.2.h=q.2.h->p.2.f<=m->m<p.2.u->q.2.f<=m->m<q.2.u->p.2.ho=q.2.ho
 td:∀e∈s.td,∃p∈s.G,p.2.ho=e.1/\p.2.h=e.2 / z % y/\p.2.f<=e.2 / z / y/\e.2 / z / y<p.2.u
 now:∀ho hh,s.hm ho=some hh->∃p∈s.G,p.2.ho=ho/\p.2.h=hh.a.1/\p.2.f=hh.a.2.1/\p.2.u=hh.a.2.2
 la:∀e∈s.td,∃hh w,s.hm e.1=some hh/\hh.n=some w/\e.2<=w
 pw:PwT y z s.td
theorem Ui{G:Gr}{b e m:Int}(h:mt G b e=false)(h1:G.f<=m)(h2:m<G.u)(h3:b<=m)(h4:m<e):False:=by
 unfold mt at h
 have:=of_decide_eq_false h
 split at this<;>split at this<;>omega
theorem In7.step{r:Row}(sz:Hz x y z)(wf:WF x y z s)(I:In7 y z s)(h:Sp7 x y z r s t):In7 y z t:=by
 have z1:=sz.z1
 cases r with
 |lease ho hs m n=>
  obtain⟨o,hh,n1,h,b,h0,h1,b0,bx,hL,rfl⟩:=h
  have free:∀p∈s.G,p.2.h=h->mt p.2 b (b+n)=false:=by
   rcases hL with⟨_,e,_,f,_⟩|⟨_,_,f,_⟩
   ·rw[e];exact f
   ·exact f
  refine⟨λp hp q hq m' e e1 e2 e3 e4=>?_,λe he=>?_,λho' hh' e=>?_,λe he=>?_,I.pw⟩
  ·rcases List.mem_append.mp hp with hp|hp
   ·rcases List.mem_append.mp hq with hq|hq
    ·exact I.one p hp q hq m' e e1 e2 e3 e4
    ·rw[List.mem_singleton.mp hq] at e e3 e4
     exact (Ui (free p hp e) e1 e2 e3 e4).elim
   ·rw[List.mem_singleton.mp hp] at e e1 e2
    rcases List.mem_append.mp hq with hq|hq
    ·exact (Ui (free q hq e.symm) e3 e4 e1 e2).elim
    ·rw[List.mem_singleton.mp hp,List.mem_singleton.mp hq]
  ·obtain⟨p,hp,q⟩:=I.td e he
   exact⟨p,List.mem_append_left _ hp,q⟩
  ·have e:(if ho'=ho then some _ else s.hm ho')=some hh':=e
   by_cases q:ho'=ho
   ·rw[if_pos q] at e;cases e
    exact⟨(0,⟨ho,h,b,b+n,b+n,false⟩),by simp,q.symm,rfl,rfl,rfl⟩
   ·rw[if_neg q] at e
    obtain⟨p,hp,w⟩:=I.now _ _ e
    exact⟨p,List.mem_append_left _ hp,w⟩
  ·obtain⟨h2,w,e1,e2,e3⟩:=I.la e he
   show ∃hh w,(if e.1=ho then some _ else s.hm e.1)=some hh/\_
   by_cases q:e.1=ho
   ·rw[if_pos q]
    refine⟨_,w,rfl,?_,e3⟩
    show (s.hm ho).bind Hs.n=some w
    rw[←q,e1];exact e2
   ·rw[if_neg q];exact⟨h2,w,e1,e2,e3⟩
 |ask ho r k=>
  obtain⟨o,hh,cc,e0,r0,r1,k1,k2,ck,at_,rfl⟩:=h
  have ok:=wf.ls _ _ e0
  have c0:0<=cc:=by rcases at_ with q|q<;>omega
  obtain⟨g,hg,g1,g2,g3,g4⟩:=I.now _ _ e0
  have new:∀e∈(nmL y z hh.a.1 (r * z+cc) k).map (λv=>(ho,v)),e.1=ho/\e.2 / z / y=r/\e.2 / z % y=hh.a.1/\e.2<=nmA y z hh.a.1 (r * z+cc+k-1)/\∀w,hh.n=some w->w<e.2:=by
   intro e he
   obtain⟨v,hv,rfl⟩:=List.mem_map.mp he
   unfold nmL at hv
   obtain⟨j,hj,rfl⟩:=List.mem_map.mp hv
   have hj:=List.mem_range.mp hj
   have ps:=Yq (p:=r * z+cc+j) sz ok.h0 ok.h1
   refine⟨rfl,?_,ps.2.1,?_,λw hw=>?_⟩
   ·show nmA y z hh.a.1 (r * z+cc+j) / z / y=r
    rw[ps.1,show r * z+cc+(j:Int)=(cc+j)+r * z by omega,Int.add_mul_ediv_right _ _ (by omega),Int.ediv_eq_zero_of_lt (by omega) (by omega)]
    omega
   ·show nmA y z hh.a.1 (r * z+cc+j)<=_
    by_cases q:r * z+cc+(j:Int)=r * z+cc+k-1
    ·rw[q];exact Int.le_refl _
    ·exact Int.le_of_lt (Jy sz ok.h0 ok.h1 (by omega))
   ·show w<nmA y z hh.a.1 (r * z+cc+j)
    rw[hw] at at_
    refine (YC sz ok.h0 ok.h1).mpr ?_
    rcases at_ with⟨q,_⟩|⟨q,_⟩
    ·have q:plA y z hh.a.1 w<=r * z:=q
     omega
    ·have q:plA y z hh.a.1 w=r * z+cc:=q
     omega
  refine⟨I.one,λe he=>?_,λho' hh' e=>?_,λe he=>?_,?_⟩
  ·rcases List.mem_append.mp he with he|he
   ·exact I.td e he
   ·obtain⟨a1,a2,a3,_,_⟩:=new e he
    exact⟨g,hg,g1.trans a1.symm,by rw[g2,a3],by rw[g3,a2];exact r0,by rw[g4,a2];exact r1⟩
  ·have e:(if ho'=ho then some _ else s.hm ho')=some hh':=e
   by_cases q:ho'=ho
   ·rw[if_pos q] at e;cases e
    exact⟨g,hg,g1.trans q.symm,g2,g3,g4⟩
   ·rw[if_neg q] at e;exact I.now _ _ e
  ·show ∃hh' w,(if e.1=ho then some _ else s.hm e.1)=some hh'/\_
   rcases List.mem_append.mp he with he|he
   ·obtain⟨h2,w,e1,e2,e3⟩:=I.la e he
    by_cases q:e.1=ho
    ·rw[if_pos q]
     refine⟨_,_,rfl,rfl,?_⟩
     rw[q,e0] at e1;cases e1
     have l:=(YC (k:=w) (p:=r * z+cc+k-1) sz ok.h0 ok.h1).mpr (by
      rw[e2] at at_
      rcases at_ with⟨q,_⟩|⟨q,_⟩
      ·have q:plA y z hh.a.1 w<=r * z:=q
       omega
      ·have q:plA y z hh.a.1 w=r * z+cc:=q
       omega)
     omega
    ·rw[if_neg q];exact⟨h2,w,e1,e2,e3⟩
   ·obtain⟨a1,a2,a3,a4,_⟩:=new e he
    rw[if_pos a1]
    exact⟨_,_,rfl,rfl,a4⟩
  ·refine List.pairwise_append.mpr ⟨I.pw,?_,λa ha b hb=>?_⟩
   ·rw[List.pairwise_map]
    unfold nmL
    rw[List.pairwise_map]
    refine List.Pairwise.imp ?_ List.pairwise_lt_range
    intro p q pq
    unfold wR
    rw[if_pos rfl]
    exact decide_eq_true (Jy sz ok.h0 ok.h1 (by omega))
   ·obtain⟨a1,a2,a3,_,a5⟩:=new b hb
    unfold wR
    by_cases q:a.1=b.1
    ·rw[if_pos q]
     obtain⟨h2,w,e1,e2,e3⟩:=I.la a ha
     rw[q,a1,e0] at e1;cases e1
     have:=a5 w e2
     exact decide_eq_true (by omega)
    ·rw[if_neg q]
     obtain⟨p,hp,p1,p2,p3,p4⟩:=I.td a ha
     cases hc:decide (a.2 / z / y=b.2 / z / y)&&decide (a.2 / z % y=b.2 / z % y) with
     |false=>rfl
     |true=>
      simp only[Bool.and_eq_true,decide_eq_true_eq] at hc
      exfalso
      apply q
      rw[a1,←p1,←g1]
      refine I.one p hp g hg r (by rw[p2,g2,hc.2,a3]) ?_ ?_ ?_ ?_
      ·rw[hc.1,a2] at p3;exact p3
      ·rw[hc.1,a2] at p4;exact p4
      ·rw[g3];exact r0
      ·rw[g4];exact r1
theorem In7.run(sz:Hz x y z){t:S7}:∀{rs:List Row} {s:S7},WF x y z s->In7 y z s->Run7 x y z rs s t->In7 y z t
 |[],s,_,I,h=>by cases h;exact I
 |r::rs,s,wf,I,⟨u,h1,h2⟩=>In7.run sz (h1.wf sz wf) (I.step sz wf h1) h2
theorem z25(sz:Hz x y z)(run:Run7 x y z rs s70 s):PwT y z s.td:=
 (In7.run sz ⟨λho hh e=>(by simp[s70] at e),λho hh v e=>(by simp[s70] at e)⟩ ⟨by simp[s70],by simp[s70],λho hh e=>(by simp[s70] at e),by simp[s70],by simp[s70]⟩ run).pw
end NH.P
end
section
namespace NH.P
open PySem L2 NH
variable {μ μ1 μ2:Mem}{K:T->Mem->Prop}{Z:Xp}{x y z:Int}{s t:S7}{rs:List Row}{dn es:List (Str×Int)}{la:Str->Option Int}{ho:Str}{v:Int}{i j d w w2:Nat}
structure BM(μ:Mem)(w d:Nat)(x y z:Int)(es:List (Str×Int))(kl:List (Key×T)):Prop where
 r:μ[w]?=some (.lst (es.map prT))
 k:μ[d]?=some (.dic kl)
 ok:∀e∈es,EOk x y z e
 l:∀ho t,zd (.inr ho) kl=some t->∃v:Int,t=.int v/\0<=v/\v<x * y * z
theorem z4N{α:Type}{xs:List α}:(xm xs (some 1) (some 61)).length<=60:=by
 unfold xm K6
 rw[List.length_take]
 simp
 omega
theorem Qe{xs:List T}(hx:xs=es.map prT)(h:qN [shp x y z,.lst (es.map prT)] μ K Z):qN [shp x y z,.lst xs] μ K Z:=by rw[hx];exact h
theorem z5n{w:Str}{i j:Int}:eqL [.str w,.int i,.int j] [.str w,.int i,.int j]=some true:=by simp[eqL,eqT]
theorem FB.all{i j:Nat}(h:FB y z es i j)(A:AllT y z es):False:=by
 have:=h.not (n:=es.length) (by rw[List.take_length];exact A)
 have:=h.jl
 omega
end NH.P
end
section
namespace NH.P
open PySem L2 NH
variable {μ μ1 μ2:Mem}{K:T->Mem->Prop}{Z:Xp}{x y z:Int}{s t:S7}{rs:List Row}{dn es td:List (Str×Int)}{la:Str->Option Int}{ho:Str}{v:Int}{i j d w w2:Nat}
theorem Kj{far many hs:Int}{cs:List Int}(sz:Hz x y z)(f0:0<=far)(m1:1<=many)(ex:x=far+many)(h1:1<=hs)(h5:hs<=5)(hl:cs.length<=60)
  (q:∀(μ':Mem) (w:Nat) (es:List (Str×Int)),Ch [] μ μ'->μ'[w]?=some (.lst (es.map prT))->(∀e∈es,EOk x y z e)->es.length<=60->K (.mut w) μ'):wN [shp x y z,.int far,.int many,.int hs,.lst (cs.map T.int)] μ K Z:=by
 obtain⟨x1,y1,y2,z1,z2⟩:=id sz
 have dj:(μ++[MO.lst []]).length≠μ.length:=by simp
 unfold wN
 refine⟨rfl,?_⟩
 refine zT (λn τ μ'=>∃(es:List (Str×Int)) (kl:List (Key×T)) (o7 o8 o9 o10 o11:Option T),τ=[some (shp x y z),some (.int far),some (.int many),some (.int hs),some (.lst (cs.map T.int)),some (.mut μ.length),some (.mut (μ++[MO.lst []]).length),o7,o8,o9,o10,o11]/\BM μ' μ.length (μ++[MO.lst []]).length x y z es kl/\es.length<=n/\kl.length<=n/\Ch [] μ μ')
  ⟨[],[],_,_,_,_,_,rfl,⟨zw zx,zx,by simp,λho t e=>(by cases e)⟩,by simp,by simp,Ch.app.trans Ch.app⟩ ?_ ?_
 ·rintro n u τ μ' hx ⟨es,kl,o7,o8,o9,o10,o11,rfl,M,el,kn,ch⟩ N hN
  rw[List.getElem?_map] at hx
  obtain⟨cell,hc,rfl⟩:=Option.map_eq_some_iff.mp hx
  obtain⟨hn,_⟩:=List.getElem?_eq_some_iff.mp hc
  refine⟨_,rfl,?_⟩
  refine qp (by decide) λd0 d00=>?_
  refine⟨by omega,?_⟩
  have n0:=Int.emod_nonneg d0 (show hs≠0 by omega)
  have l0:=Int.emod_lt_of_pos d0 (show 0<hs by omega)
  have ix:∃ho,HoOk ho/\xa [T.str "anna",.str "b",.str "bo",.str "zzzzzzzz",.str "c"] (d0 % hs)=some (.str ho):=by
   generalize d0 % hs=k at n0 l0
   have:k=0\/k=1\/k=2\/k=3\/k=4:=by omega
   rcases this with rfl|rfl|rfl|rfl|rfl
   ·exact⟨_,⟨by decide,by decide +kernel⟩,rfl⟩
   ·exact⟨_,⟨by decide,by decide +kernel⟩,rfl⟩
   ·exact⟨_,⟨by decide,by decide +kernel⟩,rfl⟩
   ·exact⟨_,⟨by decide,by decide +kernel⟩,rfl⟩
   ·exact⟨_,⟨by decide,by decide +kernel⟩,rfl⟩
  obtain⟨ho,o,hix⟩:=ix
  refine⟨_,hix,?_⟩
  refine qp (by decide) λd1 d10=>?_
  refine⟨by omega,?_⟩
  have n1:=Int.emod_nonneg d1 (show many≠0 by omega)
  have l1:=Int.emod_lt_of_pos d1 (show 0<many by omega)
  refine qp (by decide) λd2 d20=>?_
  refine⟨by show 0<y;omega,?_⟩
  have n2:=Int.emod_nonneg d2 (show y≠0 by omega)
  have l2:=Int.emod_lt_of_pos d2 (show 0<y by omega)
  refine qp (by decide) λd3 d30=>?_
  refine⟨by show 0<z;omega,?_⟩
  have n3:=Int.emod_nonneg d3 (show z≠0 by omega)
  have l3:=Int.emod_lt_of_pos d3 (show 0<z by omega)
  refine y7 sz (by omega) (by omega) n2 l2 n3 l3 ?_
  have fin:∀(v:Int) (p7 p8 p9 p10 p11:Option T),0<=v->v<x * y * z->N [some (shp x y z),some (.int far),some (.int many),some (.int hs),some (.lst (cs.map T.int)),some (.mut μ.length),some (.mut (μ++[MO.lst []]).length),p7,p8,p9,p10,p11] ((μ'.set (μ++[MO.lst []]).length (.dic (wI (.inr ho) (.int v) kl))).set μ.length (.lst (es.map prT++[prT (ho,v)]))):=by
   intro v p7 p8 p9 p10 p11 v0 v1
   have g1:(μ'.set (μ++[MO.lst []]).length (.dic (wI (.inr ho) (.int v) kl)))[μ.length]?=some (.lst (es.map prT)):=by rw[List.getElem?_set_ne dj];exact M.r
   refine hN _ _ ⟨es++[(ho,v)],_,_,_,_,_,_,rfl,⟨by rw[get_set g1,List.map_append];rfl,by rw[List.getElem?_set_ne dj.symm];exact get_set M.k,λe he=>?_,λho' t e=>?_⟩,by simp;omega,Nat.le_trans jM (by omega),Ch.geS7 (Ch.geS7 ch Ch.set (by simp)) Ch.set (by simp)⟩
   ·rcases List.mem_append.mp he with he|he
    ·exact M.ok e he
    ·rw[List.mem_singleton.mp he];exact⟨o,v0,v1⟩
   ·rw[wu] at e
    by_cases q:(Sum.inr ho':Key)=.inr ho
    ·rw[if_pos q] at e;cases e;exact⟨v,rfl,v0,v1⟩
    ·rw[if_neg q] at e;exact M.l _ _ e
  have put:∀(v:Int) (p7 p9 p11:Option T) (E:En),E.nx=N->0<=v->v<x * y * z->w4 [(yc (eV 6) (eV 8) (eV 10)),(zI (We (eV 5) (qP [(eV 8),(eV 10)])))] [some (shp x y z),some (.int far),some (.int many),some (.int hs),some (.lst (cs.map T.int)),some (.mut μ.length),some (.mut (μ++[MO.lst []]).length),p7,some (.str ho),p9,some (.int v),p11] μ' E:=by
   intro v p7 p9 p11 E hE v0 v1
   have g1:(μ'.set (μ++[MO.lst []]).length (.dic (wI (.inr ho) (.int v) kl)))[μ.length]?=some (.lst (es.map prT)):=by rw[List.getElem?_set_ne dj];exact M.r
   refine⟨_,M.k,by unfold room;omega,?_⟩
   refine⟨⟨_,g1⟩,?_⟩
   refine⟨_,g1,by rw[List.length_map];unfold room;omega,?_⟩
   show E.nx _ _
   rw[hE]
   exact fin v _ _ _ _ _ v0 v1
  have nb:0<=((far+d1 % many) * y+d2 % y) * z+d3 % z/\((far+d1 % many) * y+d2 % y) * z+d3 % z<x * y * z:=by
   have:=z1n (y:=y) (h:=d2 % y) (r:=far+d1 % many) (cc:=0) (j:=d3 % z) z1 (Int.le_refl _) n3 (by omega)
   rw[Int.zero_add] at this
   rw[this]
   have p0:0<=(far+d1 % many) * z:=Int.mul_nonneg (by omega) (by omega)
   have p1:=Int.mul_le_mul_of_nonneg_right (show far+d1 % many+1<=x by omega) (show 0<=z by omega)
   rw[Int.add_mul,Int.one_mul] at p1
   exact z1E sz n2 l2 (by omega) (by omega)
  refine⟨.inr ⟨by unfold big;omega,by unfold big;omega⟩,.inr ⟨by unfold big;omega,by unfold big;omega⟩,?_⟩
  refine⟨_,M.k,?_⟩
  cases e:zd (.inr ho) kl with
  |none=>exact put _ _ _ _ _ rfl nb.1 nb.2
  |some t=>
   obtain⟨v,rfl,v0,v1⟩:=M.l ho t e
   refine qp (by decide) λd4 d40=>?_
   refine⟨by decide,?_⟩
   refine zK (λe4=>?_) (λe4=>?_)
   ·refine⟨_,_,M.k,e,?_⟩
    refine qp (by decide) λd5 d50=>?_
    refine qp (by decide) λd6 d60=>?_
    refine⟨by decide,?_⟩
    have n6:=Int.emod_nonneg d6 (show (3:Int)≠0 by decide)
    have l6:=Int.emod_lt_of_pos d6 (show (0:Int)<3 by decide)
    have iy:∃v:Int,0<v/\xa [T.int 1,T.int 3,T.int 40] (d6 % 3)=some (.int v):=by
     have:d6 % 3=0\/d6 % 3=1\/d6 % 3=2:=by omega
     rcases this with e|e|e<;>rw[e]
     ·exact⟨1,by decide,rfl⟩
     ·exact⟨3,by decide,rfl⟩
     ·exact⟨40,by decide,rfl⟩
    obtain⟨k,k0,hk⟩:=iy
    refine⟨_,hk,?_⟩
    refine⟨k0,?_⟩
    have n5:=Int.emod_nonneg d5 (show k≠0 by omega)
    exact put (if v+1+d5 % k<x * y * z-1 then v+1+d5 % k else x * y * z-1) _ _ _ _ rfl (by split<;>omega) (by split<;>omega)
   ·exact put _ _ _ _ _ rfl nb.1 nb.2
 ·rintro τ μ' ⟨es,kl,o7,o8,o9,o10,o11,rfl,M,el,kn,ch⟩
  rw[List.length_map] at el
  exact q μ' _ es ch M.r M.ok (by omega)
theorem U3{xs:List T}{cs:List Int}{far many hs:Int}(hx:xs=cs.map T.int)(h:wN [shp x y z,.int far,.int many,.int hs,.lst (cs.map T.int)] μ K Z):wN [shp x y z,.int far,.int many,.int hs,.lst xs] μ K Z:=by rw[hx];exact h
theorem yW(h2:μ[w2]?=some (.lst (td.map prT)))(q:∀b:Bool,(b=true↔es.Sublist td)->K (.bl b) μ):qq [.lst (es.map prT),.mut w2] μ K Z:=by
 unfold qq
 refine⟨rfl,?_⟩
 refine⟨_,h2,?_⟩
 refine zT (λn τ μ'=>μ'=μ/\∃(o3:Option T) (k:Nat),τ=[some (.lst (es.map prT)),some (.mut w2),some (.int k),o3]/\k<=es.length/\(es.take k).Sublist (td.take n)/\(es.Sublist td->(es.drop k).Sublist (td.drop n))) ⟨rfl,_,0,rfl,Nat.zero_le _,List.nil_sublist _,λS=>S⟩ ?_ ?_ ?_
 ·rintro n u τ _ hx ⟨rfl,o3,k,rfl,hk,S0,S⟩ N hN
  rw[List.getElem?_map] at hx
  obtain⟨e,he,rfl⟩:=Option.map_eq_some_iff.mp hx
  obtain⟨hn,ee⟩:=List.getElem?_eq_some_iff.mp he
  rw[List.drop_eq_getElem_cons hn,ee] at S
  have et:td.take (n+1)=td.take n++[e]:=by rw[List.take_add_one,he];rfl
  have S1:(es.take k).Sublist (td.take (n+1)):=by rw[et];exact S0.trans (List.sublist_append_left _ _)
  refine⟨_,rfl,?_⟩
  refine zK (λh=>?_) (λh=>?_)
  ·have h:(k:Int)<((es.map prT).length:Int):=h
   rw[List.length_map] at h
   obtain⟨a,ha⟩:=jX (es:=es) (i:=k) (by omega)
   obtain⟨hk',ea⟩:=List.getElem?_eq_some_iff.mp ha
   rw[List.drop_eq_getElem_cons hk',ea] at S
   refine⟨_,qd ha,?_⟩
   refine⟨by show (0:Nat)<=40;decide,_,YO,?_⟩
   refine qF (λe1=>?_) (λe1=>?_)
   ·have e1:(decide (e.1=a.1)&&decide (e.2=a.2))=true:=e1
    simp only[Bool.and_eq_true,decide_eq_true_eq] at e1
    have e2:e=a:=Prod.ext e1.1 e1.2
    subst e2
    refine hN _ _ ⟨rfl,_,k+1,rfl,by omega,?_,λw=>List.cons_sublist_cons.mp (S w)⟩
    rw[et,show es.take (k+1)=es.take k++[e] by rw[List.take_add_one,ha];rfl]
    exact List.Sublist.append S0 (List.Sublist.refl _)
   ·have e1:(decide (e.1=a.1)&&decide (e.2=a.2))=false:=e1
    refine hN _ _ ⟨rfl,_,k,rfl,hk,S1,λw=>?_⟩
    have S:=S w
    rw[List.drop_eq_getElem_cons hk',ea]
    cases S with
    |cons _ S=>exact S
    |cons_cons _ S=>rw[decide_eq_true rfl,decide_eq_true rfl] at e1;cases e1
  ·have h:¬(k:Int)<((es.map prT).length:Int):=h
   rw[List.length_map] at h
   have:es.drop k=[]:=List.drop_of_length_le (by omega)
   refine hN _ _ ⟨rfl,_,k,rfl,hk,S1,λ_=>?_⟩
   rw[this];exact List.nil_sublist _
 ·rintro τ μ0 ⟨rfl,o3,k,rfl,hk,S0,S⟩
  rw[List.length_map,List.drop_length] at S
  rw[List.length_map,List.take_length] at S0
  refine q _ ⟨λh=>?_,λh=>?_⟩
  ·have:=of_decide_eq_true h
   rw[List.length_map] at this
   rw[List.take_of_length_le (by omega)] at S0
   exact S0
  ·have:=List.drop_eq_nil_iff.mp (List.eq_nil_of_sublist_nil (S h))
   show decide ((k:Int)=((es.map prT).length:Int))=true
   rw[List.length_map]
   exact decide_eq_true (by omega)
 ·rintro n τ _ ⟨rfl,o3,k,rfl,hk,S0,S⟩
  exact h2
theorem z0s(sz:Hz x y z)(hb:x * z<uw)(tab:μ[0]?=some (.tab 0))(rl:rs.length<=200)(gl:s.G.length<=62)(hj:μ[j]?=some (.lst (rs.map Row.t)))(R:RO x y z es la rs s)(q:∀μ',Ch [] μ μ'->K (.bl true) μ'):zE [shp x y z,.lst (es.map prT),.tup [.str "right",.mut j]] μ K Z:=by
 unfold zE
 refine⟨rfl,?_⟩
 refine⟨_,rfl,?_⟩
 refine⟨_,rfl,?_⟩
 refine⟨_,hj,?_⟩
 refine⟨_,rfl,?_⟩
 refine jq sz hb tab hj rl gl R.run λμ1 j1 ch l1 h1 _=>?_
 refine yW h1 λb hb=>?_
 rw[hb.mpr R.td]
 exact q _ ch
theorem JY(sz:Hz x y z)(hb:x * z<uw)(tab:μ[0]?=some (.tab 0))(hl:es.length<=62)(hj:μ[j]?=some (.lst (rs.map Row.t)))(R:RO x y z es la rs s)(q:∀μ',Ch [] μ μ'->K (.bl true) μ'):zE [shp x y z,.lst (es.map prT),.tup [.str "right",.mut j]] μ K Z:=by
 have rl:=R.rl
 have gl:=R.gl
 exact z0s sz hb tab (by omega) (by omega) hj R q
theorem UE{xs:List T}{f:T}(hx:xs=es.map prT)(h:zE [shp x y z,.lst (es.map prT),f] μ K Z):zE [shp x y z,.lst xs,f] μ K Z:=by rw[hx];exact h
theorem XB{xs:List T}{f:T}(hx:xs=es.map prT)(h:qq [.lst (es.map prT),f] μ K Z):qq [.lst xs,f] μ K Z:=by rw[hx];exact h
theorem UP{a b:Str×Int}(h:wR y z a b=true):AllT y z [a,b]:=by
 intro i j c e ij hc he
 obtain⟨h2,_⟩:=List.getElem?_eq_some_iff.mp he
 have h2:j<2:=h2
 have ei:i=0:=by omega
 have ej:j=1:=by omega
 subst ei ej
 cases hc;cases he;exact h
theorem z2e{a b:Str×Int}(h:FB y z [a,b] i j):i=0/\j=1:=by
 have h2:j<2:=h.jl
 have:=h.ij
 omega
theorem z0y(sz:Hz x y z)(hb:x * z<uw)(zl:z<=20)(tab:μ[0]?=some (.tab 0))(hw:μ[w]?=some (.lst (es.map prT)))(ok:∀e∈es,EOk x y z e)(hl:es.length<=60)(fb:FB y z es i j)(q:∀μ',K (.bl true) μ'):qM [shp x y z,.mut w,.tup [.str "wrong",.int i,.int j]] μ K Z:=by
 have ij:=fb.ij
 have jl:=fb.jl
 obtain⟨a,ha⟩:=jX (es:=es) (i:=i) (by omega)
 obtain⟨b,hb'⟩:=jX (es:=es) (i:=j) jl
 have en:∀{k:Nat} {a:Str×Int},es[k]?=some a->EOk x y z a:=λh=>ok _ (List.mem_of_getElem? h)
 have bad:=fb.bad a b ha hb'
 have ok2:∀{c:Str×Int},EOk x y z c->∀e∈[c,b],EOk x y z e:=λ{c} hc e he=>by
  rcases List.mem_cons.mp he with rfl|he
  ·exact hc
  ·rw[List.mem_singleton.mp he];exact en hb'
 unfold qM
 refine⟨rfl,?_⟩
 refine⟨_,rfl,?_⟩
 refine⟨_,rfl,?_⟩
 refine⟨_,rfl,?_⟩
 refine zK (λ_=>?_) (λe=>absurd (show (i:Int)<j by omega) e)
 refine⟨_,hw,?_⟩
 refine z3T (by rw[List.length_map,decide_eq_true (by omega)];rfl) ?_
 refine⟨_,rfl,?_⟩
 refine⟨_,_,hw,qd ha,?_⟩
 refine⟨_,_,hw,qd hb',?_⟩
 refine Qe (es:=[a,b]) rfl ?_
 refine km sz zl (ok2 (en ha)) (by show (2:Nat)<=100;decide) (λi' j' fb'=>?_) λA=>?_
 ·obtain⟨rfl,rfl⟩:=z2e fb'
  refine⟨by show (0:Nat)<=40;decide,_,z5n,?_⟩
  refine⟨⟨by omega,by omega⟩,?_⟩
  refine zT (λn τ μ'=>∃o5:Option T,τ=[some (shp x y z),some (.mut w),some (.tup [.str "wrong",.int i,.int j]),some (.int i),some (.int j),o5,none]/\Ch [] μ μ') ⟨_,rfl,Ch.refl⟩ ?_ ?_
  ·rintro n u τ μ' hx ⟨o5,rfl,ch⟩ N hN
   obtain⟨rfl,hn⟩:=vm hx
   obtain⟨c,hc⟩:=jX (es:=es) (i:=n) (by omega)
   have hw':=ch.get hw (by simp)
   refine⟨_,rfl,?_⟩
   refine⟨_,_,hw',qd hc,?_⟩
   refine⟨_,_,hw',qd hb',?_⟩
   refine Qe (es:=[c,b]) rfl ?_
   refine km sz zl (ok2 (en hc)) (by show (2:Nat)<=100;decide) (λi' j' fb'=>(fb'.all (UP (fb.lo n c b (by omega) hc hb'))).elim) λA μ2 j2 rs s la ch2 hj R=>?_
   refine⟨_,rfl,?_⟩
   exact hN _ _ ⟨_,rfl,ch.trans ch2⟩
  ·rintro τ μ' ⟨o5,rfl,ch⟩
   have hw':=ch.get hw (by simp)
   have ec:xm (es.map prT) none (some (j:Int))=(es.take j).map prT:=by rw[z0B (by omega),←List.map_take];rfl
   have tl:(es.take j).length<=62:=by rw[List.length_take];omega
   refine⟨_,hw',?_⟩
   refine Qe ec ?_
   refine km sz zl (λe he=>ok e (List.mem_of_mem_take he)) (Nat.le_trans tl (by decide)) (λi' j' fb'=>(fb'.all fb.pr).elim) λA μ2 j2 rs s la ch2 hj R=>?_
   have hw2:=ch2.get hw' (by simp)
   refine⟨_,hw2,?_⟩
   refine UE ec ?_
   have tab2:=ch2.get (ch.get tab (by simp)) (by simp)
   refine JY sz hb tab2 tl hj R λμ3 ch3=>?_
   have hw3:=ch3.get hw2 (by simp)
   have hj3:=ch3.get hj (by simp)
   refine⟨_,_,hw3,qd ha,?_⟩
   refine⟨_,_,hw3,qd hb',?_⟩
   refine⟨_,rfl,?_⟩
   have rl:=R.rl
   have gl:=R.gl
   refine jq sz hb (ch3.get tab2 (by simp)) hj3 (by omega) (by omega) R.run λμ4 j4 ch4 l4 h4 _=>?_
   refine XB (es:=[a,b]) rfl ?_
   refine yW h4 λc hc=>?_
   cases c with
   |false=>exact q _
   |true=>
    exfalso
    have:=(z25 sz R.run).sublist (hc.mp rfl)
    have:=(List.pairwise_cons.mp this).1 b (by simp)
    rw[bad] at this;cases this
 ·have:=A 0 1 a b (by decide) rfl rfl
  rw[bad] at this;cases this
theorem z0K:Vm jR:=by
 intro ns hns
 unfold jR
 refine⟨rfl,?_⟩
 refine ZS (by decide) λcell=>?_
 refine WB (by decide) (by decide) ?_
 refine⟨by decide,?_⟩
 refine WB (by decide) (by decide) ?_
 refine xb (by decide) ?_
 refine⟨by decide,?_⟩
 have p:∃v:Int,xa [T.int 0,.int (z2M cell 40 1000),.int (z2M cell 50 (10 ^ Int.toNat 36))] (vN cell 39 % 3)=some (.int v)/\0<=v/\v<1000000000000000000000000000000000000:=by
  have:vN cell 39 % 3=0\/vN cell 39 % 3=1\/vN cell 39 % 3=2:=by omega
  rcases this with e|e|e<;>rw[e]
  ·exact⟨_,rfl,by decide,by decide⟩
  ·refine⟨_,rfl,Int.emod_nonneg _ (by decide),Int.lt_trans (Int.emod_lt_of_pos _ (by decide)) (by decide)⟩
  ·exact⟨_,rfl,Int.emod_nonneg _ (by decide),Int.emod_lt_of_pos _ (by decide)⟩
 obtain⟨far,ev,f0,f1⟩:=p
 refine⟨_,ev,?_⟩
 refine qp (by decide) λd1 d10=>?_
 refine⟨by decide,?_⟩
 refine qp (by decide) λd2 d20=>?_
 refine⟨by decide,?_⟩
 refine qp (by decide) λd3 d30=>?_
 refine⟨by decide,?_⟩
 have n1:=Int.emod_nonneg d1 (show (9:Int)≠0 by decide)
 have n2:=Int.emod_nonneg d2 (show (4:Int)≠0 by decide)
 have n3:=Int.emod_nonneg d3 (show (20:Int)≠0 by decide)
 have m1:=Int.emod_lt_of_pos d1 (show (0:Int)<9 by decide)
 have m2:=Int.emod_lt_of_pos d2 (show (0:Int)<4 by decide)
 have m3:=Int.emod_lt_of_pos d3 (show (0:Int)<20 by decide)
 refine⟨rfl,?_⟩
 refine Z3 (by omega) (by omega) (by omega) ?_
 refine⟨rfl,_,rfl,rfl,?_⟩
 refine qp (by decide) λd4 d40=>?_
 refine⟨by decide,?_⟩
 have n4:=Int.emod_nonneg d4 (show (5:Int)≠0 by decide)
 have m4:=Int.emod_lt_of_pos d4 (show (0:Int)<5 by decide)
 refine U3 (Ky _ _ _ _) ?_
 have sz:Hz (far+(1+d1 % 9)) (1+d2 % 4) (1+d3 % 20):=⟨by omega,by omega,by omega,by omega,by omega⟩
 have hb:(far+(1+d1 % 9)) * (1+d3 % 20)<uw:=by
  have:(far+(1+d1 % 9)) * (1+d3 % 20)<=(far+(1+d1 % 9)) * 20:=Int.mul_le_mul_of_nonneg_left (by omega) (by omega)
  unfold uw
  omega
 have zl:1+d3 % 20<=20:=by omega
 refine Kj sz f0 (by omega) rfl (by omega) (by omega) z4N λμ1 w es ch hw ok el=>?_
 have tab:μ1[0]?=some (.tab 0):=ch.get (i:=0) rfl (by simp)
 refine⟨_,hw,?_⟩
 refine km sz zl ok (by omega) (λi j fb=>?_) λA μ2 j rs s la ch2 hj R=>?_
 ·exact z0y sz hb zl tab hw ok el fb λ_=>rfl
 ·exact Ul sz hb (ch2.get tab (by simp)) (ch2.get hw (by simp)) (by omega) hj R λ_=>rfl
end NH.P
namespace NH.K77
open PySem L2 NH NH.P
theorem tells:Vm jR:=z0K
end NH.K77
end
section
namespace NH.K77
open PySem PySem.Spec PyProof.Rows L2 NH NH.P PySem.W
theorem z5d{P:List Value->Prop}(h:∀a0,P [a0]):∀us:List Value,us.length=1->P us
 |[a0],_=>h a0
theorem z65{P:List Value->Prop}(h:∀a0 a1,P [a0,a1]):∀us:List Value,us.length=2->P us
 |[a0,a1],_=>h a0 a1
theorem z2V{P:List Value->Prop}(h:∀a0 a1 a2,P [a0,a1,a2]):∀us:List Value,us.length=3->P us
 |[a0,a1,a2],_=>h a0 a1 a2
theorem z5V{P:List Value->Prop}(h:∀a0 a1 a2 a3 a4 a5,P [a0,a1,a2,a3,a4,a5]):∀us:List Value,us.length=6->P us
 |[a0,a1,a2,a3,a4,a5],_=>h a0 a1 a2 a3 a4 a5
theorem all_mk {l:OpenLaw} {w:World} {K:Frag} {h:Heap} {mg:Str->Option Value} {fa C0 C1 C2 C3 C4 C5 C6 C7 C8 C9 C10 C11 P0 cA0 f0 f3 N3 CC8 CC23 f25 CC27 CC37 f42 CC42 dt42 f52 dt52 f53 dt53 f70:Addr} {od0 an0 od3 an3 dd3 od25 an25 od42 an42 te42 od52 an52 te52 od53 an53 te53 od70 an70:Option Addr} {sl0 sl3 sl25 sl42 ts42 sl52 ts52 sl53 ts53 sl70:Array (Option Value)} {oc0 kV0 dc0 pm0 cd0 ct0 oc3 kV3 dc3 pm3 cd3 ct3 oc25 kV25 dc25 pm25 ct25 oc42 kV42 dc42 pm42 cd42 ct42 td42 oc52 kV52 dc52 pm52 cd52 ct52 td52 oc53 kV53 dc53 pm53 cd53 ct53 td53 oc70 kV70 dc70 pm70 cd70 ct70:Value} {nm3 qn3:Str} {bs3 sb3:List Value} {hd3 ab3:Bool} {sn3:List Str} {co3:Option Bool} {ka3 kb3 kc3 kd3 ke3:Option Value} {tk15 tk16 tk17 tk20 tk21 tz52 tz53 tk55:Tok} {tn42 tn52 tn53:Nat} (X:K.In h) (G:h.Ns mainGlobals mg) (hfa:mg "law"=some (.ref fa))
  (e0:nsIn K mainGlobals "HouseError"=some (some (.ref C0)))
  (e1:nsIn K mainGlobals "NoShape"=some (some (.ref C1)))
  (e2:nsIn K mainGlobals "NoName"=some (some (.ref C2)))
  (e3:nsIn K mainGlobals "NoTime"=some (some (.ref C3)))
  (e4:nsIn K mainGlobals "NoHolder"=some (some (.ref C4)))
  (e5:nsIn K mainGlobals "NoLease"=some (some (.ref C5)))
  (e6:nsIn K mainGlobals "Ended"=some (some (.ref C6)))
  (e7:nsIn K mainGlobals "TooMany"=some (some (.ref C7)))
  (e8:nsIn K mainGlobals "Wait"=some (some (.ref C8)))
  (e9:nsIn K mainGlobals "NoNote"=some (some (.ref C9)))
  (e10:nsIn K mainGlobals "Fallen"=some (some (.ref C10)))
  (e11:nsIn K mainGlobals "NoRow"=some (some (.ref C11)))
  (a0:nsIn K mainGlobals "forget"=some (some (.ref f0)))
  (l0:K.lookup f0=some ⟨oc0,od0,.func (fnOf "forget" "forget" (zt vL) (z3 vL) (ze vL) .none kV0 dc0 pm0 an0 cd0 ct0),sl0⟩)
  (c0:codeIn K cd0 "forget"=true)
  (k0:keepIn K (.ref f0)=true)
  (xa3:K.lookup C8=some (excClassObj nm3 qn3 C8 N3 bs3 (.ref C0::zC) hd3 sn3 sb3 ab3 co3 dd3 ka3 kb3 kc3 kd3 ke3 "ValueError.__new__"))
  (xb3:nsOkIn K N3=true)
  (xc3:nsIn K N3 "__init__"=some (some (.ref f3)))
  (xd3:typeIn K (.ref f3)=some (.type "function"))
  (xe3:findIn K (.ref C8) "__setattr__"=some (some (.builtin "object.__setattr__")))
  (xf3:findIn K (.ref C8) "by"=some none)
  (xg3:hasDictIn K C8=true)
  (xh3:keepIn K (.ref C8)=true)
  (ha0:specialIn K (.ref C0) "__getattribute__"=some (some (.builtin "type.__getattribute__")))
  (ha1:readsIn K C0 (.type "type")=true)
  (ha2:findCls K (.ref C0) (.type "type") "__init__"=some (.val (.builtin "ValueError.__init__")))
  (l3:K.lookup f3=some ⟨oc3,od3,.func (fnOf "__init__" "Wait.__init__" (zt we) (z3 we) (ze we) .none kV3 dc3 pm3 an3 cd3 ct3),sl3⟩)
  (c3:codeIn K cd3 "Wait.__init__"=true)
  (k3:keepIn K (.ref f3)=true)
  (p4:zM K "is_whole" ye)
  (p5:zM K "is_size" Zd)
  (p6:zM K "is_from_nought" wF)
  (p7:zM K "is_below" yC)
  (p8:KH K CC8 "Shape" "Shape.__init__" jQ)
  (p9:zM K "names_in" uF)
  (p10:zM K "is_name" Zp)
  (p11:zM K "check_name" k7)
  (p12:zM K "check_part" kh)
  (p13:zM K "name_of" Zc)
  (p14:zM K "parts_of" yl)
  (v15:nsIn K mainGlobals "HOUSE"=some (some (.int 0 tk15)))
  (v16:nsIn K mainGlobals "FIRST"=some (some (.int 1 tk16)))
  (v17:nsIn K mainGlobals "UNTIL"=some (some (.int 2 tk17)))
  (p18:zM K "is_lease" y3)
  (p19:zM K "check_lease" j6)
  (v20:nsIn K mainGlobals "LETTERS"=some (some (.str "abcdefghijklmnopqrstuvwxyz" tk20)))
  (v21:nsIn K mainGlobals "LONGEST_HOLDER"=some (some (.int 8 tk21)))
  (p22:zM K "is_holder" xw)
  (p23:KH K CC23 "Grant" "Grant.__init__" ke)
  (p24:zM K "meets" Jo)
  (a25:nsIn K mainGlobals "least_begin"=some (some (.ref f25)))
  (l25:K.lookup f25=some ⟨oc25,od25,.func (fnOf "least_begin" "least_begin" (zt qe) (z3 qe) (ze qe) .none kV25 dc25 pm25 an25 (.ref cA0) ct25),sl25⟩)
  (c25:codeIn K (.ref cA0) "least_begin"=true)
  (zt0:codeHdIn K cA0 P0=true)
  (zk0:K.lookup P0=none)
  (zs0:P0≠cStatics)
  (k25:keepIn K (.ref f25)=true)
  (p26:zM K "least_house" jc)
  (p27:KH K CC27 "Common" "Common.__init__" j7)
  (p28:vx K CC27 "check_let" "Common.check_let" qV)
  (p29:vx K CC27 "grants_of" "Common.grants_of" qY)
  (p30:vx K CC27 "free_lease" "Common.free_lease" qK)
  (p31:vx K CC27 "let" "Common.let" jO)
  (p32:vx K CC27 "uncut" "Common.uncut" vJ)
  (p33:vx K CC27 "cut" "Common.cut" ko)
  (p34:zM K "is_entry" yN)
  (p35:zM K "check_book" jJ)
  (p36:zM K "is_note" Zl)
  (p37:KH K CC37 "Batch" "Batch.__init__" jY)
  (p38:zM K "name_at" ZQ)
  (p39:zM K "names_of_batch" wH)
  (p40:zM K "size_of" xC)
  (p41:zM K "place_above" jd)
  (q42:nsIn K mainGlobals "House"=some (some (.ref CC42)))
  (i42:findIn K (.ref CC42) "__init__"=some (some (.ref f42)))
  (j42:isFn K (.ref f42)=true)
  (l42:K.lookup f42=some ⟨oc42,od42,.func (fnOf "__init__" "House.__init__" (zt zv) (z3 zv) (ze zv) (.ref dt42) kV42 dc42 pm42 an42 cd42 ct42),sl42⟩)
  (d42:K.lookup dt42=some ⟨td42,te42,.seq #[.none] tn42,ts42⟩)
  (c42:codeIn K cd42 "House.__init__"=true)
  (k42:keepIn K (.ref f42)=true)
  (mk42:makesIn K CC42=true)
  (kk42:keepIn K (.ref CC42)=true)
  (p43:vx K CC42 "check_up" "House.check_up" wy)
  (p44:vx K CC42 "note" "House.note" jB)
  (p45:vx K CC42 "keep" "House.keep" kJ)
  (p46:vx K CC42 "take_lease" "House.take_lease" q_)
  (p47:vx K CC42 "check_has_lease" "House.check_has_lease" ql)
  (p48:vx K CC42 "free_place" "House.free_place" qX)
  (p49:vx K CC42 "next_batch" "House.next_batch" qZ)
  (p50:vx K CC42 "mark_behind" "House.mark_behind" qJ)
  (p51:vx K CC42 "hand_out" "House.hand_out" wC)
  (i52:findIn K (.ref CC42) "ask"=some (some (.ref f52)))
  (j52:isFn K (.ref f52)=true)
  (l52:K.lookup f52=some ⟨oc52,od52,.func (fnOf "ask" "House.ask" (zt zz) (z3 zz) (ze zz) (.ref dt52) kV52 dc52 pm52 an52 cd52 ct52),sl52⟩)
  (d52:K.lookup dt52=some ⟨td52,te52,.seq #[.int 1 tz52] tn52,ts52⟩)
  (c52:codeIn K cd52 "House.ask"=true)
  (k52:keepIn K (.ref f52)=true)
  (i53:findIn K (.ref CC42) "store"=some (some (.ref f53)))
  (j53:isFn K (.ref f53)=true)
  (l53:K.lookup f53=some ⟨oc53,od53,.func (fnOf "store" "House.store" (zt zk) (z3 zk) (ze zk) (.ref dt53) kV53 dc53 pm53 an53 cd53 ct53),sl53⟩)
  (d53:K.lookup dt53=some ⟨td53,te53,.seq #[.int 1 tz53] tn53,ts53⟩)
  (c53:codeIn K cd53 "House.store"=true)
  (k53:keepIn K (.ref f53)=true)
  (p54:vx K CC42 "last" "House.last" kq)
  (v55:nsIn K mainGlobals "MOST_COUNTS"=some (some (.int 20 tk55)))
  (p56:zM K "is_run_row" ki)
  (p57:zM K "are_run_rows" vH)
  (p58:zM K "house_of" u5)
  (p59:zM K "played" QW)
  (p60:zM K "run_of" yz)
  (p61:zM K "stand_together" wQ)
  (p62:zM K "judge" Zf)
  (p63:zM K "_law_cell_at" xG)
  (p64:zM K "_law_draw" Wz)
  (p65:zM K "_law_far" Jn)
  (p66:zM K "_law_within" uv)
  (p67:zM K "_law_is_right" kf)
  (p68:zM K "_law_book" u7)
  (p69:zM K "_law_wrong_pair" vK)
  (a70:nsIn K mainGlobals "law"=some (some (.ref f70)))
  (l70:K.lookup f70=some ⟨oc70,od70,.func (fnOf "law" "law" (zt qm) (z3 qm) (ze qm) .none kV70 dc70 pm70 an70 cd70 ct70),sl70⟩)
  (c70:codeIn K cd70 "law"=true)
  (k70:keepIn K (.ref f70)=true)
  (x0:excIn K C0 zC "ValueError.__new__"=true)
  (x1:excIn K C1 zC "ValueError.__new__"=true)
  (x2:excIn K C2 zC "ValueError.__new__"=true)
  (x3:excIn K C3 zC "ValueError.__new__"=true)
  (x4:excIn K C4 zC "ValueError.__new__"=true)
  (x5:excIn K C5 zC "ValueError.__new__"=true)
  (x6:excIn K C6 zC "ValueError.__new__"=true)
  (x7:excIn K C7 zC "ValueError.__new__"=true)
  (x9:excIn K C9 zC "ValueError.__new__"=true)
  (x10:excIn K C10 zC "ValueError.__new__"=true)
  (x11:excIn K C11 zC "ValueError.__new__"=true)
  (zl:WS K=true)
  (zc:chk K ⟨[(10,C0),(12,C1),(13,C2),(16,C3),(17,C4),(18,C5),(19,C6),(20,C7),(21,C8),(23,C9),(24,C10),(25,C11)],[(40,CC8),(42,CC23),(43,CC27),(44,CC37),(45,CC42)]⟩ cls fld=true)
  (zg:Xx K ⟨[(10,C0),(12,C1),(13,C2),(16,C3),(17,C4),(18,C5),(19,C6),(20,C7),(21,C8),(23,C9),(24,C10),(25,C11)],[(40,CC8),(42,CC23),(43,CC27),(44,CC37),(45,CC42)]⟩ ["ValueError","all","bool","int","isinstance","len","list","max","min","range","sorted","str","sum","tuple"] [("HouseError",10),("NoShape",12),("NoName",13),("NoTime",16),("NoHolder",17),("NoLease",18),("Ended",19),("TooMany",20),("NoNote",23),("Fallen",24),("NoRow",25)] [("Wait",21,29)]=true) :
  (WS K=true/\K.lookup P0=none/\P0≠cStatics/\∃c,codeHdIn K c P0=true)/\∃fd:FuncData,(∀(s:Shared) (v:Value),BindsTo s fd ⟨[v],[]⟩ [("_law_script",v)])/\∀base:Heap,K.In base->base.Ns mainGlobals mg->base.BuiltinsAt mg P0->FnOk l.prog w K mg base (CX1 l.prog w) 69 fa fd ["_law_script"] (VF K P0):=by
 have e:=hfa.symm.trans (mg_of X G a70)
 cases e
 have F0:=jj (st:=vL) l0 c0 k0
 have b0:=F0.binds (ps:=["note"]) λ_ _ _ _ _ _=>z5d λ_=>rfl
 have F3:=jj (st:=we) l3 c3 k3
 have b3:=F3.binds (ps:=["self","by"]) λ_ _ _ _ _ _=>z65 λ_ _=>rfl
 have F25:=jj (st:=qe) l25 c25 k25
 have b25:=F25.binds (ps:=["grants","moment","span"]) λ_ _ _ _ _ _=>z2V λ_ _ _=>rfl
 have b42:=xu (K:=K) (fd:=fnOf "__init__" "House.__init__" (zt zv) (z3 zv) (ze zv) (.ref dt42) kV42 dc42 pm42 an42 cd42 ct42) (ps:=["self","shape","ahead","stride","keeper","note"]) rfl d42 rfl <| z5V λ_ _ _ _ _ _=>⟨_,rfl,rfl⟩
 have bd42:=kX (K:=K) (d:=.none) (fd:=fnOf "__init__" "House.__init__" (zt zv) (z3 zv) (ze zv) (.ref dt42) kV42 dc42 pm42 an42 cd42 ct42) (ps:=["self","shape","ahead","stride","keeper","note"]) rfl d42 rfl λus hl=>match us,hl with | [_,_,_,_,_],_=>⟨_,rfl,rfl⟩
 have b52:=xu (K:=K) (fd:=fnOf "ask" "House.ask" (zt zz) (z3 zz) (ze zz) (.ref dt52) kV52 dc52 pm52 an52 cd52 ct52) (ps:=["self","reading","many"]) rfl d52 rfl <| z2V λ_ _ _=>⟨_,rfl,rfl⟩
 have bd52:=kX (K:=K) (d:=.int 1 tz52) (fd:=fnOf "ask" "House.ask" (zt zz) (z3 zz) (ze zz) (.ref dt52) kV52 dc52 pm52 an52 cd52 ct52) (ps:=["self","reading","many"]) rfl d52 rfl λus hl=>match us,hl with | [_,_],_=>⟨_,rfl,rfl⟩
 have b53:=xu (K:=K) (fd:=fnOf "store" "House.store" (zt zk) (z3 zk) (ze zk) (.ref dt53) kV53 dc53 pm53 an53 cd53 ct53) (ps:=["self","reading","many"]) rfl d53 rfl <| z2V λ_ _ _=>⟨_,rfl,rfl⟩
 have bd53:=kX (K:=K) (d:=.int 1 tz53) (fd:=fnOf "store" "House.store" (zt zk) (z3 zk) (ze zk) (.ref dt53) kV53 dc53 pm53 an53 cd53 ct53) (ps:=["self","reading","many"]) rfl d53 rfl λus hl=>match us,hl with | [_,_],_=>⟨_,rfl,rfl⟩
 have F70:=jj (st:=qm) l70 c70 k70
 have b70:=F70.binds (ps:=["_law_script"]) λ_ _ _ _ _ _=>z5d λ_=>rfl
 refine⟨⟨zl,zk0,zs0,cA0,zt0⟩,⟨fnOf "law" "law" (zt qm) (z3 qm) (ze qm) .none kV70 dc70 pm70 an70 cd70 ct70,λs v=>.of_eq rfl,λbase kb nb nbt=>?_⟩⟩
 have Z:Pk RU K mg base _ _ _:=⟨yZ,kb,nb,zc⟩
 have g0:GsOk l.prog w K mg base ⟨[(10,C0),(12,C1),(13,C2),(16,C3),(17,C4),(18,C5),(19,C6),(20,C7),(21,C8),(23,C9),(24,C10),(25,C11)],[(40,CC8),(42,CC23),(43,CC27),(44,CC37),(45,CC42)]⟩ (yr (([(P0,[⟨100,36,100,64⟩],((("least_begin":Str)++".<locals>.")++"<lambda>"))]:List (Addr×List Pos×Str)).map (·.2.2)) (some f0)) 0 gs0 (λj=>([(P0,[⟨100,36,100,64⟩],((("least_begin":Str)++".<locals>.")++"<lambda>"))]:List (Addr×List Pos×Str))[j]?):=VA kb nb zg ⟨⟨C0,rfl,x0⟩,⟨C1,rfl,x1⟩,⟨C2,rfl,x2⟩,⟨C3,rfl,x3⟩,⟨C4,rfl,x4⟩,⟨C5,rfl,x5⟩,⟨C6,rfl,x6⟩,⟨C7,rfl,x7⟩,⟨C9,rfl,x9⟩,⟨C10,rfl,x10⟩,⟨C11,rfl,x11⟩,trivial⟩
 have W0:FnOk l.prog w K mg base (CX1 l.prog w) 1 f0 _ ["note"] (spN _ 1 forget):=vg (m:=0) yZ (yG (N:=["note"]) (G:=[]) (cel:=[]) (own:=[]) (lam:=none) kb nb zc g0) l0 c0 rfl rfl XO
 have g1:GsOk l.prog w K mg base _ _ 1 gs1 _:=GsOk.add (g0.mono (by decide)) ⟨f0,mg_of kb nb a0,_,_,1,k0,b0,by decide,W0,qv⟩ rfl
 have g2:GsOk l.prog w K mg base _ _ 1 gs2 _:=GsOk.add (g1.mono (by decide)) (z2x (tbs:=([(P0,[⟨100,36,100,64⟩],((("least_begin":Str)++".<locals>.")++"<lambda>"))]:List (Addr×List Pos×Str))) l0 b0 (by decide) W0 (λt μ K Z q=>⟨rfl,q⟩)) rfl
 have g3:GsOk l.prog w K mg base _ _ 1 gs3 _:=GsOk.add (x:="forget") g2 ⟨_,.ref f0,mg_of kb nb a0,rfl,λφ α H=>⟨f0,none,[],rfl,.inr (.inr ⟨rfl,rfl,rfl,rfl⟩),λo e=>(by cases e),rfl⟩⟩ rfl
 have XI3:XIn K C8 C0 f3 "by":=⟨⟨N3,nm3,qn3,bs3,hd3,sn3,sb3,ab3,co3,dd3,ka3,kb3,kc3,kd3,ke3,xa3,xb3,xc3⟩,x0,xd3,xe3,xf3,xg3,xh3⟩
 have W3:FnOk l.prog w K mg base (CX1 l.prog w) 2 f3 _ ["self","by"] (spI C8 "by"):=z5y XI3 ⟨mg_of kb nb e0,ha0,ha1,ha2⟩ l3 c3 (by first|exact⟨_,_,_,_,_,_,_,_,_,_,_,rfl,rfl,.inl ⟨_,_,_,_,_,_,_,_,rfl,by decide,by decide⟩⟩|exact⟨_,_,_,_,_,_,_,_,_,_,_,rfl,rfl,.inr ⟨_,_,_,_,_,rfl,by decide⟩⟩) rfl
 have g4:GsOk l.prog w K mg base _ _ 3 gs4 _:=GsOk.add (g3.mono (by decide)) ⟨C8,C0,f3,_,_,2,rfl,mg_of kb nb e8,rfl,XI3,b3,by decide,W3⟩ rfl
 have g5:GsOk l.prog w K mg base _ _ 3 gs5 _:=GsOk.add g4 ⟨C8,C0,f3,_,_,2,rfl,mg_of kb nb e8,rfl,XI3,b3,by decide,W3⟩ rfl
 have g6:GsOk l.prog w K mg base _ _ 4 gs6 _:=Z.fn (ps:=["thing"]) p4 g5 Vs rfl rfl (λ_ _ _ _ _ _ _=>rfl) rfl
 have g7:GsOk l.prog w K mg base _ _ 5 gs7 _:=Z.fn (ps:=["thing"]) p5 g6 J_ rfl rfl (λ_ _ _ _ _ _ _=>rfl) rfl
 have g8:GsOk l.prog w K mg base _ _ 6 gs8 _:=Z.fn (ps:=["thing"]) p6 g7 xq rfl rfl (λ_ _ _ _ _ _ _=>rfl) rfl
 have g9:GsOk l.prog w K mg base _ _ 7 gs9 _:=Z.fn (ps:=["thing","bound"]) p7 g8 Vx rfl rfl (λ_ _ _ _ _ _ _ _=>rfl) rfl
 have g10:GsOk l.prog w K mg base _ _ 9 z3X _:=Z.cl (ps:=["self","moments","houses","counts"]) p8 g9 QH rfl rfl rfl (λ_ _ _ _ _ _ _ _ _ _=>rfl) rfl
 have g11:GsOk l.prog w K mg base _ _ 10 z2y _:=Z.fn (ps:=["shape"]) p9 g10 VX rfl rfl (λ_ _ _ _ _ _ _=>rfl) rfl
 have g12:GsOk l.prog w K mg base _ _ 11 z2I _:=Z.fn (ps:=["shape","thing"]) p10 g11 Kf rfl rfl (λ_ _ _ _ _ _ _ _=>rfl) rfl
 have g13:GsOk l.prog w K mg base _ _ 12 z4r _:=Z.fn (ps:=["shape","thing"]) p11 g12 Qu rfl rfl (λ_ _ _ _ _ _ _ _=>rfl) rfl
 have g14:GsOk l.prog w K mg base _ _ 13 z2L _:=Z.fn (ps:=["thing","bound"]) p12 g13 QK rfl rfl (λ_ _ _ _ _ _ _ _=>rfl) rfl
 have g15:GsOk l.prog w K mg base _ _ 14 z39 _:=Z.fn (ps:=["shape","moment","house","count"]) p13 g14 Ke rfl rfl (λ_ _ _ _ _ _ _ _ _ _=>rfl) rfl
 have g16:GsOk l.prog w K mg base _ _ 15 z5m _:=Z.fn (ps:=["shape","name"]) p14 g15 V3 rfl rfl (λ_ _ _ _ _ _ _ _=>rfl) rfl
 have g17:GsOk l.prog w K mg base _ _ 15 z5v _:=GsOk.add g16 ⟨_,(.int 0),mg_of kb nb v15,⟨_,rfl⟩,λ_ _ _=>rfl⟩ rfl
 have g18:GsOk l.prog w K mg base _ _ 15 z4J _:=GsOk.add g17 ⟨_,(.int 1),mg_of kb nb v16,⟨_,rfl⟩,λ_ _ _=>rfl⟩ rfl
 have g19:GsOk l.prog w K mg base _ _ 15 z37 _:=GsOk.add g18 ⟨_,(.int 2),mg_of kb nb v17,⟨_,rfl⟩,λ_ _ _=>rfl⟩ rfl
 have g20:GsOk l.prog w K mg base _ _ 16 z2Y _:=Z.fn (ps:=["shape","thing"]) p18 g19 V1 rfl rfl (λ_ _ _ _ _ _ _ _=>rfl) rfl
 have g21:GsOk l.prog w K mg base _ _ 17 z5o _:=Z.fn (ps:=["shape","thing"]) p19 g20 uL rfl rfl (λ_ _ _ _ _ _ _ _=>rfl) rfl
 have g22:GsOk l.prog w K mg base _ _ 17 z4G _:=GsOk.add g21 ⟨_,(.str "abcdefghijklmnopqrstuvwxyz"),mg_of kb nb v20,⟨_,rfl⟩,λ_ _ _=>rfl⟩ rfl
 have g23:GsOk l.prog w K mg base _ _ 17 z4h _:=GsOk.add g22 ⟨_,(.int 8),mg_of kb nb v21,⟨_,rfl⟩,λ_ _ _=>rfl⟩ rfl
 have g24:GsOk l.prog w K mg base _ _ 18 z3c _:=Z.fn (ps:=["thing"]) p22 g23 Q_ rfl rfl (λ_ _ _ _ _ _ _=>rfl) rfl
 have g25:GsOk l.prog w K mg base _ _ 20 z23 _:=Z.cl (ps:=["self","holder","lease"]) p23 g24 Qo rfl rfl rfl (λ_ _ _ _ _ _ _ _ _=>rfl) rfl
 have g26:GsOk l.prog w K mg base _ _ 21 z3r _:=Z.fn (ps:=["grant","first","until"]) p24 g25 z10 rfl rfl (λ_ _ _ _ _ _ _ _ _=>rfl) rfl
 have W25:FnOk l.prog w K mg base (CX1 l.prog w) 22 f25 _ ["grants","moment","span"] (spN _ 3 qG):=vg (m:=2) yZ (yG (N:=["grants","moment","span","begin","grant"]) (G:=["sorted","meets"]) (cel:=[]) (own:=[]) (lam:=some (0,[⟨100,36,100,64⟩])) kb nb zc g26) l25 c25 rfl rfl uY (λj pos e=>by cases e;exact⟨by decide,cA0,P0,rfl,codeHd_of_K kb zt0,nbt,rfl⟩)
 have g27:GsOk l.prog w K mg base _ _ 22 z3u _:=GsOk.add (g26.mono (by decide)) ⟨f25,mg_of kb nb a25,_,_,22,k25,b25,by decide,W25,qv⟩ rfl
 have g28:GsOk l.prog w K mg base _ _ 23 z2h _:=Z.fn (ps:=["grants","moment","span"]) p26 g27 uV rfl rfl (λ_ _ _ _ _ _ _ _ _=>rfl) rfl
 have g29:GsOk l.prog w K mg base _ _ 25 z33 _:=Z.cl (ps:=["self","shape"]) p27 g28 uT rfl rfl rfl (λ_ _ _ _ _ _ _ _=>rfl) rfl
 have g30:GsOk l.prog w K mg base _ _ 26 z2A _:=Z.met (ps:=["self","holder","house","moment","span"]) p28 g29 jk rfl rfl rfl rfl (λ_ _ _ _ _ _ _ _ _ _ _=>rfl) rfl
 have g31:GsOk l.prog w K mg base _ _ 27 z4c _:=Z.met (ps:=["self","house"]) p29 g30 jg rfl rfl rfl rfl (λ_ _ _ _ _ _ _ _=>rfl) rfl
 have g32:GsOk l.prog w K mg base _ _ 28 z21 _:=Z.met (ps:=["self","house","moment","span"]) p30 g31 vY rfl rfl rfl rfl (λ_ _ _ _ _ _ _ _ _ _=>rfl) rfl
 have g33:GsOk l.prog w K mg base _ _ 29 z1_ _:=Z.met (ps:=["self","holder","house","moment","span"]) p31 g32 Qp rfl rfl rfl rfl (λ_ _ _ _ _ _ _ _ _ _ _=>rfl) rfl
 have g34:GsOk l.prog w K mg base _ _ 30 z20 _:=Z.met (ps:=["self","lease"]) p32 g33 ue rfl rfl rfl rfl (λ_ _ _ _ _ _ _ _=>rfl) rfl
 have g35:GsOk l.prog w K mg base _ _ 31 z34 _:=Z.met (ps:=["self","lease","used"]) p33 g34 Qa rfl rfl rfl rfl (λ_ _ _ _ _ _ _ _ _=>rfl) rfl
 have g36:GsOk l.prog w K mg base _ _ 32 z30 _:=Z.fn (ps:=["shape","thing"]) p34 g35 VS rfl rfl (λ_ _ _ _ _ _ _ _=>rfl) rfl
 have g37:GsOk l.prog w K mg base _ _ 33 z4q _:=Z.fn (ps:=["shape","thing"]) p35 g36 Z_ rfl rfl (λ_ _ _ _ _ _ _ _=>rfl) rfl
 have g38:GsOk l.prog w K mg base _ _ 34 z3_ _:=Z.fn (ps:=["shape","thing"]) p36 g37 KZ rfl rfl (λ_ _ _ _ _ _ _ _=>rfl) rfl
 have g39:GsOk l.prog w K mg base _ _ 36 z42 _:=Z.cl (ps:=["self","house","begin","end"]) p37 g38 ZV rfl rfl rfl (λ_ _ _ _ _ _ _ _ _ _=>rfl) rfl
 have g40:GsOk l.prog w K mg base _ _ 37 z3U _:=Z.fn (ps:=["shape","house","place"]) p38 g39 JV rfl rfl (λ_ _ _ _ _ _ _ _ _=>rfl) rfl
 have g41:GsOk l.prog w K mg base _ _ 38 z49 _:=Z.fn (ps:=["shape","batch"]) p39 g40 xf rfl rfl (λ_ _ _ _ _ _ _ _=>rfl) rfl
 have g42:GsOk l.prog w K mg base _ _ 39 z2l _:=Z.fn (ps:=["batches"]) p40 g41 W5 rfl rfl (λ_ _ _ _ _ _ _=>rfl) rfl
 have g43:GsOk l.prog w K mg base _ _ 40 z3f _:=Z.fn (ps:=["shape","house","name"]) p41 g42 uO rfl rfl (λ_ _ _ _ _ _ _ _ _=>rfl) rfl
 have W42:FnOk l.prog w K mg base (CX1 l.prog w) 41 f42 _ ["self","shape","ahead","stride","keeper","note"] (spN _ 6 qx):=vg (m:=0) yZ (yG (N:=["self","shape","ahead","stride","keeper","note"]) (G:=["is_from_nought","NoTime","is_note","NoNote"]) (cel:=[]) (own:=[]) (lam:=none) kb nb zc g43) l42 c42 rfl rfl Qn
 have g44:GsOk l.prog w K mg base _ _ 42 z5A _:=GsOk.add (g43.mono (by decide)) ⟨CC42,f42,_,_,41,rfl,mg_of kb nb q42,⟨mk42,i42,j42,kk42⟩,b42,by decide,W42,qv⟩ rfl
 have g45:GsOk l.prog w K mg base _ _ 42 z1Y _:=GsOk.add (x:=til "House") g44 ⟨CC42,f42,_,_,41,rfl,mg_of kb nb q42,⟨mk42,i42,j42,kk42⟩,bd42,by decide,W42,qv,rfl⟩ rfl
 have g46:GsOk l.prog w K mg base _ _ 43 z1L _:=Z.met (ps:=["self"]) p43 g45 kT rfl rfl rfl rfl (λ_ _ _ _ _ _ _=>rfl) rfl
 have g47:GsOk l.prog w K mg base _ _ 44 z2_ _:=Z.met (ps:=["self"]) p44 g46 Q3 rfl rfl rfl rfl (λ_ _ _ _ _ _ _=>rfl) rfl
 have g48:GsOk l.prog w K mg base _ _ 45 z2i _:=Z.met (ps:=["self","lease","mark"]) p45 g47 Qt rfl rfl rfl rfl (λ_ _ _ _ _ _ _ _ _=>rfl) rfl
 have g49:GsOk l.prog w K mg base _ _ 46 z28 _:=Z.met (ps:=["self","lease"]) p46 g48 jw rfl rfl rfl rfl (λ_ _ _ _ _ _ _ _=>rfl) rfl
 have g50:GsOk l.prog w K mg base _ _ 47 z1P _:=Z.met (ps:=["self"]) p47 g49 wz rfl rfl rfl rfl (λ_ _ _ _ _ _ _=>rfl) rfl
 have g51:GsOk l.prog w K mg base _ _ 48 z4u _:=Z.met (ps:=["self"]) p48 g50 jy rfl rfl rfl rfl (λ_ _ _ _ _ _ _=>rfl) rfl
 have g52:GsOk l.prog w K mg base _ _ 49 z3t _:=Z.met (ps:=["self","reading","many"]) p49 g51 jo rfl rfl rfl rfl (λ_ _ _ _ _ _ _ _ _=>rfl) rfl
 have g53:GsOk l.prog w K mg base _ _ 50 z4l _:=Z.met (ps:=["self","moment"]) p50 g52 vZ rfl rfl rfl rfl (λ_ _ _ _ _ _ _ _=>rfl) rfl
 have g54:GsOk l.prog w K mg base _ _ 51 z4k _:=Z.met (ps:=["self","reading","many"]) p51 g53 kY rfl rfl rfl rfl (λ_ _ _ _ _ _ _ _ _=>rfl) rfl
 have W52:FnOk l.prog w K mg base (CX1 l.prog w) 52 f52 _ ["self","reading","many"] (spN _ 3 qw):=vg (m:=1) yZ (yG (N:=["self","reading","many","batch"]) (G:=["names_of_batch"]) (cel:=[]) (own:=[]) (lam:=none) kb nb zc g54) l52 c52 rfl rfl Wq
 have g55:GsOk l.prog w K mg base _ _ 52 z4z _:=GsOk.add (g54.mono (by decide)) ⟨CC42,f52,_,_,52,rfl,yM (c:=45) zc rfl,⟨i52,j52,k52⟩,λi h=>absurd (List.mem_of_getElem? (show FLD[i]?=some "ask" from h)) (by decide +kernel),b52,by decide,W52,qv⟩ rfl
 have g56:GsOk l.prog w K mg base _ _ 52 z3o _:=GsOk.add (x:=til (dot "ask")) g55 ⟨CC42,f52,_,_,52,_,(.int 1),rfl,yM (c:=45) zc rfl,⟨i52,j52,k52⟩,λi h=>absurd (List.mem_of_getElem? (show FLD[i]?=some "ask" from h)) (by decide +kernel),bd52,⟨_,rfl⟩,λ_ _ _=>rfl,by decide,W52,qv,rfl⟩ rfl
 have W53:FnOk l.prog w K mg base (CX1 l.prog w) 53 f53 _ ["self","reading","many"] (spN _ 3 wo):=vg (m:=1) yZ (yG (N:=["self","reading","many","batch"]) (G:=["size_of"]) (cel:=[]) (own:=[]) (lam:=none) kb nb zc g56) l53 c53 rfl rfl xS
 have g57:GsOk l.prog w K mg base _ _ 53 z4L _:=GsOk.add (g56.mono (by decide)) ⟨CC42,f53,_,_,53,rfl,yM (c:=45) zc rfl,⟨i53,j53,k53⟩,λi h=>absurd (List.mem_of_getElem? (show FLD[i]?=some "store" from h)) (by decide +kernel),b53,by decide,W53,qv⟩ rfl
 have g58:GsOk l.prog w K mg base _ _ 53 z2z _:=GsOk.add (x:=til (dot "store")) g57 ⟨CC42,f53,_,_,53,_,(.int 1),rfl,yM (c:=45) zc rfl,⟨i53,j53,k53⟩,λi h=>absurd (List.mem_of_getElem? (show FLD[i]?=some "store" from h)) (by decide +kernel),bd53,⟨_,rfl⟩,λ_ _ _=>rfl,by decide,W53,qv,rfl⟩ rfl
 have g59:GsOk l.prog w K mg base _ _ 54 z5F _:=Z.met (ps:=["self"]) p54 g58 QB rfl rfl rfl rfl (λ_ _ _ _ _ _ _=>rfl) rfl
 have g60:GsOk l.prog w K mg base _ _ 54 z3K _:=GsOk.add g59 ⟨_,(.int 20),mg_of kb nb v55,⟨_,rfl⟩,λ_ _ _=>rfl⟩ rfl
 have g61:GsOk l.prog w K mg base _ _ 55 z40 _:=Z.fn (ps:=["thing"]) p56 g60 Qw rfl rfl (λ_ _ _ _ _ _ _=>rfl) rfl
 have g62:GsOk l.prog w K mg base _ _ 56 z4j _:=Z.fn (ps:=["thing"]) p57 g61 uA rfl rfl (λ_ _ _ _ _ _ _=>rfl) rfl
 have g63:GsOk l.prog w K mg base _ _ 57 z2C _:=Z.fn (ps:=["houses","shape","holder"]) p58 g62 V5 rfl rfl (λ_ _ _ _ _ _ _ _ _=>rfl) rfl
 have g64:GsOk l.prog w K mg base _ _ 58 z3z _:=Z.fn (ps:=["shape","rows"]) p59 g63 U4 rfl rfl (λ_ _ _ _ _ _ _ _=>rfl) rfl
 have g65:GsOk l.prog w K mg base _ _ 59 z2a _:=Z.fn (ps:=["given"]) p60 g64 V6 rfl rfl (λ_ _ _ _ _ _ _=>rfl) rfl
 have g66:GsOk l.prog w K mg base _ _ 60 z41 _:=Z.fn (ps:=["one","other"]) p61 g65 xc rfl rfl (λ_ _ _ _ _ _ _ _=>rfl) rfl
 have g67:GsOk l.prog w K mg base _ _ 61 z1X _:=Z.fn (ps:=["shape","book"]) p62 g66 K7 rfl rfl (λ_ _ _ _ _ _ _ _=>rfl) rfl
 have g68:GsOk l.prog w K mg base _ _ 62 z2S _:=Z.fn (ps:=["_law_script","_law_k"]) p63 g67 Wn rfl rfl (λ_ _ _ _ _ _ _ _=>rfl) rfl
 have g69:GsOk l.prog w K mg base _ _ 63 z4i _:=Z.fn (ps:=["_law_cell","_law_k"]) p64 g68 YD rfl rfl (λ_ _ _ _ _ _ _ _=>rfl) rfl
 have g70:GsOk l.prog w K mg base _ _ 64 z4w _:=Z.fn (ps:=["_law_cell","_law_k","_law_most"]) p65 g69 z17 rfl rfl (λ_ _ _ _ _ _ _ _ _=>rfl) rfl
 have g71:GsOk l.prog w K mg base _ _ 65 z1S _:=Z.fn (ps:=["_law_book_here","_law_given"]) p66 g70 Vn rfl rfl (λ_ _ _ _ _ _ _ _=>rfl) rfl
 have g72:GsOk l.prog w K mg base _ _ 66 z3P _:=Z.fn (ps:=["_law_shape","_law_book_here","_law_found"]) p67 g71 ZW rfl rfl (λ_ _ _ _ _ _ _ _ _=>rfl) rfl
 have g73:GsOk l.prog w K mg base _ _ 67 z47 _:=Z.fn (ps:=["_law_shape","_law_far_here","_law_many","_law_holders","_law_cells"]) p68 g72 Vv rfl rfl (λ_ _ _ _ _ _ _ _ _ _ _=>rfl) rfl
 have g74:GsOk l.prog w K mg base _ _ 68 z5e _:=Z.fn (ps:=["_law_shape","_law_book_here","_law_found"]) p69 g73 yw rfl rfl (λ_ _ _ _ _ _ _ _ _=>rfl) rfl
 have W70:FnOk l.prog w K mg base (CX1 l.prog w) 69 fa _ ["_law_script"] (spN _ 1 jR):=vg (m:=6) yZ (yG (N:=["_law_script","_law_first","_law_far_here","_law_many","_law_shape","_law_book_here","_law_found"]) (G:=["_law_cell_at","_law_far","_law_draw","Shape","_law_book","judge","list","isinstance","tuple","len","_law_is_right","_law_wrong_pair"]) (cel:=[]) (own:=[]) (lam:=none) kb nb zc g74) l70 c70 rfl rfl X1
 exact z0t (f:=jR) tells rfl W70
end NH.K77
end
section
open PySem PySem.W PyProof.Rows
set_option maxRecDepth 100000 in
set_option maxHeartbeats 0 in
theorem PySem.Challenge.cw_namehouses_k77_whole_no_other_pair_ahead_holds : PySem.Challenge.rw_namehouses_k77_whole_no_other_pair_ahead.Holds := by
 w_on;o_law;k_head;(case hw=>w_witness2)
 k_fill
 refine NH.walkT2 (l:=PySem.Challenge.rw_namehouses_k77_whole_no_other_pair_ahead) (k:=69) (x:="_law_script") (by decide) rfl rfl (λw h Y=>PySem.W.km_in_of Y) (λw h Y=>PySem.W.km_tabs_of Y _ (.head _)) ?F
 case F=>
  intro w mg fa h KX G hmg
  refine' NH.K77.all_mk KX G hmg ?ze0 ?ze1 ?ze2 ?ze3 ?ze4 ?ze5 ?ze6 ?ze7 ?ze8 ?ze9 ?ze10 ?ze11 ?za0 ?zl0 ?zc0 ?zk0 ?zxa3 ?zxb3 ?zxc3 ?zxd3 ?zxe3 ?zxf3 ?zxg3 ?zxh3 ?zha0 ?zha1 ?zha2 ?zl3 ?zc3 ?zk3 ?zp4 ?zp5 ?zp6 ?zp7 ?zp8 ?zp9 ?zp10 ?zp11 ?zp12 ?zp13 ?zp14 ?zv15 ?zv16 ?zv17 ?zp18 ?zp19 ?zv20 ?zv21 ?zp22 ?zp23 ?zp24 ?za25 ?zl25 ?zc25 ?zzt0 ?zzk0 ?zzs0 ?zk25 ?zp26 ?zp27 ?zp28 ?zp29 ?zp30 ?zp31 ?zp32 ?zp33 ?zp34 ?zp35 ?zp36 ?zp37 ?zp38 ?zp39 ?zp40 ?zp41 ?zq42 ?zi42 ?zj42 ?zl42 ?zd42 ?zc42 ?zk42 ?zmk42 ?zkk42 ?zp43 ?zp44 ?zp45 ?zp46 ?zp47 ?zp48 ?zp49 ?zp50 ?zp51 ?zi52 ?zj52 ?zl52 ?zd52 ?zc52 ?zk52 ?zi53 ?zj53 ?zl53 ?zd53 ?zc53 ?zk53 ?zp54 ?zv55 ?zp56 ?zp57 ?zp58 ?zp59 ?zp60 ?zp61 ?zp62 ?zp63 ?zp64 ?zp65 ?zp66 ?zp67 ?zp68 ?zp69 ?za70 ?zl70 ?zc70 ?zk70 ?zx0 ?zx1 ?zx2 ?zx3 ?zx4 ?zx5 ?zx6 ?zx7 ?zx9 ?zx10 ?zx11 ?zzl ?zzc ?zzg
  (case ze0=>k_is)
  (case ze1=>k_is)
  (case ze2=>k_is)
  (case ze3=>k_is)
  (case ze4=>k_is)
  (case ze5=>k_is)
  (case ze6=>k_is)
  (case ze7=>k_is)
  (case ze8=>k_is)
  (case ze9=>k_is)
  (case ze10=>k_is)
  (case ze11=>k_is)
  (case za0=>k_is)
  (case zl0=>k_is)
  (case zc0=>k_is)
  (case zk0=>k_is)
  (case zxa3=>k_is)
  (case zxb3=>kernel_rfl)
  (case zxc3=>k_is)
  (case zxd3=>k_is)
  (case zxe3=>k_is)
  (case zxf3=>k_is)
  (case zxg3=>k_is)
  (case zxh3=>k_is)
  (case zha0=>k_is)
  (case zha1=>k_is)
  (case zha2=>k_is)
  (case zl3=>k_is)
  (case zc3=>k_is)
  (case zk3=>k_is)
  (case zp4=>exact NH.dfp (by k_is) (by k_is) (by k_is) (by k_is))
  (case zp5=>exact NH.dfp (by k_is) (by k_is) (by k_is) (by k_is))
  (case zp6=>exact NH.dfp (by k_is) (by k_is) (by k_is) (by k_is))
  (case zp7=>exact NH.dfp (by k_is) (by k_is) (by k_is) (by k_is))
  (case zp8=>exact NH.clp (by k_is) (by k_is) (by k_is) (by k_is) (by k_is) (by k_is) (by k_is) (by k_is))
  (case zp9=>exact NH.dfp (by k_is) (by k_is) (by k_is) (by k_is))
  (case zp10=>exact NH.dfp (by k_is) (by k_is) (by k_is) (by k_is))
  (case zp11=>exact NH.dfp (by k_is) (by k_is) (by k_is) (by k_is))
  (case zp12=>exact NH.dfp (by k_is) (by k_is) (by k_is) (by k_is))
  (case zp13=>exact NH.dfp (by k_is) (by k_is) (by k_is) (by k_is))
  (case zp14=>exact NH.dfp (by k_is) (by k_is) (by k_is) (by k_is))
  (case zv15=>k_is)
  (case zv16=>k_is)
  (case zv17=>k_is)
  (case zp18=>exact NH.dfp (by k_is) (by k_is) (by k_is) (by k_is))
  (case zp19=>exact NH.dfp (by k_is) (by k_is) (by k_is) (by k_is))
  (case zv20=>k_is)
  (case zv21=>k_is)
  (case zp22=>exact NH.dfp (by k_is) (by k_is) (by k_is) (by k_is))
  (case zp23=>exact NH.clp (by k_is) (by k_is) (by k_is) (by k_is) (by k_is) (by k_is) (by k_is) (by k_is))
  (case zp24=>exact NH.dfp (by k_is) (by k_is) (by k_is) (by k_is))
  (case za25=>k_is)
  (case zl25=>k_is)
  (case zc25=>k_is)
  (case zzt0=>exact rfl)
  (case zzk0=>exact rfl)
  (case zzs0=>decide)
  (case zk25=>k_is)
  (case zp26=>exact NH.dfp (by k_is) (by k_is) (by k_is) (by k_is))
  (case zp27=>exact NH.clp (by k_is) (by k_is) (by k_is) (by k_is) (by k_is) (by k_is) (by k_is) (by k_is))
  (case zp28=>exact NH.mtp (by k_is) (by k_is) (by k_is) (by k_is) (by k_is))
  (case zp29=>exact NH.mtp (by k_is) (by k_is) (by k_is) (by k_is) (by k_is))
  (case zp30=>exact NH.mtp (by k_is) (by k_is) (by k_is) (by k_is) (by k_is))
  (case zp31=>exact NH.mtp (by k_is) (by k_is) (by k_is) (by k_is) (by k_is))
  (case zp32=>exact NH.mtp (by k_is) (by k_is) (by k_is) (by k_is) (by k_is))
  (case zp33=>exact NH.mtp (by k_is) (by k_is) (by k_is) (by k_is) (by k_is))
  (case zp34=>exact NH.dfp (by k_is) (by k_is) (by k_is) (by k_is))
  (case zp35=>exact NH.dfp (by k_is) (by k_is) (by k_is) (by k_is))
  (case zp36=>exact NH.dfp (by k_is) (by k_is) (by k_is) (by k_is))
  (case zp37=>exact NH.clp (by k_is) (by k_is) (by k_is) (by k_is) (by k_is) (by k_is) (by k_is) (by k_is))
  (case zp38=>exact NH.dfp (by k_is) (by k_is) (by k_is) (by k_is))
  (case zp39=>exact NH.dfp (by k_is) (by k_is) (by k_is) (by k_is))
  (case zp40=>exact NH.dfp (by k_is) (by k_is) (by k_is) (by k_is))
  (case zp41=>exact NH.dfp (by k_is) (by k_is) (by k_is) (by k_is))
  (case zq42=>k_is)
  (case zi42=>k_is)
  (case zj42=>k_is)
  (case zl42=>k_is)
  (case zd42=>k_is)
  (case zc42=>k_is)
  (case zk42=>k_is)
  (case zmk42=>k_is)
  (case zkk42=>k_is)
  (case zp43=>exact NH.mtp (by k_is) (by k_is) (by k_is) (by k_is) (by k_is))
  (case zp44=>exact NH.mtp (by k_is) (by k_is) (by k_is) (by k_is) (by k_is))
  (case zp45=>exact NH.mtp (by k_is) (by k_is) (by k_is) (by k_is) (by k_is))
  (case zp46=>exact NH.mtp (by k_is) (by k_is) (by k_is) (by k_is) (by k_is))
  (case zp47=>exact NH.mtp (by k_is) (by k_is) (by k_is) (by k_is) (by k_is))
  (case zp48=>exact NH.mtp (by k_is) (by k_is) (by k_is) (by k_is) (by k_is))
  (case zp49=>exact NH.mtp (by k_is) (by k_is) (by k_is) (by k_is) (by k_is))
  (case zp50=>exact NH.mtp (by k_is) (by k_is) (by k_is) (by k_is) (by k_is))
  (case zp51=>exact NH.mtp (by k_is) (by k_is) (by k_is) (by k_is) (by k_is))
  (case zi52=>k_is)
  (case zj52=>k_is)
  (case zl52=>k_is)
  (case zd52=>k_is)
  (case zc52=>k_is)
  (case zk52=>k_is)
  (case zi53=>k_is)
  (case zj53=>k_is)
  (case zl53=>k_is)
  (case zd53=>k_is)
  (case zc53=>k_is)
  (case zk53=>k_is)
  (case zp54=>exact NH.mtp (by k_is) (by k_is) (by k_is) (by k_is) (by k_is))
  (case zv55=>k_is)
  (case zp56=>exact NH.dfp (by k_is) (by k_is) (by k_is) (by k_is))
  (case zp57=>exact NH.dfp (by k_is) (by k_is) (by k_is) (by k_is))
  (case zp58=>exact NH.dfp (by k_is) (by k_is) (by k_is) (by k_is))
  (case zp59=>exact NH.dfp (by k_is) (by k_is) (by k_is) (by k_is))
  (case zp60=>exact NH.dfp (by k_is) (by k_is) (by k_is) (by k_is))
  (case zp61=>exact NH.dfp (by k_is) (by k_is) (by k_is) (by k_is))
  (case zp62=>exact NH.dfp (by k_is) (by k_is) (by k_is) (by k_is))
  (case zp63=>exact NH.dfp (by k_is) (by k_is) (by k_is) (by k_is))
  (case zp64=>exact NH.dfp (by k_is) (by k_is) (by k_is) (by k_is))
  (case zp65=>exact NH.dfp (by k_is) (by k_is) (by k_is) (by k_is))
  (case zp66=>exact NH.dfp (by k_is) (by k_is) (by k_is) (by k_is))
  (case zp67=>exact NH.dfp (by k_is) (by k_is) (by k_is) (by k_is))
  (case zp68=>exact NH.dfp (by k_is) (by k_is) (by k_is) (by k_is))
  (case zp69=>exact NH.dfp (by k_is) (by k_is) (by k_is) (by k_is))
  (case za70=>k_is)
  (case zl70=>k_is)
  (case zc70=>k_is)
  (case zk70=>k_is)
  (case zx0=>k_exc)
  (case zx1=>k_exc)
  (case zx2=>k_exc)
  (case zx3=>k_exc)
  (case zx4=>k_exc)
  (case zx5=>k_exc)
  (case zx6=>k_exc)
  (case zx7=>k_exc)
  (case zx9=>k_exc)
  (case zx10=>k_exc)
  (case zx11=>k_exc)
  (case zzl=>exact rfl)
  (case zzc=>exact rfl)
  (case zzg=>exact rfl)
end
